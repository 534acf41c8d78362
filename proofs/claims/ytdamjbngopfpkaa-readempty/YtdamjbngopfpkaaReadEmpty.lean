/- Of no bytes a form is read just if its least length is 0; else it is told that they are too few, at their end: for every form and base the law returns true. No condition. -/
import Derived.Test.YtdamjbngopfpkaaLw6
import Derived.Test.YtdamjbngopfpkaaRt6
namespace Go.Proofs.Ytdamjbngopfpkaa
open Go.ChangeShapes Go.WideShapes Go.ChangeAt Go.RowKit Va

theorem lens_zero {M : Int} (hM : 0 ≤ M) : ∀ (ps : List Fo) (a : Int), 0 ≤ a → (∀ p ∈ ps, 0 ≤ p.len false ∧ p.len false ≤ M) → a + ps.length * M ≤ 4611686018427387904 → (Fo.lens false a ps = 0 ↔ a = 0 ∧ ∀ p ∈ ps, p.len false = 0) := by
  intro ps
  induction ps with
  | nil => intro a _ _ _; simp [Fo.lens]
  | cons p ps ih =>
    intro a ha hp hb
    obtain ⟨l1, l2⟩ := hp p (by simp)
    have hx : ((p :: ps).length : Int) * M = ps.length * M + M := by rw [List.length_cons]; push_cast; rw [Int.add_mul]; omega
    rw [hx] at hb
    have hnn : 0 ≤ (ps.length : Int) * M := Int.mul_nonneg (by omega) hM
    rw [Fo.lens, Rd.plus_nat ha l1 (by omega), ih _ (by omega) (fun q hq => hp q (by simp [hq])) (by omega)]
    simp only [List.forall_mem_cons]
    constructor
    · rintro ⟨h1, h2⟩; exact ⟨by omega, by omega, h2⟩
    · rintro ⟨h1, h2, h3⟩; exact ⟨by omega, h3⟩

theorem row_empty : ∀ (ps : List Fo) (acc : List Va) (o c : Nat), (∀ p ∈ ps, (p.len false = 0 → (Rd.bd p []).e = 0) ∧ (p.len false ≠ 0 → (Rd.bd p []).e = 4)) → ((∀ p ∈ ps, p.len false = 0) → (Rd.row (Rd.bds ps) acc o c []).e = 0) ∧ (¬ (∀ p ∈ ps, p.len false = 0) → (Rd.row (Rd.bds ps) acc o c []).e = 4) := by
  intro ps
  induction ps with
  | nil => intro acc o c _; exact ⟨fun _ => rfl, fun h => absurd (fun p hp => by simp at hp) h⟩
  | cons p ps ih =>
    intro acc o c hp
    have e : Rd.row (Rd.bds (p :: ps)) acc o c [] = if (Rd.bd p []).e = 0 then Rd.row (Rd.bds ps) (acc ++ [(Rd.bd p []).v]) (o + (Rd.bd p []).n) (c + ((Rd.bd p []).c + 1)) (([] : List UInt8).drop (Rd.bd p []).n) else ⟨(Rd.bd p []).e, o + (Rd.bd p []).n, v0, c + ((Rd.bd p []).c + 1)⟩ := rfl
    rw [e, List.drop_nil]
    obtain ⟨h1, h2⟩ := hp p (by simp)
    obtain ⟨i1, i2⟩ := ih (acc ++ [(Rd.bd p []).v]) (o + (Rd.bd p []).n) (c + ((Rd.bd p []).c + 1)) (fun q hq => hp q (by simp [hq]))
    by_cases h0 : p.len false = 0
    · rw [if_pos (h1 h0)]
      refine ⟨fun h => i1 (fun q hq => h q (by simp [hq])), fun h => i2 (fun h' => h (fun q hq => ?_))⟩
      rcases List.mem_cons.1 hq with rfl | hq
      · exact h0
      · exact h' q hq
    · rw [if_neg (by rw [h2 h0]; omega)]
      exact ⟨fun h => absurd (h p (by simp)) h0, fun _ => h2 h0⟩

theorem bd_empty (f : Fo) : f.wrg = 0 → f.dep ≤ 8 → (f.len false = 0 → (Rd.bd f []).e = 0) ∧ (f.len false ≠ 0 → (Rd.bd f []).e = 4) := by
  induction f using Fo.ind with
  | H k s l h t A c ps ih =>
  intro hw hd
  obtain ⟨ha, hq, hmis⟩ := wrg_zero hw
  rcases alone_kind ha with rfl | rfl | rfl | rfl | rfl | rfl
  · have hs := Rd.alone_0 ha
    rw [Rd.bd_0, Rd.rdN, if_pos (by simp; omega), Fo.len, if_pos rfl]
    exact ⟨fun h => by omega, fun _ => rfl⟩
  · obtain ⟨s1, s3, l0, lh, hh, t1, t2, _⟩ := Rd.alone_1 (.inl rfl) ha
    have hE : Rd.lnE s l h t [] = 4 := by unfold Rd.lnE; rw [if_pos (by simp; omega)]
    rw [Rd.bd_1, Rd.rdO, hE, if_neg (by omega), Fo.len, if_neg (by omega), if_pos (by omega), if_neg (by simp), Rd.plus_nat (by omega) (by omega) (by omega)]
    exact ⟨fun h => by omega, fun _ => rfl⟩
  · obtain ⟨s1, s3, l0, lh, hh, t1, t2, _⟩ := Rd.alone_1 (.inr rfl) ha
    have hE : Rd.lnE s l h t [] = 4 := by unfold Rd.lnE; rw [if_pos (by simp; omega)]
    rw [Rd.bd_2, Rd.rdL, hE, if_neg (by omega), Fo.len, if_neg (by omega), if_pos (by omega), if_neg (by simp), Rd.plus_nat (by omega) (by omega) (by omega)]
    exact ⟨fun h => by omega, fun _ => rfl⟩
  · have hn := Rd.alone_3 ha
    have hin : Fo.inn (.mk 3 s l h t A c ps) = ps := by rw [Fo.inn, if_pos (by omega)]
    rw [hin] at hq
    have hdp : Fo.dep (.mk 3 s l h t A c ps) = Fo.deps ps + 1 := by rw [Fo.dep, if_pos (by omega)]
    have hdl : ∀ p ∈ ps, p.dep ≤ 7 := fun p hp => Nat.le_trans (Fo.deps_le.1 (Nat.le_refl _) p hp) (by omega)
    have hlen : ∀ p ∈ ps, 0 ≤ p.len false ∧ p.len false ≤ 36028797018963968 := by
      intro p hp
      obtain ⟨l1, l2⟩ := right_len p (hq p hp) (Nat.le_trans (hdl p hp) (by omega))
      have : (32 : Int) ^ (p.dep - 1) ≤ 32 ^ 6 := pow32_le (by have := hdl p hp; omega)
      have h6 : (32 : Int) ^ 6 = 1073741824 := by decide
      omega
    have hmul : (ps.length : Int) * 36028797018963968 ≤ 32 * 36028797018963968 := Int.mul_le_mul_of_nonneg_right (by omega) (by omega)
    have hz := lens_zero (M := 36028797018963968) (by omega) ps 0 (by omega) hlen (by omega)
    obtain ⟨i1, i2⟩ := row_empty ps [] 0 0 (fun p hp => ih p hp (hq p hp) (Nat.le_trans (hdl p hp) (by omega)))
    rw [Rd.bd_3, Fo.len, if_neg (by omega), if_neg (by omega), if_pos rfl]
    exact ⟨fun h => i1 (hz.1 h).2, fun h => i2 (fun h' => h (hz.2 ⟨rfl, h'⟩))⟩
  · obtain ⟨l0, lh, hh⟩ := Rd.alone_4 ha
    rw [Rd.bd_4, Rd.rdR, Fo.len, if_neg (by omega), if_neg (by omega), if_neg (by omega), if_pos rfl, if_neg (by simp)]
    by_cases hl : l = 0
    · refine ⟨fun _ => ?_, fun h => absurd hl h⟩
      rw [if_neg (by simp; omega), if_neg (by simp; omega)]
      rfl
    · refine ⟨fun h => absurd h hl, fun _ => ?_⟩
      rw [if_pos (by simp; omega)]
  · obtain ⟨l0, lh⟩ := Rd.alone_5 ha
    rw [Rd.bd_5, Rd.rdT, Fo.len, if_neg (by omega), if_neg (by omega), if_neg (by omega), if_neg (by omega)]
    by_cases hl : l = 0
    · refine ⟨fun _ => ?_, fun h => absurd hl h⟩
      subst hl
      rfl
    · refine ⟨fun h => absurd h hl, fun _ => ?_⟩
      rw [if_pos (by simp; omega)]

/-- What is read of no bytes. -/
theorem empty_good {f : Fo} (hc : f.chk = 0) : (rdAll f []).n = 0 ∧ (f.len false = 0 → (rdAll f []).e = 0 ∧ fit f (rdAll f []).v = (0, 0)) ∧ (f.len false ≠ 0 → (rdAll f []).e = 4 ∧ (rdAll f []).v = v0) := by
  obtain ⟨h1, h2, h3⟩ := rdAll_good (f := f) (xs := []) (by simp)
  have hn : (rdAll f []).n = 0 := Nat.le_zero.1 h1
  obtain ⟨hd, hw⟩ := chk_zero hc
  obtain ⟨b1, b2⟩ := bd_empty f hw hd
  have he : (rdAll f []).e = (Rd.bd f []).e := by
    unfold rdAll rdF
    rw [if_pos hc]
    rw [if_neg (fun h => Nat.not_lt_zero _ h.2)]
    rfl
  refine ⟨hn, fun h0 => ?_, fun h0 => ?_⟩
  · have e0 : (rdAll f []).e = 0 := he.trans (b1 h0)
    exact ⟨e0, by simpa using (h2 e0).2.2⟩
  · have e0 : (rdAll f []).e = 4 := he.trans (b2 h0)
    exact ⟨e0, h3 (by omega)⟩

set_option maxRecDepth 100000 in
set_option maxHeartbeats 2000000 in
theorem readEmpty_walk (w : World) (f : Fo) (hf : f.In w) (base : Int) (_hw : (Lit.int .i64 base).wf = true) :
    Calls Try.prog 7 #[f.val, .int .i64 base] w fun e w' => e = .returned (.bool true) ∧ Below w.heap.size w w' := by
  obtain ⟨p0, p1⟩ := plc_bd base
  have CR := Lib.hid (fun w' (g : Grew w w' none) (a : Int) (h0 : 0 ≤ a) (h1 : a < 1099511627776) => read_any w' f (hf.grew g) none 0 [] (by simp) (by omega) (fun h => by simp at h) a h0 (by simp; omega))
  have CG := Lib.hid (fun w' (g : Grew w w' none) => great6_any w' f (hf.grew g) none 0 0)
  have CP := Lib.hid (fun w' => place6_any w' base)
  have CK := Lib.hid (fun w' (g : Grew w w' none) => rchk_any w' f (hf.grew g))
  have CL := Lib.hid (fun w' (g : Grew w w' none) (h : f.chk = 0) => rleast_any f w' (hf.grew g) (chk_zero h).2)
  have CF := Lib.hid (fun w' (g : Grew w w' none) v (hv : v.In w') (h : f.chk = 0) (h0 : fit f v = (0, 0)) => rfits_ok w' f (hf.grew g) v hv h 0 h0)
  have EG := Lib.hid (fun (h : f.chk = 0) => empty_good h)
  have FN := Lib.hid (fit_nf f)
  generalize rdAll f [] = R at *
  generalize plc base = pb at *
  generalize f.len false = LE at *
  generalize fit f = FT at *
  generalize hch : f.chk = CH at *
  clear hf hch
  simp only [val_eq, vval_eq] at *
  simp only [List.length_nil] at *
  have HW := Lib.hid (Whole.new w #[.int .i64 f.k, .int .i64 f.s, .int .i64 f.l, .int .i64 f.h, .int .i64 f.t, .slice f.A f.ps.length f.c] 24)
  have HG := Lib.hid (grew_alloc (grew_refl w none) (.cells #[.int .i64 f.k, .int .i64 f.s, .int .i64 f.l, .int .i64 f.h, .int .i64 f.t, .slice f.A f.ps.length f.c] 24))
  go_enter Try.func7, Try.ntmps7
  go_wp2_with fail
  generalize w.alloc (.cells #[.int .i64 f.k, .int .i64 f.s, .int .i64 f.l, .int .i64 f.h, .int .i64 f.t, .slice f.A f.ps.length f.c] 24) = W at *
  generalize w.heap.size = q at *
  refine (alive6_any W).mono ?_
  rintro e w1 ⟨rfl, g1⟩
  have HG1 := Lib.hid (grew_trans HG.out g1)
  have HW1 := Lib.hid (HW.out.grew g1 (by simp))
  obtain ⟨b0, b1, b2, b3, b4, b5⟩ := HW1.out.six
  clear g1 HG HW
  go_wp2_with fail
  refine (CG.out w1 HG1.out).mono ?_
  rintro e w2 ⟨rfl, g2⟩
  have HG2 := Lib.hid (grew_trans HG1.out g2)
  have HW2 := Lib.hid (HW1.out.grew g2 (by simp))
  clear g2 HG1 HW1 b0 b1 b2 b3 b4 b5 CG
  by_cases hbig : 500 < f.cnt ∨ 2000 < 0
  · rw [decide_eq_true hbig]
    go_wp2_with fail
    refine (alive6_any w2).mono ?_
    rintro e w3 ⟨rfl, g3⟩
    have HG3 := Lib.hid (grew_trans HG2.out g3)
    clear g3
    go_wp2_with fail
    go_ret
    exact ⟨rfl, grew_below HG3.out (Nat.le_refl _) (fun _ h => by cases h)⟩
  · rw [decide_eq_false hbig]
    clear hbig
    obtain ⟨b0, b1, b2, b3, b4, b5⟩ := HW2.out.six
    go_wp2_with fail
    refine (CK.out w2 HG2.out).mono ?_
    rintro e w3 ⟨rfl, g3⟩
    have HG3 := Lib.hid (grew_trans HG2.out g3)
    have HW3 := Lib.hid (HW2.out.grew g3 (by simp))
    clear g3 HG2 HW2 b0 b1 b2 b3 b4 b5 CK
    by_cases hc : CH = 0
    · subst hc
      obtain ⟨en, e1, e2⟩ := EG.out rfl
      go_wp2_with fail
      refine (CP.out w3).mono ?_
      rintro e w4 ⟨rfl, rfl⟩
      clear CP
      obtain ⟨b0, b1, b2, b3, b4, b5⟩ := HW3.out.six
      go_wp2_with fail
      refine (CR.out w3 HG3.out pb p0 p1).mono ?_
      rintro e w4 ⟨v, rfl, hv, hnf, g4⟩
      have HG4 := Lib.hid (grew_trans HG3.out g4)
      have HW4 := Lib.hid (HW3.out.grew g4 (by simp))
      have HV := Lib.hid (show v.In w4 ∧ v.nf = R.v from ⟨hv, hnf⟩)
      rw [en, show pb + ((0 : Nat) : Int) = pb by simp]
      clear hv hnf g4 b0 b1 b2 b3 b4 b5 HG3 HW3 en
      have E1 := Lib.hid e1
      have E2 := Lib.hid e2
      clear e1 e2 EG
      go_upto_region 5 with (fail)
      have ga := grew_alloc (grew_refl w4 none) (.cells #[.int .u64 v.n, .slice v.B v.bs.length v.d, .slice v.A v.ls.length v.c] 35)
      have NV := Lib.hid (Whole.new w4 #[.int .u64 v.n, .slice v.B v.bs.length v.d, .slice v.A v.ls.length v.c] 35)
      have HG5 := Lib.hid (grew_trans HG4.out ga)
      have HW5 := Lib.hid (HW4.out.grew ga (by simp))
      obtain ⟨b0, b1, b2, b3, b4, b5⟩ := HW5.out.six
      have HV5 := Lib.hid (show v.In _ ∧ v.nf = R.v from ⟨HV.out.1.grew ga, HV.out.2⟩)
      clear ga HG4 HW4 HV
      generalize w4.alloc (.cells #[.int .u64 v.n, .slice v.B v.bs.length v.d, .slice v.A v.ls.length v.c] 35) = w5 at *
      generalize w4.heap.size = z at *
      go_wp2_with fail
      refine (CL.out w5 HG5.out (by trivial)).mono ?_
      rintro e w6 ⟨rfl, g6⟩
      have HG6 := Lib.hid (grew_trans HG5.out g6)
      have HV6 := Lib.hid (show v.In w6 ∧ v.nf = R.v from ⟨HV5.out.1.grew g6, HV5.out.2⟩)
      have hw6 := HW5.out.grew g6 (by simp)
      have nv6 := NV.out.grew g6 (by simp)
      clear b0 b1 b2 b3 b4 b5 g6 HG5 HW5 HV5 NV CL
      obtain ⟨b0, b1, b2, b3, b4, b5⟩ := hw6.six
      obtain ⟨d0, d1, d2⟩ := nv6.three
      clear hw6 nv6
      by_cases hle : LE = 0
      · have hb : (LE == 0) = true := by simpa using hle
        obtain ⟨e0, e1⟩ := E1.out hle
        have hfit : FT v = (0, 0) := by rw [← FN.out v, HV6.out.2]; exact e1
        have HFT := Lib.hid hfit
        rw [e0] at *
        clear e0 e1 hle hfit
        go_wp2_with fail
        refine (CF.out w6 HG6.out v HV6.out.1 (by trivial) HFT.out).mono ?_
        rintro e w7 ⟨rfl, g7⟩
        have HG7 := Lib.hid (grew_trans HG6.out g7)
        clear g7 b0 b1 b2 b3 b4 b5 d0 d1 d2
        go_wp2_with fail
        go_ret
        exact ⟨by simp, grew_below HG7.out (Nat.le_refl _) (fun _ h => by cases h)⟩
      · have hb : (LE == 0) = false := by simpa using hle
        obtain ⟨e0, e1⟩ := E2.out hle
        have CS := Lib.hid (rsamev_any v v0 w6 HV6.out.1 (v0_in _))
        have HSM := Lib.hid (same_of (a := v) (b := v0) (u := v0) (HV6.out.2.trans e1) rfl)
        rw [e0] at *
        rw [vval_eq] at CS
        clear e0 e1 hle
        go_wp2_with fail
        refine CS.out.mono ?_
        rintro e w7 ⟨rfl, g7⟩
        rw [HSM.out]
        have HG7 := Lib.hid (grew_trans HG6.out g7)
        clear g7 b0 b1 b2 b3 b4 b5 d0 d1 d2 CS
        go_wp2_with fail
        go_ret
        exact ⟨by simp, grew_below HG7.out (Nat.le_refl _) (fun _ h => by cases h)⟩
    · have hb : (CH != 0) = true := by simpa using hc
      go_wp2_with fail
      refine (alive6_any w3).mono ?_
      rintro e w4 ⟨rfl, g4⟩
      have HG4 := Lib.hid (grew_trans HG3.out g4)
      clear g4
      go_wp2_with fail
      go_ret
      exact ⟨rfl, grew_below HG4.out (Nat.le_refl _) (fun _ h => by cases h)⟩

set_option maxRecDepth 100000 in
theorem readEmpty_lifted (os : Os) (started : os.Started) (H : Type) (enc : TypeId × Value → H) :
    ReturnsInHanded {} Try.checked os 7 .any (Rows.readEmptySpec.pre6 enc Try.prog Try.f7 Rows.readEmptyRow.domain false) (Rows.readEmptySpec.post enc Try.prog Try.f7 false true false false) := by
  refine returnsInHanded_of_change_sized (C := Try.checked) own started (by kernel_rfl) Try.func7
    (ChangeSpec.witness6 (enc := enc) (C := Try.checked) false ⟨#[], #[.agg #[.int .i64 0, .int .i64 0, .int .i64 0, .int .i64 0, .int .i64 0, .slice none 0 0], .int .i64 0], []⟩ 8 (by kernel_rfl) (by kernel_rfl) (by kernel_rfl) (by kernel_rfl)) ?_
  intro W base args ds gs before hval0 hW hcnd hsz0 _
  have hval : ∀ (j : Nat) t v, Try.f7.params[j]? = some t → args[j]? = some v → Value.okWide Try.prog W .any base t v := hval0
  have hsz : (DataW.weightsEach Try.prog (Try.f7.params.toList ++ Rows.readEmptySpec.plain.varTypes Try.prog) (ds ++ gs)).all (· ≤ reachBytes) = true := hsz0
  have hW' := hW
  obtain ⟨p, q, hA0, hV, rfl, hfz, hnd⟩ := hW
  have hA : DataW.TrodAll enc Try.prog W 0 (fun _ => true) true Try.f7.params.toList args.toList ds p := hA0
  rw [Try.params7] at hA hval hsz
  obtain ⟨v0, vs0, d0, ds0, p0, q0, hargs, rfl, rfl, h0, r0⟩ := trodAll_cons hA
  obtain ⟨v1, vs1, d1, ds1, p1, q1, rfl, rfl, rfl, h1, r1⟩ := trodAll_cons r0
  obtain ⟨rfl, rfl, rfl⟩ := trodAll_nil r1
  obtain rfl : args = #[v0, v1] := by cases args; simp_all
  obtain ⟨rfl, rfl⟩ := trodVars_none hV
  have k0 := h0
  have lt0 : ∀ x ∈ p0, x.block < W.heap.size := by obtain ⟨m, hm⟩ := k0; exact DataW.trod_lt m _ _ _ hm
  obtain ⟨f0, rfl, n0⟩ := arg_form (hval 0 24 v0 rfl rfl) h0 hsz (j := 0) rfl rfl
  obtain ⟨a1, rfl, rfl, rfl, w1⟩ := open_int Try.underlying3 (hval 1 3 v1 rfl rfl) h1
  clear hA0 hval0 hsz0
  refine (readEmpty_walk W f0 n0 a1 w1).mono fun e W' ⟨he, bel⟩ => ?_
  subst he
  exact ⟨_, rfl, _, _, _, [], _, [], hW', trodAll_mk1 (shut_bool Try.underlying4 _), (trodAll_cons_mk (Below.trod laidOut (by kernel_rfl) (of_decide_eq_true (by kernel_rfl)) k0 bel lt0) (trodAll_cons_mk (shut_int Try.underlying3 w1) trodAll_mk0)), rfl, bel.frame _, fun h => by cases h⟩

theorem readEmpty_over : Rows.readEmptyRow.holds Try.pinned (OpenSpec.ofChange Rows.readEmptySpec) :=
  OpenClaim.holds_of_wide 7 Try.f7 rfl rfl rfl rfl rfl rfl rfl ⟨rfl, rfl, rfl, rfl, rfl⟩ rfl rfl rfl rfl rfl (by kernel_rfl) Try.func7 (by kernel_rfl)
    (of_decide_eq_true (by kernel_rfl)) (by unfold Func.isWrapper; first | (rw [if_pos (by decide +kernel)]; kernel_rfl) | (rw [if_neg (by decide +kernel)]; exact ⟨rfl, rfl⟩))
    (fun os started H enc _ => readEmpty_lifted os started H enc)

theorem readEmpty_holds : Rows.ReadEmptySaid := readEmpty_over
#print axioms readEmpty_holds
end Go.Proofs.Ytdamjbngopfpkaa

