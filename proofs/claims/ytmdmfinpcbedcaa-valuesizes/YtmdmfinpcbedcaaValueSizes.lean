/- The size of a value that fits its form is from the form's least length to its greatest, and of one that doesn't it is 0: for every form and value the law returns true. No condition. -/
import Derived.Test.YtmdmfinpcbedcaaVal
import Derived.Test.YtmdmfinpcbedcaaVb
import Derived.Test.YtmdmfinpcbedcaaVg
import Derived.Test.YtmdmfinpcbedcaaRm
import Derived.Test.YtmdmfinpcbedcaaOv
namespace Go.Proofs.Ytmdmfinpcbedcaa
open Go.ChangeShapes Go.WideShapes Go.ChangeAt Go.RowKit Va

/-- What is told of a size. -/
theorem meas_told (f : Fo) (v : Va) : ((meas f v).2 ≠ 0 → (meas f v).1 = 0) ∧ ((meas f v).2 = 0 → f.wrg = 0 ∧ f.len false ≤ (meas f v).1 ∧ (meas f v).1 ≤ f.len true) := by
  by_cases h : f.chk = 0
  · rw [meas_ok h]
    obtain ⟨hd, hw⟩ := chk_zero h
    exact ⟨fit_none f v, fun h0 => ⟨hw, fit_bounds f hw hd v h0⟩⟩
  · rw [meas_no h]
    exact ⟨fun _ => rfl, fun h0 => absurd h0 h⟩

set_option maxRecDepth 100000 in
set_option maxHeartbeats 2000000 in
theorem valueSizes_walk (w : World) (f : Fo) (hf : f.In w) (v : Va) (hv : v.In w) :
    Calls Try.prog 5 #[f.val, v.val] w fun e w' => e = .returned (.bool true) ∧ Below w.heap.size w w' := by
  have HF := Lib.hid hf
  have HV := Lib.hid hv
  clear hf hv
  obtain ⟨t1, t2⟩ := meas_told f v
  have CS := Lib.hid (fun w' (g : Grew w w' none) => sizes_any w' f v (HF.out.grew g) (HV.out.grew g))
  have CF := Lib.hid (fun w' (g : Grew w w' none) => fits_any w' f v (HF.out.grew g) (HV.out.grew g))
  have CL := Lib.hid (fun w' (g : Grew w w' none) (h : f.wrg = 0) => rleast_any f w' (HF.out.grew g) h)
  have CM := Lib.hid (fun w' (g : Grew w w' none) (h : f.wrg = 0) => rmost_any f w' (HF.out.grew g) h)
  generalize (meas f v).1 = N at *
  generalize (meas f v).2 = E at *
  generalize f.len false = LO at *
  generalize f.len true = HI at *
  have T1 := Lib.hid t1
  have T2 := Lib.hid t2
  clear t1 t2
  rw [val_eq, vval_eq] at *
  go_enter Try.func5, Try.ntmps5
  go_wp2_with fail
  have hw2 := Whole.new (w.alloc (.cells #[.int .i64 f.k, .int .i64 f.s, .int .i64 f.l, .int .i64 f.h, .int .i64 f.t, .slice f.A f.ps.length f.c] 31)) #[.int .u64 v.n, .slice v.B v.bs.length v.d, .slice v.A v.ls.length v.c] 26
  have hw1 := (Whole.new w #[.int .i64 f.k, .int .i64 f.s, .int .i64 f.l, .int .i64 f.h, .int .i64 f.t, .slice f.A f.ps.length f.c] 31).grew (grew_alloc (grew_refl _ none) (.cells #[.int .u64 v.n, .slice v.B v.bs.length v.d, .slice v.A v.ls.length v.c] 26)) (by simp)
  have hg2 := grew_alloc (grew_alloc (grew_refl w none) (.cells #[.int .i64 f.k, .int .i64 f.s, .int .i64 f.l, .int .i64 f.h, .int .i64 f.t, .slice f.A f.ps.length f.c] 31)) (.cells #[.int .u64 v.n, .slice v.B v.bs.length v.d, .slice v.A v.ls.length v.c] 26)
  have hsz : (w.alloc (.cells #[.int .i64 f.k, .int .i64 f.s, .int .i64 f.l, .int .i64 f.h, .int .i64 f.t, .slice f.A f.ps.length f.c] 31)).heap.size = w.heap.size + 1 := by simp
  rw [hsz] at hw2
  clear hsz
  generalize (w.alloc (.cells #[.int .i64 f.k, .int .i64 f.s, .int .i64 f.l, .int .i64 f.h, .int .i64 f.t, .slice f.A f.ps.length f.c] 31)).alloc (.cells #[.int .u64 v.n, .slice v.B v.bs.length v.d, .slice v.A v.ls.length v.c] 26) = W2 at *
  have hB : ∃ B, B = w.heap.size := ⟨_, rfl⟩
  generalize w.heap.size + 1 = qv at *
  generalize hqf : w.heap.size = qf at *
  have HQF := Lib.hid hqf
  have HW1 := Lib.hid hw1
  have HW2 := Lib.hid hw2
  have HG := Lib.hid hg2
  clear hw1 hw2 hg2 hB hqf
  refine (alive5_any W2).mono ?_
  rintro e w3 ⟨rfl, g3⟩
  obtain ⟨v0, v1, v2⟩ := (HW2.out.grew g3 (by simp)).three
  obtain ⟨c0, c1, c2, c3, c4, c5⟩ := (HW1.out.grew g3 (by simp)).six
  have HG3 := Lib.hid (grew_trans HG.out g3)
  have HF3 := Lib.hid (HW1.out.grew g3 (by simp))
  have HV3 := Lib.hid (HW2.out.grew g3 (by simp))
  clear g3 HG HW1 HW2
  go_wp2_with fail
  have hl := Va.Lie.whole (Whole.new w3 #[.int .u64 v.n, .slice v.B v.bs.length v.d, .slice v.A v.ls.length v.c] 26) (ps := [v]) rfl
  have hg := grew_alloc (grew_refl w3 none) (.cells #[.int .u64 v.n, .slice v.B v.bs.length v.d, .slice v.A v.ls.length v.c] 26)
  clear v0 v1 v2 c0 c1 c2 c3 c4 c5
  generalize w3.alloc (.cells #[.int .u64 v.n, .slice v.B v.bs.length v.d, .slice v.A v.ls.length v.c] 26) = W4 at *
  generalize w3.heap.size = ql at *
  refine (vgreat_any W4 f (some ⟨ql, 0, none⟩) 1 [v] (HF.out.grew (grew_trans HG3.out hg)) hl (fun u hu => by rw [List.mem_singleton] at hu; subst hu; exact HV.out.grew (grew_trans HG3.out hg)) (by simp)).mono ?_
  rintro e w5 ⟨r, rfl, r0, r1, g5⟩
  obtain ⟨v0, v1, v2⟩ := (HV3.out.grew (grew_trans hg g5) (by simp)).three
  obtain ⟨c0, c1, c2, c3, c4, c5⟩ := (HF3.out.grew (grew_trans hg g5) (by simp)).six
  have HG5 := Lib.hid (grew_trans HG3.out (grew_trans hg g5))
  have HF5 := Lib.hid (HF3.out.grew (grew_trans hg g5) (by simp))
  have HV5 := Lib.hid (HV3.out.grew (grew_trans hg g5) (by simp))
  clear hl hg g5 HG3 HF3 HV3
  by_cases hr : 0 < r
  · clear v0 v1 v2 c0 c1 c2 c3 c4 c5
    go_wp2_with fail
    refine (alive5_any w5).mono ?_
    rintro e w6 ⟨rfl, g6⟩
    go_wp2_with fail
    go_ret
    exact ⟨rfl, grew_below (grew_trans HG5.out g6) (by rw [HQF.out]; exact Nat.le_refl _) (fun _ h => by cases h)⟩
  · go_wp2_with fail
    refine (CS.out w5 HG5.out).mono ?_
    rintro e w6 ⟨rfl, g6⟩
    have HG6 := Lib.hid (grew_trans HG5.out g6)
    clear v0 v1 v2 c0 c1 c2 c3 c4 c5
    obtain ⟨v0, v1, v2⟩ := (HV5.out.grew g6 (by simp)).three
    obtain ⟨c0, c1, c2, c3, c4, c5⟩ := (HF5.out.grew g6 (by simp)).six
    have HF6 := Lib.hid (HF5.out.grew g6 (by simp))
    clear g6
    go_wp2_with fail
    refine (CF.out w6 HG6.out).mono ?_
    rintro e w7 ⟨rfl, g7⟩
    have HG7 := Lib.hid (grew_trans HG6.out g7)
    clear v0 v1 v2 c0 c1 c2 c3 c4 c5
    obtain ⟨c0, c1, c2, c3, c4, c5⟩ := (HF6.out.grew g7 (by simp)).six
    have HF7 := Lib.hid (HF6.out.grew g7 (by simp))
    clear g7
    by_cases hE : E = 0
    · obtain ⟨hw, hlo, hhi⟩ := T2.out hE
      subst hE
      have HW := Lib.hid hw
      clear hw
      go_wp2_with fail
      refine (CL.out w7 HG7.out HW.out).mono ?_
      rintro e w8 ⟨rfl, g8⟩
      have HG8 := Lib.hid (grew_trans HG7.out g8)
      clear c0 c1 c2 c3 c4 c5
      obtain ⟨c0, c1, c2, c3, c4, c5⟩ := (HF7.out.grew g8 (by simp)).six
      clear g8
      have hb1 : decide (LO ≤ N) = true := by simpa using hlo
      go_wp2_with fail
      refine (CM.out w8 HG8.out HW.out).mono ?_
      rintro e w9 ⟨rfl, g9⟩
      have HG9 := Lib.hid (grew_trans HG8.out g9)
      clear c0 c1 c2 c3 c4 c5 g9
      have hb2 : decide (N ≤ HI) = true := by simpa using hhi
      go_wp2_with fail
      go_ret
      exact ⟨rfl, grew_below HG9.out (by rw [HQF.out]; exact Nat.le_refl _) (fun _ h => by cases h)⟩
    · have hN := T1.out hE
      subst hN
      have hb : (E != 0) = true := by simpa using hE
      clear c0 c1 c2 c3 c4 c5
      go_wp2_with fail
      go_ret
      exact ⟨rfl, grew_below HG7.out (by rw [HQF.out]; exact Nat.le_refl _) (fun _ h => by cases h)⟩

set_option maxRecDepth 100000 in
theorem valueSizes_lifted (os : Os) (started : os.Started) (H : Type) (enc : TypeId × Value → H) :
    ReturnsInHanded {} Try.checked os 5 .any (Rows.valueSizesSpec.pre6 enc Try.prog Try.f5 Rows.valueSizesRow.domain false) (Rows.valueSizesSpec.post enc Try.prog Try.f5 false true false false) := by
  refine returnsInHanded_of_change_sized (C := Try.checked) own started (by kernel_rfl) Try.func5
    (ChangeSpec.witness6 (enc := enc) (C := Try.checked) false ⟨#[], #[.agg #[.int .i64 0, .int .i64 0, .int .i64 0, .int .i64 0, .int .i64 0, .slice none 0 0], .agg #[.int .u64 0, .slice none 0 0, .slice none 0 0]], []⟩ 8 (by kernel_rfl) (by kernel_rfl) (by kernel_rfl) (by kernel_rfl)) ?_
  intro W base args ds gs before hval0 hW hcnd hsz0 _
  have hval : ∀ (j : Nat) t v, Try.f5.params[j]? = some t → args[j]? = some v → Value.okWide Try.prog W .any base t v := hval0
  have hsz : (DataW.weightsEach Try.prog (Try.f5.params.toList ++ Rows.valueSizesSpec.plain.varTypes Try.prog) (ds ++ gs)).all (· ≤ reachBytes) = true := hsz0
  have hW' := hW
  obtain ⟨p, q, hA0, hV, rfl, hfz, hnd⟩ := hW
  have hA : DataW.TrodAll enc Try.prog W 0 (fun _ => true) true Try.f5.params.toList args.toList ds p := hA0
  rw [Try.params5] at hA hval hsz
  obtain ⟨v0, vs0, d0, ds0, p0, q0, hargs, rfl, rfl, h0, r0⟩ := trodAll_cons hA
  obtain ⟨v1, vs1, d1, ds1, p1, q1, rfl, rfl, rfl, h1, r1⟩ := trodAll_cons r0
  obtain ⟨rfl, rfl, rfl⟩ := trodAll_nil r1
  obtain rfl : args = #[v0, v1] := by cases args; simp_all
  obtain ⟨rfl, rfl⟩ := trodVars_none hV
  have k0 := h0
  have lt0 : ∀ x ∈ p0, x.block < W.heap.size := by obtain ⟨m, hm⟩ := k0; exact DataW.trod_lt m _ _ _ hm
  obtain ⟨f0, rfl, n0⟩ := arg_form (hval 0 31 v0 rfl rfl) h0 hsz (j := 0) rfl rfl
  have k1 := h1
  have lt1 : ∀ x ∈ p1, x.block < W.heap.size := by obtain ⟨m, hm⟩ := k1; exact DataW.trod_lt m _ _ _ hm
  obtain ⟨f1, rfl, n1⟩ := arg_value (hval 1 26 v1 rfl rfl) h1 hsz (j := 1) rfl rfl
  clear hA0 hval0 hsz0
  refine (valueSizes_walk W f0 n0 f1 n1).mono fun e W' ⟨he, bel⟩ => ?_
  subst he
  exact ⟨_, rfl, _, _, _, [], _, [], hW', trodAll_mk1 (shut_bool Try.underlying4 _), (trodAll_cons_mk (Below.trod laidOut (by kernel_rfl) (of_decide_eq_true (by kernel_rfl)) k0 bel lt0) (trodAll_cons_mk (Below.trod laidOut (by kernel_rfl) (of_decide_eq_true (by kernel_rfl)) k1 bel lt1) trodAll_mk0)), rfl, bel.frame _, fun h => by cases h⟩

theorem valueSizes_over : Rows.valueSizesRow.holds Try.pinned (OpenSpec.ofChange Rows.valueSizesSpec) :=
  OpenClaim.holds_of_wide 5 Try.f5 rfl rfl rfl rfl rfl rfl rfl ⟨rfl, rfl, rfl, rfl, rfl⟩ rfl rfl rfl rfl rfl (by kernel_rfl) Try.func5 (by kernel_rfl)
    (of_decide_eq_true (by kernel_rfl)) (by unfold Func.isWrapper; first | (rw [if_pos (by decide +kernel)]; kernel_rfl) | (rw [if_neg (by decide +kernel)]; exact ⟨rfl, rfl⟩))
    (fun os started H enc _ => valueSizes_lifted os started H enc)

theorem valueSizes_holds : Rows.ValueSizesSaid := valueSizes_over
#print axioms valueSizes_holds
end Go.Proofs.Ytmdmfinpcbedcaa

