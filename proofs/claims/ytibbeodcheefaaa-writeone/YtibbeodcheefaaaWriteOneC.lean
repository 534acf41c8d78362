/- What is read of bytes by a form is written as those bytes: for every form and bytes the law returns true. No condition. -/
import Derived.Test.YtibbeodcheefaaaQ14
import Derived.Test.YtibbeodcheefaaaQ23
import Derived.Test.YtibbeodcheefaaaQ22
namespace Go.Proofs.Ytibbeodcheefaaa
open Go.ChangeShapes Go.WideShapes Go.ChangeAt Go.RowKit Va

theorem wr_rdAll {f : Fo} {xs : List UInt8} (hx : xs.length ≤ 1000000000000000) (he : (rdAll f xs).e = 0) : f.chk = 0 ∧ f.wrg = 0 ∧ fit f (rdAll f xs).v = ((xs.length : Int), 0) ∧ Rd.wr f (rdAll f xs).v = xs := by
  obtain ⟨_, h2, _⟩ := rdAll_good (f := f) hx
  obtain ⟨hc, hn, hf⟩ := h2 he
  obtain ⟨hd, hw⟩ := chk_zero hc
  refine ⟨hc, hw, hf, ?_⟩
  unfold rdAll at he hn ⊢
  by_cases h : (rdF f xs).e = 0 ∧ (rdF f xs).n < xs.length
  · rw [if_pos h] at he; exact absurd he (show ¬ (6 : Int) = 0 by omega)
  · rw [if_neg h] at he hn ⊢
    unfold rdF at he hn ⊢
    rw [if_pos hc] at he hn ⊢
    have hb := Rd.wr_bd f hw hd xs hx he
    have hn' : (Rd.bd f xs).n = xs.length := hn
    rw [hn', List.take_length] at hb
    exact hb

set_option maxRecDepth 100000 in
set_option maxHeartbeats 2000000 in
theorem writeOne_walk (w : World) (f : Fo) (hf : f.In w) (A : Option Addr) (c : Nat) (xs : List UInt8) (hl : xs.length ≤ c) (_hc : c ≤ 140737488351232) (hb : Byt w w.heap.size A xs) :
    Calls Try.prog 4 #[f.val, .slice A xs.length c] w fun e w' => e = .returned (.bool true) ∧ Below w.heap.size w w' := by
  have CG := Lib.hid (fun w' (g : Grew w w' none) => gr0_any w' f (hf.grew g))
  have CR := Lib.hid (show ∀ w', Grew w w' none → xs.length ≤ 2000 → Calls Try.prog 12 #[f.val, .slice A xs.length c, .int .i64 0] w' fun e w'' => ∃ v : Va, e = .returned (.tuple #[v.val, .int .i64 ((rdAll f xs).n : Int), .int .i64 (rdAll f xs).e]) ∧ v.In w'' ∧ v.nf = (rdAll f xs).v ∧ Grew w' w'' none from
    fun w' g hx => (read_any w' f (hf.grew g) A c xs hl (by omega) ((hb.grew g (fun _ h => by cases h)).more g.size) 0 (by omega) (by omega)).mono (fun e w'' ⟨v, h1, h2⟩ => ⟨v, by rw [h1, Int.zero_add], h2⟩))
  have CW := Lib.hid (show ∀ w' (v : Va), Grew w w' none → xs.length ≤ 2000 → v.In w' → v.nf = (rdAll f xs).v → (rdAll f xs).e = 0 → Calls Try.prog 10 #[f.val, v.val] w' fun e w'' => ∃ B d, e = .returned (.tuple #[.slice B xs.length d, .int .i64 0]) ∧ Byt w'' w''.heap.size B xs ∧ Grew w' w'' none from
    fun w' v g hx hv hnf he => by
      obtain ⟨h1, h2, h3, h4⟩ := wr_rdAll (f := f) (xs := xs) (by omega) he
      have e1 : fit f v = ((xs.length : Int), 0) := by rw [← fit_nf f v, hnf]; exact h3
      have e2 : Rd.wr f v = xs := by rw [← Rd.wr_nf f v, hnf]; exact h4
      have hc := write_ok w' f (hf.grew g) v hv h2 _ e1 (by rw [meas_ok h1]; exact e1) (by rw [e2]; omega)
      rw [e2] at hc
      refine hc.mono ?_
      rintro e w'' ⟨vb, rfl, y1, _, y3⟩
      obtain ⟨B, d, rfl, _, hb⟩ := byt_of_own y1
      exact ⟨B, d, rfl, hb, y3⟩)
  have HB := Lib.hid hb
  have HW := Lib.hid (Whole.new w #[.int .i64 f.k, .int .i64 f.s, .int .i64 f.l, .int .i64 f.h, .int .i64 f.t, .slice f.A f.ps.length f.c] 24)
  have HG := Lib.hid (grew_alloc (grew_refl w none) (.cells #[.int .i64 f.k, .int .i64 f.s, .int .i64 f.l, .int .i64 f.h, .int .i64 f.t, .slice f.A f.ps.length f.c] 24))
  clear hf hb
  rw [val_eq] at *
  generalize rdAll f xs = R at *
  generalize (if 500 < f.cnt then (1 : Int) else 0) = GR at *
  go_enter Try.func4, Try.ntmps4
  go_wp2_with fail
  generalize w.alloc (.cells #[.int .i64 f.k, .int .i64 f.s, .int .i64 f.l, .int .i64 f.h, .int .i64 f.t, .slice f.A f.ps.length f.c] 24) = W at *
  generalize hq : w.heap.size = q at *
  have HQ := Lib.hid hq
  clear hq
  refine (alive7_any W).mono ?_
  rintro e w1 ⟨rfl, g1⟩
  have HG1 := Lib.hid (grew_trans HG.out g1)
  have HW1 := Lib.hid (HW.out.grew g1 (by simp))
  clear g1 HG HW
  obtain ⟨b0, b1, b2, b3, b4, b5⟩ := HW1.out.six
  go_wp2_with fail
  refine (CG.out w1 HG1.out).mono ?_
  rintro e w2 ⟨rfl, g2⟩
  have HG2 := Lib.hid (grew_trans HG1.out g2)
  have HW2 := Lib.hid (HW1.out.grew g2 (by simp))
  clear g2 HG1 HW1 CG b0 b1 b2 b3 b4 b5
  by_cases hbig : 0 < GR ∨ 2000 < xs.length
  · have hcase : 0 < GR ∨ (¬ 0 < GR ∧ 2000 < xs.length) := by omega
    clear hbig
    rcases hcase with h1 | ⟨h1, h2⟩
    all_goals
      go_wp2_with fail
      refine (alive7_any w2).mono ?_
      rintro e w3 ⟨rfl, g3⟩
      have HG3 := Lib.hid (grew_trans HG2.out g3)
      clear g3
      go_wp2_with fail
      go_ret
      exact ⟨rfl, grew_below HG3.out (by rw [HQ.out]; exact Nat.le_refl _) (fun _ h => by cases h)⟩
  · have h1 : ¬ 0 < GR := by omega
    have h2 : ¬ 2000 < xs.length := by omega
    clear hbig
    obtain ⟨b0, b1, b2, b3, b4, b5⟩ := HW2.out.six
    go_wp2_with fail
    refine (CR.out w2 HG2.out (by omega)).mono ?_
    rintro e w3 ⟨v, rfl, hv, hnf, g3⟩
    have HG3 := Lib.hid (grew_trans HG2.out g3)
    have HW3 := Lib.hid (HW2.out.grew g3 (by simp))
    have HV := Lib.hid (show v.In w3 ∧ v.nf = R.v from ⟨hv, hnf⟩)
    rw [vval_eq]
    clear hv hnf g3 b0 b1 b2 b3 b4 b5 HG2 HW2 CR
    go_upto_region 4 with (fail)
    have ga := grew_alloc (grew_refl w3 none) (.cells #[.int .u64 v.n, .slice v.B v.bs.length v.d, .slice v.A v.ls.length v.c] 29)
    obtain ⟨d0, d1, d2⟩ := (Whole.new w3 #[.int .u64 v.n, .slice v.B v.bs.length v.d, .slice v.A v.ls.length v.c] 29).three
    have HG5 := Lib.hid (grew_trans HG3.out ga)
    obtain ⟨b0, b1, b2, b3, b4, b5⟩ := (HW3.out.grew ga (by simp)).six
    have HV5 := Lib.hid (show v.In _ ∧ v.nf = R.v from ⟨HV.out.1.grew ga, HV.out.2⟩)
    clear ga HG3 HW3 HV
    generalize w3.alloc (.cells #[.int .u64 v.n, .slice v.B v.bs.length v.d, .slice v.A v.ls.length v.c] 29) = w5 at *
    generalize w3.heap.size = z at *
    by_cases he : R.e = 0
    · have hc := CW.out w5 v HG5.out (by omega) HV5.out.1 HV5.out.2 he
      rw [vval_eq] at hc
      rw [he]
      have HC := Lib.hid hc
      clear hc he
      go_wp2_with fail
      refine HC.out.mono ?_
      rintro e w6 ⟨B, d, rfl, hb6, g6⟩
      have HG6 := Lib.hid (grew_trans HG5.out g6)
      have cv1 := conv_txt w6 Try.underlying26 Try.underlying5 Try.underlying9 hb6 rfl d
      have cv2 := conv_txt w6 Try.underlying26 Try.underlying5 Try.underlying9 (HB.out.grew HG6.out (fun _ h => by cases h)) rfl c
      clear g6 hb6 HC b0 b1 b2 b3 b4 b5 d0 d1 d2
      go_wp2_with fail
      go_ret
      exact ⟨by simp, grew_below HG6.out (by rw [HQ.out]; exact Nat.le_refl _) (fun _ h => by cases h)⟩
    · clear b0 b1 b2 b3 b4 b5 d0 d1 d2
      go_wp2_with fail
      go_ret
      exact ⟨rfl, grew_below HG5.out (by rw [HQ.out]; exact Nat.le_refl _) (fun _ h => by cases h)⟩

set_option maxRecDepth 100000 in
theorem writeOne_lifted (os : Os) (started : os.Started) (H : Type) (enc : TypeId × Value → H) :
    ReturnsInHanded {} Try.checked os 4 .any (Rows.writeOneSpec.pre6 enc Try.prog Try.f4 Rows.writeOneRow.domain false) (Rows.writeOneSpec.post enc Try.prog Try.f4 false true false false) := by
  refine returnsInHanded_of_change_sized (C := Try.checked) own started (by kernel_rfl) Try.func4
    (ChangeSpec.witness6 (enc := enc) (C := Try.checked) false ⟨#[], #[.agg #[.int .i64 0, .int .i64 0, .int .i64 0, .int .i64 0, .int .i64 0, .slice none 0 0], .slice none 0 0], []⟩ 8 (by kernel_rfl) (by kernel_rfl) (by kernel_rfl) (by kernel_rfl)) ?_
  intro W base args ds gs before hval0 hW hcnd hsz0 _
  have hval : ∀ (j : Nat) t v, Try.f4.params[j]? = some t → args[j]? = some v → Value.okWide Try.prog W .any base t v := hval0
  have hsz : (DataW.weightsEach Try.prog (Try.f4.params.toList ++ Rows.writeOneSpec.plain.varTypes Try.prog) (ds ++ gs)).all (· ≤ reachBytes) = true := hsz0
  have hW' := hW
  obtain ⟨p, q, hA0, hV, rfl, hfz, hnd⟩ := hW
  have hA : DataW.TrodAll enc Try.prog W 0 (fun _ => true) true Try.f4.params.toList args.toList ds p := hA0
  rw [Try.params4] at hA hval hsz
  obtain ⟨v0, vs0, d0, ds0, p0, q0, hargs, rfl, rfl, h0, r0⟩ := trodAll_cons hA
  obtain ⟨v1, vs1, d1, ds1, p1, q1, rfl, rfl, rfl, h1, r1⟩ := trodAll_cons r0
  obtain ⟨rfl, rfl, rfl⟩ := trodAll_nil r1
  obtain rfl : args = #[v0, v1] := by cases args; simp_all
  obtain ⟨rfl, rfl⟩ := trodVars_none hV
  have k0 := h0
  have lt0 : ∀ x ∈ p0, x.block < W.heap.size := by obtain ⟨m, hm⟩ := k0; exact DataW.trod_lt m _ _ _ hm
  obtain ⟨f0, rfl, n0⟩ := arg_form (hval 0 24 v0 rfl rfl) h0 hsz (j := 0) rfl rfl
  have k1 := h1
  have lt1 : ∀ x ∈ p1, x.block < W.heap.size := by obtain ⟨m, hm⟩ := k1; exact DataW.trod_lt m _ _ _ hm
  obtain ⟨A1, c1, x1, rfl, l1, m1, b1⟩ := arg_bytes (hval 1 26 v1 rfl rfl) h1 hsz (j := 1) rfl rfl
  clear hA0 hval0 hsz0
  refine (writeOne_walk W f0 n0 A1 c1 x1 l1 m1 b1).mono fun e W' ⟨he, bel⟩ => ?_
  subst he
  exact ⟨_, rfl, _, _, _, [], _, [], hW', trodAll_mk1 (shut_bool Try.underlying4 _), (trodAll_cons_mk (Below.trod laidOut (by kernel_rfl) (of_decide_eq_true (by kernel_rfl)) k0 bel lt0) (trodAll_cons_mk (Below.trod laidOut (by kernel_rfl) (of_decide_eq_true (by kernel_rfl)) k1 bel lt1) trodAll_mk0)), rfl, bel.frame _, fun h => by cases h⟩

theorem writeOne_over : Rows.writeOneRow.holds Try.pinned (OpenSpec.ofChange Rows.writeOneSpec) :=
  OpenClaim.holds_of_wide 4 Try.f4 rfl rfl rfl rfl rfl rfl rfl ⟨rfl, rfl, rfl, rfl, rfl⟩ rfl rfl rfl rfl rfl (by kernel_rfl) Try.func4 (by kernel_rfl)
    (of_decide_eq_true (by kernel_rfl)) (by unfold Func.isWrapper; first | (rw [if_pos (by decide +kernel)]; kernel_rfl) | (rw [if_neg (by decide +kernel)]; exact ⟨rfl, rfl⟩))
    (fun os started H enc _ => writeOne_lifted os started H enc)

theorem writeOne_holds : Rows.WriteOneSaid := writeOne_over
#print axioms writeOne_holds
end Go.Proofs.Ytibbeodcheefaaa

