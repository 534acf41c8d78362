/- A read's steps are at most twice its bytes and one, times as many as there are forms in its form: for every form and bytes the law returns true. No condition. -/
import Derived.Test.YtdamjbngopfpkaaLw6
namespace Go.Proofs.Ytdamjbngopfpkaa
open Go.ChangeShapes Go.WideShapes Go.ChangeAt Go.RowKit Va

theorem alone_en (k s l h t : Int) (n : Nat) : Fo.alone k s l h t n ≠ 12 := by
  unfold Fo.alone
  repeat' split
  all_goals omega
theorem wrgs_en {ps : List Fo} (h : ∀ p ∈ ps, p.wrg ≠ 12) : Fo.wrgs ps ≠ 12 := by
  induction ps with
  | nil => rw [Fo.wrgs]; omega
  | cons p ps ih =>
    rw [Fo.wrgs]
    split
    · exact h p (by simp)
    · exact ih (fun q hq => h q (by simp [hq]))
theorem wrg_en (f : Fo) : f.wrg ≠ 12 := by
  induction f using Fo.ind with
  | H k s l h t A c ps ih =>
    have h1 := alone_en k s l h t ps.length
    have h2 := wrgs_en ih
    rw [Fo.wrg]
    repeat' split
    all_goals omega
theorem chk_en (f : Fo) : f.chk ≠ 12 := by
  have := wrg_en f
  unfold Fo.chk
  split <;> omega

theorem steps_good {f : Fo} {xs : List UInt8} (hx : xs.length ≤ 2000) : (rdAll f xs).e ≠ 12 ∧ (rdAll f xs).c ≤ 2 * xs.length * f.cnt + f.cnt ∧ ((rdAll f xs).e = 0 → 0 < (rdAll f xs).c) ∧ (rdAll f xs).c = (rdF f xs).c := by
  have key : (rdF f xs).e ≠ 12 ∧ (rdF f xs).c ≤ 2 * xs.length * f.cnt + f.cnt ∧ ((rdF f xs).e = 0 → 0 < (rdF f xs).c) := by
    unfold rdF
    by_cases hc : f.chk = 0
    · rw [if_pos hc]
      obtain ⟨hd, hw⟩ := chk_zero hc
      have G := Rd.bd_good f hw hd xs (by omega)
      have e1 : (Rd.rd f xs).e = (Rd.bd f xs).e := rfl
      have e2 : (Rd.rd f xs).c = (Rd.bd f xs).c + 1 := rfl
      rw [e1, e2]
      have h1 := G.en
      have h2 := G.st
      have h3 := G.le
      refine ⟨by omega, ?_, fun _ => by omega⟩
      have h4 : max 1 (if (Rd.bd f xs).e = 0 then (Rd.bd f xs).n else xs.length) ≤ 2 * xs.length + 1 := by split <;> omega
      have h5 := Nat.mul_le_mul_left f.cnt h4
      rw [Nat.mul_add, Nat.mul_one, Nat.mul_comm f.cnt (2 * xs.length)] at h5
      omega
    · rw [if_neg hc]
      exact ⟨chk_en f, Nat.zero_le _, fun h => absurd h hc⟩
  unfold rdAll
  by_cases h : (rdF f xs).e = 0 ∧ (rdF f xs).n < xs.length
  · rw [if_pos h]
    exact ⟨show ¬ (6 : Int) = 12 by omega, key.2.1, fun h => absurd h (show ¬ (6 : Int) = 0 by omega), rfl⟩
  · rw [if_neg h]
    exact ⟨key.1, key.2.1, key.2.2, rfl⟩

set_option maxRecDepth 100000 in
set_option maxHeartbeats 2000000 in
theorem readSteps_walk (w : World) (f : Fo) (hf : f.In w) (A : Option Addr) (c : Nat) (xs : List UInt8) (hl : xs.length ≤ c) (hc : c ≤ 140737488351232) (hb : Byt w w.heap.size A xs) :
    Calls Try.prog 3 #[f.val, .slice A xs.length c] w fun e w' => e = .returned (.bool true) ∧ Below w.heap.size w w' := by
  have CR := Lib.hid (fun w' (g : Grew w w' none) (q : Nat) (hq : w.heap.size ≤ q) (hT : Tal w' q 1073741824 0) (hm : (rdF f xs).c ≤ 1073741824) => counted_any w w' f hf g A c xs hl hc hb 0 (by omega) (by omega) (some q) 1073741824 0 (fun k hk => by cases hk; exact hq) (fun k hk => by cases hk; exact hT) (fun _ => by omega))
  have CG := Lib.hid (fun w' (g : Grew w w' none) => great6_any w' f (hf.grew g) A c xs.length)
  have CC := Lib.hid (fun w' (g : Grew w w' none) => count_any f 500 w' (by omega) (by omega) (hf.grew g))
  have SG := Lib.hid (fun h => steps_good (f := f) (xs := xs) h)
  generalize rdAll f xs = R at *
  generalize (rdF f xs).c = RC at *
  clear hf hl hc hb
  have htp : ∀ q, tptr (some q) = .pointer (some ⟨q, 0, none⟩) := fun _ => rfl
  rw [val_eq] at *
  have HW := Lib.hid (Whole.new w #[.int .i64 f.k, .int .i64 f.s, .int .i64 f.l, .int .i64 f.h, .int .i64 f.t, .slice f.A f.ps.length f.c] 24)
  have HG := Lib.hid (grew_alloc (grew_refl w none) (.cells #[.int .i64 f.k, .int .i64 f.s, .int .i64 f.l, .int .i64 f.h, .int .i64 f.t, .slice f.A f.ps.length f.c] 24))
  have HTP := Lib.hid htp
  clear htp
  go_enter Try.func3, Try.ntmps3
  go_wp2_with fail
  generalize w.alloc (.cells #[.int .i64 f.k, .int .i64 f.s, .int .i64 f.l, .int .i64 f.h, .int .i64 f.t, .slice f.A f.ps.length f.c] 24) = W at *
  have HB := Lib.hid (show ∃ q, q = w.heap.size from ⟨_, rfl⟩)
  generalize hq : w.heap.size = q at *
  have HQ := Lib.hid hq
  clear hq HB
  refine (alive6_any W).mono ?_
  rintro e w1 ⟨rfl, g1⟩
  have HG1 := Lib.hid (grew_trans HG.out g1)
  have HW1 := Lib.hid (HW.out.grew g1 (by simp))
  obtain ⟨b0, b1, b2, b3, b4, b5⟩ := HW1.out.six
  clear g1 HG HW
  go_wp2_with fail
  refine (CG.out w1 HG1.out).mono ?_
  rintro e w2 ⟨rfl, g2⟩
  have HG2 := Lib.hid (grew_trans HG1.out g2)
  have HW2 := Lib.hid (HW1.out.grew g2 (by simp))
  clear g2 HG1 HW1 b0 b1 b2 b3 b4 b5 CG
  by_cases hbig : 500 < f.cnt ∨ 2000 < xs.length
  · rw [decide_eq_true hbig]
    go_wp2_with fail
    refine (alive6_any w2).mono ?_
    rintro e w3 ⟨rfl, g3⟩
    have HG3 := Lib.hid (grew_trans HG2.out g3)
    clear g3
    go_wp2_with fail
    go_ret
    exact ⟨rfl, grew_below HG3.out (Nat.le_refl _) (fun _ h => by cases h)⟩
  · rw [decide_eq_false hbig]
    have hx : xs.length ≤ 2000 := by omega
    have hcn : f.cnt ≤ 500 := by omega
    obtain ⟨s1, s2, s3, s4⟩ := SG.out hx
    have hmul : 2 * xs.length * f.cnt ≤ 4000 * 500 := Nat.mul_le_mul (by omega) hcn
    generalize hP : 2 * xs.length * f.cnt = P at *
    have hRC : RC ≤ 1073741824 := by omega
    have S1 := Lib.hid s1
    have S2 := Lib.hid s2
    have S3 := Lib.hid s3
    have HCN := Lib.hid hcn
    have HXX := Lib.hid hx
    have HP := Lib.hid hP
    have HRC := Lib.hid hRC
    have HMUL := Lib.hid (show P ≤ 2000000 by omega)
    clear hbig s1 s2 s3 s4 SG hmul hP hRC hcn hx
    go_wp2_with fail
    refine (tnew_ok w2 1073741824 (by omega) (by omega)).mono ?_
    rintro e w3 ⟨rfl, hT, g3⟩
    have HG3 := Lib.hid (grew_trans HG2.out g3)
    have HW3 := Lib.hid (HW2.out.grew g3 (by simp))
    have HQ2 := Lib.hid (show w.heap.size ≤ w2.heap.size from HG2.out.size)
    have HTT := Lib.hid hT
    obtain ⟨b0, b1, b2, b3, b4, b5⟩ := HW3.out.six
    clear g3 hT HG2 HW2
    generalize w2.heap.size = tq at *
    go_wp2_with fail
    rw [← HTP.out tq]
    refine (CR.out w3 HG3.out tq (by rw [← HQ.out]; exact HQ2.out) HTT.out HRC.out).mono ?_
    rintro e w4 ⟨v, rfl, hv, -, hnf, hty, hfr⟩
    have hg4 : Fr w w4 (fun _ => False) := (fr_of HG3.out).trans hfr (fun i hi e => by cases e; have := HQ2.out; omega)
    have hgr : Grew w w4 none := grew_fr (grew_refl _ none) hg4 (fun i h => h.elim)
    have HG4 := Lib.hid hgr
    have HTY := Lib.hid (show Tal w4 tq 1073741824 (0 + R.c) from hty tq rfl)
    have HW4 := Lib.hid (HW3.out.fr hfr (fun e => by
      cases e
      exact Whole.ne HW3.out HTT.out.whole (by decide) rfl))
    clear hv hnf hty hfr hg4 hgr b0 b1 b2 b3 b4 b5 CR HTT HW3 HG3
    rw [vval_eq, HTP.out]
    go_upto_region 7 with (fail)
    have ga := grew_alloc (grew_refl w4 none) (.cells #[.int .u64 v.n, .slice v.B v.bs.length v.d, .slice v.A v.ls.length v.c] 35)
    obtain ⟨b0, b1, b2, b3, b4, b5⟩ := (HW4.out.grew ga (by simp)).six
    have HG5 := Lib.hid (grew_trans HG4.out ga)
    have HTY5 := Lib.hid (HTY.out.grew ga (by simp))
    clear ga HG4 HW4 HTY
    generalize w4.alloc (.cells #[.int .u64 v.n, .slice v.B v.bs.length v.d, .slice v.A v.ls.length v.c] 35) = w5 at *
    generalize w4.heap.size = z at *
    go_wp2_with fail
    refine (CC.out w5 HG5.out).mono ?_
    rintro e w6 ⟨rfl, g6⟩
    have hmin : min (f.cnt : Int) (500 + 1) = (f.cnt : Int) := by have := HCN.out; omega
    rw [hmin]
    have HG6 := Lib.hid (grew_trans HG5.out g6)
    have HTY6 := Lib.hid (HTY5.out.grew g6 (by simp))
    clear g6 hmin HG5 HTY5 b0 b1 b2 b3 b4 b5 CC
    have hx := HXX.out
    have hcn := HCN.out
    have hp := HP.out
    have hpi : (2 : Int) * (xs.length : Int) * (f.cnt : Int) = (P : Int) := by rw [← hp]; push_cast; rfl
    generalize xs.length = L at *
    generalize f.cnt = C at *
    have hne : (R.e != 12) = true := by simpa using S1.out
    have hpm := HMUL.out
    have hw1 : IntKind.i64.wrap (2 * (L : Int) * (C : Int)) = (P : Int) := by rw [hpi]; exact IntWalk.i64_in _ (by omega)
    have hle : ((0 : Int) + (R.c : Int)) ≤ (P : Int) + (C : Int) := by have := S2.out; omega
    have hc0 : R.e = 0 → (0 : Int) < 0 + (R.c : Int) := fun h => by have := S3.out h; omega
    generalize hcnt : (0 : Int) + (R.c : Int) = CN at *
    clear hp hpi
    have HC0 := Lib.hid hc0
    generalize R.e = E at *
    clear hc0 hcnt S1 S2 S3 HP HXX HCN
    go_wp2_with fail
    refine (tcount_any w6 tq 1073741824 CN HTY6.out).mono ?_
    rintro e w7 ⟨rfl, rfl⟩
    by_cases hE : E = 0
    · have hlt := HC0.out hE
      have hb : (E != 0) = false := by simpa using hE
      clear hE
      go_wp2_with fail
      refine (tcount_any w6 tq 1073741824 CN HTY6.out).mono ?_
      rintro e w7 ⟨rfl, rfl⟩
      go_wp2_with fail
      go_ret
      exact ⟨by simp [hlt, hle], grew_below HG6.out (Nat.le_refl _) (fun _ h => by cases h)⟩
    · have hb : (E != 0) = true := by simpa using hE
      go_wp2_with fail
      go_ret
      exact ⟨by simp [hle], grew_below HG6.out (Nat.le_refl _) (fun _ h => by cases h)⟩

set_option maxRecDepth 100000 in
theorem readSteps_lifted (os : Os) (started : os.Started) (H : Type) (enc : TypeId × Value → H) :
    ReturnsInHanded {} Try.checked os 3 .any (Rows.readStepsSpec.pre6 enc Try.prog Try.f3 Rows.readStepsRow.domain false) (Rows.readStepsSpec.post enc Try.prog Try.f3 false true false false) := by
  refine returnsInHanded_of_change_sized (C := Try.checked) own started (by kernel_rfl) Try.func3
    (ChangeSpec.witness6 (enc := enc) (C := Try.checked) false ⟨#[], #[.agg #[.int .i64 0, .int .i64 0, .int .i64 0, .int .i64 0, .int .i64 0, .slice none 0 0], .slice none 0 0], []⟩ 8 (by kernel_rfl) (by kernel_rfl) (by kernel_rfl) (by kernel_rfl)) ?_
  intro W base args ds gs before hval0 hW hcnd hsz0 _
  have hval : ∀ (j : Nat) t v, Try.f3.params[j]? = some t → args[j]? = some v → Value.okWide Try.prog W .any base t v := hval0
  have hsz : (DataW.weightsEach Try.prog (Try.f3.params.toList ++ Rows.readStepsSpec.plain.varTypes Try.prog) (ds ++ gs)).all (· ≤ reachBytes) = true := hsz0
  have hW' := hW
  obtain ⟨p, q, hA0, hV, rfl, hfz, hnd⟩ := hW
  have hA : DataW.TrodAll enc Try.prog W 0 (fun _ => true) true Try.f3.params.toList args.toList ds p := hA0
  rw [Try.params3] at hA hval hsz
  obtain ⟨v0, vs0, d0, ds0, p0, q0, hargs, rfl, rfl, h0, r0⟩ := trodAll_cons hA
  obtain ⟨v1, vs1, d1, ds1, p1, q1, rfl, rfl, rfl, h1, r1⟩ := trodAll_cons r0
  obtain ⟨rfl, rfl, rfl⟩ := trodAll_nil r1
  obtain rfl : args = #[v0, v1] := by cases args; simp_all
  obtain ⟨rfl, rfl⟩ := trodVars_none hV
  have k0 := h0
  have lt0 : ∀ x ∈ p0, x.block < W.heap.size := by obtain ⟨m, hm⟩ := k0; exact DataW.trod_lt m _ _ _ hm
  obtain ⟨f0, rfl, n0⟩ := arg_form (hval 0 24 v0 rfl rfl) h0 hsz (j := 0) rfl rfl
  have k1 := h1
  have lt1 : ∀ x ∈ p1, x.block < W.heap.size := by obtain ⟨m, hm⟩ := k1; exact DataW.trod_lt m _ _ _ hm
  obtain ⟨A1, c1, x1, rfl, l1, m1, b1⟩ := arg_bytes (hval 1 25 v1 rfl rfl) h1 hsz (j := 1) rfl rfl
  clear hA0 hval0 hsz0
  refine (readSteps_walk W f0 n0 A1 c1 x1 l1 m1 b1).mono fun e W' ⟨he, bel⟩ => ?_
  subst he
  exact ⟨_, rfl, _, _, _, [], _, [], hW', trodAll_mk1 (shut_bool Try.underlying4 _), (trodAll_cons_mk (Below.trod laidOut (by kernel_rfl) (of_decide_eq_true (by kernel_rfl)) k0 bel lt0) (trodAll_cons_mk (Below.trod laidOut (by kernel_rfl) (of_decide_eq_true (by kernel_rfl)) k1 bel lt1) trodAll_mk0)), rfl, bel.frame _, fun h => by cases h⟩

theorem readSteps_over : Rows.readStepsRow.holds Try.pinned (OpenSpec.ofChange Rows.readStepsSpec) :=
  OpenClaim.holds_of_wide 3 Try.f3 rfl rfl rfl rfl rfl rfl rfl ⟨rfl, rfl, rfl, rfl, rfl⟩ rfl rfl rfl rfl rfl (by kernel_rfl) Try.func3 (by kernel_rfl)
    (of_decide_eq_true (by kernel_rfl)) (by unfold Func.isWrapper; first | (rw [if_pos (by decide +kernel)]; kernel_rfl) | (rw [if_neg (by decide +kernel)]; exact ⟨rfl, rfl⟩))
    (fun os started H enc _ => readSteps_lifted os started H enc)

theorem readSteps_holds : Rows.ReadStepsSaid := readSteps_over
#print axioms readSteps_holds
end Go.Proofs.Ytdamjbngopfpkaa

