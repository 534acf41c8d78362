/- What is written of a value by a form is read as it was, with as many bytes as its size; what doesn't fit isn't written: for every form and value the law returns true. No condition. -/
import Derived.Test.YtibbeodcheefaaaQ23
import Derived.Test.YtibbeodcheefaaaQ25
import Derived.Test.YtibbeodcheefaaaQ22
namespace Go.Proofs.Ytibbeodcheefaaa
open Go.ChangeShapes Go.WideShapes Go.ChangeAt Go.RowKit Va

theorem rdAll_wr {w : World} {f : Fo} {v : Va} {n : Int} (hc : f.chk = 0) (hv : v.In w) (hn : fit f v = (n, 0)) (hb : (Rd.wr f v).length ≤ 1000000000000000) :
    (rdAll f (Rd.wr f v)).e = 0 ∧ (rdAll f (Rd.wr f v)).n = (Rd.wr f v).length ∧ (rdAll f (Rd.wr f v)).v = v.nf := by
  obtain ⟨hd, hw⟩ := chk_zero hc
  obtain ⟨h1, h2, h3⟩ := Rd.bd_wr f hw hd v n hv hn hb [] (fun _ => rfl)
  rw [List.append_nil] at h1 h2 h3
  have hF : rdF f (Rd.wr f v) = Rd.rd f (Rd.wr f v) := by rw [rdF, if_pos hc]
  have e1 : (rdF f (Rd.wr f v)).e = 0 := by rw [hF]; exact h1
  have e2 : (rdF f (Rd.wr f v)).n = (Rd.wr f v).length := by rw [hF]; exact h2
  have e3 : (rdF f (Rd.wr f v)).v = v.nf := by rw [hF]; exact h3
  rw [rdAll, if_neg (by rw [e2]; omega)]
  exact ⟨e1, e2, e3⟩

/-- Write's answer: the bytes of what fits, none of what doesn't. -/
theorem write_gen2 (w : World) (f : Fo) (hf : f.In w) (v : Va) (hv : v.In w) (hb : ∀ n, f.wrg = 0 → fit f v = (n, 0) → (Rd.wr f v).length ≤ 10000000) :
    Calls Try.prog 10 #[f.val, v.val] w fun e w' => ∃ (B : Option Addr) (d : Nat) (Z : List UInt8), e = .returned (.tuple #[.slice B Z.length d, .int .i64 (meas f v).2]) ∧ Z.length ≤ d ∧ Byt w' w'.heap.size B Z ∧ ((meas f v).2 = 0 → Z = Rd.wr f v) ∧ ((meas f v).2 ≠ 0 → Z = []) ∧ Grew w w' none := by
  by_cases h : (meas f v).2 = 0
  · have hc : f.chk = 0 := by
      by_cases hc : f.chk = 0
      · exact hc
      · rw [meas, if_neg hc] at h; exact absurd h hc
    obtain ⟨hd, hw⟩ := chk_zero hc
    have hm : meas f v = fit f v := meas_ok hc
    have hn : fit f v = ((fit f v).1, 0) := Prod.ext rfl (by rw [← hm]; exact h)
    rw [h]
    refine (write_ok w f hf v hv hw _ hn (by rw [hm]; exact hn) (hb _ hw hn)).mono ?_
    rintro e w' ⟨vb, rfl, y1, _, y3⟩
    obtain ⟨B, d, rfl, hl, hb⟩ := byt_of_own y1
    exact ⟨B, d, Rd.wr f v, rfl, hl, hb, fun _ => rfl, fun h => absurd rfl h, y3⟩
  · refine (write_no w f hf v hv h).mono ?_
    rintro e w' ⟨rfl, g⟩
    exact ⟨none, 0, [], rfl, Nat.le_refl _, fun h => by simp at h, fun h' => absurd h' h, fun _ => rfl, g⟩

set_option maxRecDepth 100000 in
set_option maxHeartbeats 2000000 in
theorem writeBack_walk (w : World) (f : Fo) (hf : f.In w) (v : Va) (hv : v.In w) :
    Calls Try.prog 3 #[f.val, v.val] w fun e w' => e = .returned (.bool true) ∧ Below w.heap.size w w' := by
  obtain ⟨g0, k0, k1, ks⟩ := two_new w #[.int .i64 f.k, .int .i64 f.s, .int .i64 f.l, .int .i64 f.h, .int .i64 f.t, .slice f.A f.ps.length f.c] 24 #[.int .u64 v.n, .slice v.B v.bs.length v.d, .slice v.A v.ls.length v.c] 29
  have CW := Lib.hid (fun w' (g : Grew w w' none) (h1 : v.cnt ≤ 2000) (h2 : v.byt ≤ 20000) => write_gen2 w' f (hf.grew g) v (hv.grew g) (fun n a b => Nat.le_trans (wr_small h1 h2 n a b) (by omega)))
  have CF := Lib.hid (fun w' (g : Grew w w' none) => rfits_any w' f (hf.grew g) v (hv.grew g))
  have CS := Lib.hid (fun w' (g : Grew w w' none) (u : Va) (hu : u.In w') => rsamev_any v u w' (hv.grew g) hu)
  have CG := Lib.hid (fun w' (g : Grew w w' none) (A : Option Addr) (hl : Va.Lie w' A [v]) => vgreat_up w' f A 1 [v] (hf.grew g) hl (fun u hu => by rw [List.mem_singleton] at hu; subst hu; exact hv.grew g) (by simp))
  have CR := Lib.hid (fun w' (g : Grew w w' none) (B : Option Addr) (d : Nat) (h1 : v.cnt ≤ 2000) (h2 : v.byt ≤ 20000) (hm : (meas f v).2 = 0) (hb : Byt w' w'.heap.size B (Rd.wr f v)) (hd : (Rd.wr f v).length ≤ d) =>
    (show (meas f v).1 = (Rd.wr f v).length ∧ Calls Try.prog 12 #[f.val, .slice B (Rd.wr f v).length d, .int .i64 0] w' (fun e w'' => ∃ u : Va, e = .returned (.tuple #[u.val, .int .i64 ((Rd.wr f v).length : Int), .int .i64 0]) ∧ u.In w'' ∧ u.nf = v.nf ∧ Grew w' w'' none) from by
      have hc : f.chk = 0 := by
        by_cases hc : f.chk = 0
        · exact hc
        · rw [meas, if_neg hc] at hm; exact absurd hm hc
      have hq : fit f v = ((fit f v).1, 0) := Prod.ext rfl (by rw [← meas_ok hc]; exact hm)
      have hsm := wr_small h1 h2 _ (chk_zero hc).2 hq
      obtain ⟨e1, e2, e3⟩ := rdAll_wr hc (hv.grew g) hq (by omega)
      refine ⟨by rw [meas_ok hc]; exact Rd.wr_len f (chk_zero hc).2 v _ hq (by omega), ?_⟩
      have h := read_any w' f (hf.grew g) B d (Rd.wr f v) hd (by omega) hb 0 (by omega) (by omega)
      rw [e1, e2, e3, Int.zero_add] at h
      exact h))
  have K0 := Lib.hid k0
  have K1 := Lib.hid k1
  have G0 := Lib.hid g0
  clear hf hv k0 k1 g0 ks
  rw [val_eq, vval_eq] at *
  generalize hZ : Rd.wr f v = Z0 at *
  generalize (meas f v).1 = N at *
  generalize (meas f v).2 = E at *
  clear hZ
  go_enter Try.func3, Try.ntmps3
  go_wp2_with fail
  generalize (w.alloc (.cells #[.int .i64 f.k, .int .i64 f.s, .int .i64 f.l, .int .i64 f.h, .int .i64 f.t, .slice f.A f.ps.length f.c] 24)).alloc (.cells #[.int .u64 v.n, .slice v.B v.bs.length v.d, .slice v.A v.ls.length v.c] 29) = W at *
  generalize hq : w.heap.size = q at *
  have HQ := Lib.hid hq
  clear hq
  refine (alive7_any W).mono ?_
  rintro e w1 ⟨rfl, g1⟩
  have G1 := Lib.hid (grew_trans G0.out g1)
  have K01 := Lib.hid (K0.out.grew g1 (by simp))
  have K11 := Lib.hid (K1.out.grew g1 (by simp))
  clear g1 G0 K0 K1
  obtain ⟨b0, b1, b2, b3, b4, b5⟩ := K01.out.six
  obtain ⟨c0, c1, c2⟩ := K11.out.three
  go_wp2_with fail
  have hl := Va.Lie.whole (Whole.new w1 #[.int .u64 v.n, .slice v.B v.bs.length v.d, .slice v.A v.ls.length v.c] 29) (ps := [v]) rfl
  have ga := grew_alloc (grew_refl w1 none) (.cells #[.int .u64 v.n, .slice v.B v.bs.length v.d, .slice v.A v.ls.length v.c] 29)
  clear b0 b1 b2 b3 b4 b5 c0 c1 c2
  generalize w1.alloc (.cells #[.int .u64 v.n, .slice v.B v.bs.length v.d, .slice v.A v.ls.length v.c] 29) = w2 at *
  generalize w1.heap.size = ql at *
  refine (CG.out w2 (grew_trans G1.out ga) _ hl).mono ?_
  rintro e w3 ⟨r, rfl, r0, r1, rz, g3⟩
  have G3 := Lib.hid (grew_trans G1.out (grew_trans ga g3))
  have K03 := Lib.hid (K01.out.grew (grew_trans ga g3) (by simp))
  have K13 := Lib.hid (K11.out.grew (grew_trans ga g3) (by simp))
  have RZ := Lib.hid rz
  clear hl ga g3 G1 K01 K11 rz CG
  by_cases hr : 0 < r
  · go_wp2_with fail
    refine (alive7_any w3).mono ?_
    rintro e w4 ⟨rfl, g4⟩
    have G4 := Lib.hid (grew_trans G3.out g4)
    clear g4
    go_wp2_with fail
    go_ret
    exact ⟨rfl, grew_below G4.out (by rw [HQ.out]; exact Nat.le_refl _) (fun _ h => by cases h)⟩
  · obtain ⟨_, hsm⟩ := RZ.out (by omega)
    have SM := Lib.hid (hsm v (by simp))
    clear hsm RZ
    obtain ⟨b0, b1, b2, b3, b4, b5⟩ := K03.out.six
    obtain ⟨c0, c1, c2⟩ := K13.out.three
    go_wp2_with fail
    refine (CW.out w3 G3.out SM.out.1 SM.out.2).mono ?_
    rintro e w4 ⟨B, d, Z, rfl, zd, z1, z2, z3, g4⟩
    have G4 := Lib.hid (grew_trans G3.out g4)
    have K04 := Lib.hid (K03.out.grew g4 (by simp))
    have K14 := Lib.hid (K13.out.grew g4 (by simp))
    have Z1 := Lib.hid z1
    have Z2 := Lib.hid z2
    clear z1 z2 z3 g4 b0 b1 b2 b3 b4 b5 c0 c1 c2 G3 K03 K13 CW
    obtain ⟨b0, b1, b2, b3, b4, b5⟩ := K04.out.six
    obtain ⟨c0, c1, c2⟩ := K14.out.three
    go_wp2_with fail
    refine (CF.out w4 G4.out).mono ?_
    rintro e w5 ⟨rfl, g5⟩
    have G5 := Lib.hid (grew_trans G4.out g5)
    have K05 := Lib.hid (K04.out.grew g5 (by simp))
    have K15 := Lib.hid (K14.out.grew g5 (by simp))
    have Z15 := Lib.hid ((Z1.out.grew g5 (fun _ h => by cases h)).more g5.size)
    clear g5 b0 b1 b2 b3 b4 b5 c0 c1 c2 G4 K04 K14 CF Z1
    by_cases hE : E = 0
    · subst hE
      obtain rfl := Z2.out rfl
      obtain ⟨en, hcr⟩ := CR.out w5 G5.out B d SM.out.1 SM.out.2 rfl Z15.out zd
      subst en
      have HCR := Lib.hid hcr
      clear hcr CR SM Z2 zd
      obtain ⟨b0, b1, b2, b3, b4, b5⟩ := K05.out.six
      go_wp2_with fail
      refine HCR.out.mono ?_
      rintro e w6 ⟨u, rfl, hu, hnf, g6⟩
      have G6 := Lib.hid (grew_trans G5.out g6)
      have K16 := Lib.hid (K15.out.grew g6 (by simp))
      have HU := Lib.hid (show u.In w6 ∧ u.nf = v.nf from ⟨hu, hnf⟩)
      rw [vval_eq]
      clear hu hnf g6 b0 b1 b2 b3 b4 b5 HCR G5 K05 K15 Z15
      go_upto_region 8 with (fail)
      have ga := grew_alloc (grew_refl w6 none) (.cells #[.int .u64 u.n, .slice u.B u.bs.length u.d, .slice u.A u.ls.length u.c] 29)
      obtain ⟨d0, d1, d2⟩ := (Whole.new w6 #[.int .u64 u.n, .slice u.B u.bs.length u.d, .slice u.A u.ls.length u.c] 29).three
      obtain ⟨c0, c1, c2⟩ := (K16.out.grew ga (by simp)).three
      have G7 := Lib.hid (grew_trans G6.out ga)
      have HC := Lib.hid (CS.out _ (grew_trans G6.out ga) u (HU.out.1.grew ga))
      have hs : same v u = true := (same_nf v u).2 HU.out.2.symm
      rw [hs, vval_eq] at HC
      clear ga hs HU CS G6 K16
      generalize w6.alloc (.cells #[.int .u64 u.n, .slice u.B u.bs.length u.d, .slice u.A u.ls.length u.c] 29) = w7 at *
      generalize w6.heap.size = z at *
      go_wp2_with fail
      refine HC.out.mono ?_
      rintro e w8 ⟨rfl, g8⟩
      have G8 := Lib.hid (grew_trans G7.out g8)
      clear g8 c0 c1 c2 d0 d1 d2 HC
      go_wp2_with fail
      go_ret
      exact ⟨by simp, grew_below G8.out (by rw [HQ.out]; exact Nat.le_refl _) (fun _ h => by cases h)⟩
    · have hb : (E != 0) = true := by simpa using hE
      go_wp2_with fail
      go_ret
      exact ⟨by simp, grew_below G5.out (by rw [HQ.out]; exact Nat.le_refl _) (fun _ h => by cases h)⟩

set_option maxRecDepth 100000 in
theorem writeBack_lifted (os : Os) (started : os.Started) (H : Type) (enc : TypeId × Value → H) :
    ReturnsInHanded {} Try.checked os 3 .any (Rows.writeBackSpec.pre6 enc Try.prog Try.f3 Rows.writeBackRow.domain false) (Rows.writeBackSpec.post enc Try.prog Try.f3 false true false false) := by
  refine returnsInHanded_of_change_sized (C := Try.checked) own started (by kernel_rfl) Try.func3
    (ChangeSpec.witness6 (enc := enc) (C := Try.checked) false ⟨#[], #[.agg #[.int .i64 0, .int .i64 0, .int .i64 0, .int .i64 0, .int .i64 0, .slice none 0 0], .agg #[.int .u64 0, .slice none 0 0, .slice none 0 0]], []⟩ 8 (by kernel_rfl) (by kernel_rfl) (by kernel_rfl) (by kernel_rfl)) ?_
  intro W base args ds gs before hval0 hW hcnd hsz0 _
  have hval : ∀ (j : Nat) t v, Try.f3.params[j]? = some t → args[j]? = some v → Value.okWide Try.prog W .any base t v := hval0
  have hsz : (DataW.weightsEach Try.prog (Try.f3.params.toList ++ Rows.writeBackSpec.plain.varTypes Try.prog) (ds ++ gs)).all (· ≤ reachBytes) = true := hsz0
  have hW' := hW
  obtain ⟨p, q, hA0, hV, rfl, hfz, hnd⟩ := hW
  have hA : DataW.TrodAll enc Try.prog W 0 (fun _ => true) true Try.f3.params.toList args.toList ds p := hA0
  rw [Try.params3] at hA hval hsz
  obtain ⟨v0, vs0, d0, ds0, p0, q0, hargs, rfl, rfl, h0, r0⟩ := trodAll_cons hA
  obtain ⟨v1, vs1, d1, ds1, p1, q1, rfl, rfl, rfl, h1, r1⟩ := trodAll_cons r0
  obtain ⟨rfl, rfl, rfl⟩ := trodAll_nil r1
  obtain rfl : args = #[v0, v1] := by cases args; simp_all
  obtain ⟨rfl, rfl⟩ := trodVars_none hV
  have k0 := h0
  have lt0 : ∀ x ∈ p0, x.block < W.heap.size := by obtain ⟨m, hm⟩ := k0; exact DataW.trod_lt m _ _ _ hm
  obtain ⟨f0, rfl, n0⟩ := arg_form (hval 0 24 v0 rfl rfl) h0 hsz (j := 0) rfl rfl
  have k1 := h1
  have lt1 : ∀ x ∈ p1, x.block < W.heap.size := by obtain ⟨m, hm⟩ := k1; exact DataW.trod_lt m _ _ _ hm
  obtain ⟨f1, rfl, n1⟩ := arg_value (hval 1 29 v1 rfl rfl) h1 hsz (j := 1) rfl rfl
  clear hA0 hval0 hsz0
  refine (writeBack_walk W f0 n0 f1 n1).mono fun e W' ⟨he, bel⟩ => ?_
  subst he
  exact ⟨_, rfl, _, _, _, [], _, [], hW', trodAll_mk1 (shut_bool Try.underlying4 _), (trodAll_cons_mk (Below.trod laidOut (by kernel_rfl) (of_decide_eq_true (by kernel_rfl)) k0 bel lt0) (trodAll_cons_mk (Below.trod laidOut (by kernel_rfl) (of_decide_eq_true (by kernel_rfl)) k1 bel lt1) trodAll_mk0)), rfl, bel.frame _, fun h => by cases h⟩

theorem writeBack_over : Rows.writeBackRow.holds Try.pinned (OpenSpec.ofChange Rows.writeBackSpec) :=
  OpenClaim.holds_of_wide 3 Try.f3 rfl rfl rfl rfl rfl rfl rfl ⟨rfl, rfl, rfl, rfl, rfl⟩ rfl rfl rfl rfl rfl (by kernel_rfl) Try.func3 (by kernel_rfl)
    (of_decide_eq_true (by kernel_rfl)) (by unfold Func.isWrapper; first | (rw [if_pos (by decide +kernel)]; kernel_rfl) | (rw [if_neg (by decide +kernel)]; exact ⟨rfl, rfl⟩))
    (fun os started H enc _ => writeBack_lifted os started H enc)

theorem writeBack_holds : Rows.WriteBackSaid := writeBack_over
#print axioms writeBack_holds
end Go.Proofs.Ytibbeodcheefaaa

