/- Of any bytes, from any place on, the thing that is read is the document's, and the end, or where there is none, and why: for every bytes and base the law returns true, and they read as they did. Condition: the table of the package dertag holds what the program's own text lays there (the card). -/
import Derived.Test.YtnjnghbonmdbdaaDoorQ7
import Derived.Test.YtnjnghbonmdbdaaDoorQ1
import Derived.Test.YtnjnghbonmdbdaaDoorQ11
namespace Go.Proofs.YtnjnghbonmdbdaaDoor
open Go.ChangeShapes Go.WideShapes Go.ChangeAt Go.RowKit Nd

set_option maxRecDepth 100000 in
set_option maxHeartbeats 1000000 in
theorem derReads_by (hA : AliveE) (hR : ReadE) (w : World) (A : Option Addr) (c : Nat) (xs : List UInt8) (hl : xs.length ≤ c) (hc : c ≤ 140737488351232) (hb : Byt w w.heap.size A xs) (base : Int) (hT : Tb w) :
    Calls Tryd.prog 3 #[.slice A xs.length c, .int .i64 base] w fun e w' => e = .returned (.bool true) ∧ Below w.heap.size w w' := by
  have HA := Lib.hid hA
  have HR := Lib.hid hR
  have HB := Lib.hid hb
  have HT := Lib.hid hT
  have HC := Lib.hid hl
  obtain ⟨L, hL⟩ : ∃ L, xs.length = L := ⟨_, rfl⟩
  have HL := Lib.hid hL
  rw [hL] at hl ⊢
  have hLI : (L : Int) ≤ 140737488351232 := by omega
  clear hA hR hb hT hl hL
  go_enter Tryd.func3, Tryd.ntmps3
  go_wp2_with fail
  refine (HA.out w HT.out).mono ?_
  rintro e w1 ⟨rfl, b1⟩
  have B1 := Lib.hid b1
  clear b1
  by_cases g1 : 3000 < L
  · have g1' : 3000 < (L : Int) := by omega
    go_wp2_with fail
    refine (HA.out w1 (HT.out.self B1.out)).mono ?_
    rintro e w2 ⟨rfl, b2⟩
    go_wp2_with fail
    go_ret
    exact ⟨rfl, B1.out.trans (b2.mono B1.out.size)⟩
  · have g1' : ¬ 3000 < (L : Int) := by omega
    go_upto_region 4 with (fail)
    obtain ⟨β, hβ⟩ : ∃ β, wrap64 ((IntKind.u64.wrap base).tmod 1099511627776) = β := ⟨_, rfl⟩
    have hβb : 0 ≤ β ∧ β ≤ 1099511627775 := by
      have h0 : IntKind.u64.wrap base = base % 18446744073709551616 := by rfl
      have h1 : 0 ≤ IntKind.u64.wrap base := by rw [h0]; omega
      rw [← hβ, Int.tmod_eq_emod_of_nonneg h1, IntWalk.wrap64_in _ (by omega)]
      omega
    rw [hβ]
    clear hβ
    obtain ⟨hβ0, hβ1⟩ := hβb
    obtain ⟨R, hRR⟩ : ∃ R, rdN xs = R := ⟨_, rfl⟩
    have hRd := HR.out w1 A c xs β (HT.out.self B1.out) ((HB.out.grew (grew_of_below B1.out) (fun _ e => by cases e)).more B1.out.size) HC.out (by have := HL.out; omega) hβ0 (by omega)
    rw [HL.out, hRR] at hRd
    have HRd := Lib.hid hRd
    have HRR := Lib.hid hRR
    have hRn : R.n ≤ L := by
      rw [← hRR, ← HL.out]
      have := (rn_good 8 xs).1
      unfold rdN
      split
      · exact this
      · split
        · exact this
        · exact this
    have hRI : (R.n : Int) ≤ 3000 := by omega
    clear hRd hRR hRn
    go_wp2_with fail
    refine HRd.out.mono ?_
    rintro e w2 ⟨v, rfl, hnf, hin, b2⟩
    have HV := Lib.hid (And.intro hnf hin)
    have B2 := Lib.hid (B1.out.trans (b2.mono B1.out.size))
    clear hnf hin b2 HRd
    go_upto_region 5 with (fail)
    obtain ⟨xq, hxq⟩ : ∃ xq, w2.heap.size = xq := ⟨_, rfl⟩
    rw [hxq]
    have HX := Lib.hid (show Whole (w2.alloc (.cells #[.int .i64 v.k, .int .i64 v.t, .bool v.m, .slice v.B v.bs.length v.d, .slice v.A v.ls.length v.c] 27)) xq #[.int .i64 v.k, .int .i64 v.t, .bool v.m, .slice v.B v.bs.length v.d, .slice v.A v.ls.length v.c] 27 by rw [← hxq]; exact Whole.new _ _ _)
    have HV3 := Lib.hid (HV.out.2.grew (grew_alloc (grew_refl w2 none) (.cells #[.int .i64 v.k, .int .i64 v.t, .bool v.m, .slice v.B v.bs.length v.d, .slice v.A v.ls.length v.c] 27)))
    have B3 := Lib.hid (B2.out.alloc B2.out.size (.cells #[.int .i64 v.k, .int .i64 v.t, .bool v.m, .slice v.B v.bs.length v.d, .slice v.A v.ls.length v.c] 27))
    generalize w2.alloc (.cells #[.int .i64 v.k, .int .i64 v.t, .bool v.m, .slice v.B v.bs.length v.d, .slice v.A v.ls.length v.c] 27) = w3 at *
    have hrd := rRead_any w3 A c xs ((HB.out.grew (grew_of_below B3.out) (fun _ e => by cases e)).more B3.out.size) HC.out (by have := HL.out; omega)
    rw [HL.out, HRR.out] at hrd
    have Hrd := Lib.hid hrd
    clear hrd hxq B2
    go_wp2_with fail
    refine Hrd.out.mono ?_
    rintro e w4 ⟨u, rfl, hnf, hin, b4⟩
    have HU := Lib.hid (And.intro hnf hin)
    have HX4 := Lib.hid (HX.out.below b4 HX.out.lt)
    have HV4 := Lib.hid (HV3.out.grew (grew_of_below b4))
    have B4 := Lib.hid (B3.out.trans (b4.mono B3.out.size))
    clear hnf hin b4 Hrd HX HV3 B3
    go_upto_region 6 with (fail)
    obtain ⟨yq, hyq⟩ : ∃ yq, w4.heap.size = yq := ⟨_, rfl⟩
    rw [hyq]
    have HY := Lib.hid (show Whole (w4.alloc (.cells #[.int .i64 u.k, .int .i64 u.t, .bool u.m, .slice u.B u.bs.length u.d, .slice u.A u.ls.length u.c] 27)) yq #[.int .i64 u.k, .int .i64 u.t, .bool u.m, .slice u.B u.bs.length u.d, .slice u.A u.ls.length u.c] 27 by rw [← hyq]; exact Whole.new _ _ _)
    have HX5 := Lib.hid (HX4.out.grew (grew_alloc (grew_refl w4 none) (.cells #[.int .i64 u.k, .int .i64 u.t, .bool u.m, .slice u.B u.bs.length u.d, .slice u.A u.ls.length u.c] 27)) (by simp))
    have HV5 := Lib.hid (HV4.out.grew (grew_alloc (grew_refl w4 none) (.cells #[.int .i64 u.k, .int .i64 u.t, .bool u.m, .slice u.B u.bs.length u.d, .slice u.A u.ls.length u.c] 27)))
    have HU5 := Lib.hid (HU.out.2.grew (grew_alloc (grew_refl w4 none) (.cells #[.int .i64 u.k, .int .i64 u.t, .bool u.m, .slice u.B u.bs.length u.d, .slice u.A u.ls.length u.c] 27)))
    have B5 := Lib.hid (B4.out.alloc B4.out.size (.cells #[.int .i64 u.k, .int .i64 u.t, .bool u.m, .slice u.B u.bs.length u.d, .slice u.A u.ls.length u.c] 27))
    generalize w4.alloc (.cells #[.int .i64 u.k, .int .i64 u.t, .bool u.m, .slice u.B u.bs.length u.d, .slice u.A u.ls.length u.c] 27) = w5 at *
    clear hyq B4 HX4 HV4
    have x0 : w5.cell? ⟨xq, 0, none⟩ = some (.int .i64 v.k) := HX5.out.cell 0
    have x1 : w5.cell? ⟨xq, 1, none⟩ = some (.int .i64 v.t) := HX5.out.cell 1
    have x2 : w5.cell? ⟨xq, 2, none⟩ = some (.bool v.m) := HX5.out.cell 2
    have x3 : w5.cell? ⟨xq, 3, none⟩ = some (.slice v.B v.bs.length v.d) := HX5.out.cell 3
    have x4 : w5.cell? ⟨xq, 4, none⟩ = some (.slice v.A v.ls.length v.c) := HX5.out.cell 4
    have y0 : w5.cell? ⟨yq, 0, none⟩ = some (.int .i64 u.k) := HY.out.cell 0
    have y1 : w5.cell? ⟨yq, 1, none⟩ = some (.int .i64 u.t) := HY.out.cell 1
    have y2 : w5.cell? ⟨yq, 2, none⟩ = some (.bool u.m) := HY.out.cell 2
    have y3 : w5.cell? ⟨yq, 3, none⟩ = some (.slice u.B u.bs.length u.d) := HY.out.cell 3
    have y4 : w5.cell? ⟨yq, 4, none⟩ = some (.slice u.A u.ls.length u.c) := HY.out.cell 4
    have HSA := Lib.hid (rsame_any v u w5 HV5.out HU5.out)
    rw [(same_nf v u).2 (HV.out.1.trans HU.out.1.symm)] at HSA
    go_wp2_with fail
    refine HSA.out.mono ?_
    rintro e w6 ⟨rfl, g6⟩
    have HG6 := Lib.hid (B5.out.trans (grew_below g6 B5.out.size (fun _ e => by cases e)))
    clear g6
    go_wp2_with fail
    go_ret
    exact ⟨rfl, HG6.out⟩

theorem derReads_walk (w : World) (A : Option Addr) (c : Nat) (xs : List UInt8) (hl : xs.length ≤ c) (hc : c ≤ 140737488351232) (hb : Byt w w.heap.size A xs) (base : Int) (_ : (Lit.int .i64 base).wf = true) (hL : laidMetH Tryd.prog laidList w) :
    Calls Tryd.prog 3 #[.slice A xs.length c, .int .i64 base] w fun e w' => e = .returned (.bool true) ∧ Below w.heap.size w w' :=
  derReads_by aliveE readE w A c xs hl hc hb base (tb_of_laid hL)

set_option maxRecDepth 100000 in
theorem derReads_lifted (os : Os) (started : os.Started) (H : Type) (enc : TypeId × Value → H) :
    ReturnsInHanded {} Tryd.checked os 3 .any (fun w args => (Rows.derReadsSpec.pre enc Tryd.prog Tryd.f3 [] false w args ∧ laidMetH Tryd.prog laidList w) ∧ sizedMet enc Tryd.prog Tryd.f3 (OpenSpec.ofChange Rows.derReadsSpec) false w args)
      (Rows.derReadsSpec.post enc Tryd.prog Tryd.f3 false true false false) := by
  refine returnsInHanded_of_change_and (C := Tryd.checked) (X := fun w _ => laidMetH Tryd.prog laidList w) (fun _ _ _ hh h => h.of_heap hh) own started (by kernel_rfl) Tryd.func3
    (ChangeSpec.witness_shaped (enc := enc) (C := Tryd.checked) (os := os) (X := fun w _ => laidMetH Tryd.prog laidList w) false (World.doorLaid Tryd.prog doorSteps os) #[.slice none 0 0, .int .i64 0] 8 rfl (World.shaped_of_RefB (by kernel_rfl) (by kernel_rfl)) (by kernel_rfl) (by kernel_rfl) (by kernel_rfl) (door_met os _)) ?_
  intro W base args ds gs before hval0 hW hcnd hsz0 hL _
  have hval : ∀ (j : Nat) t v, Tryd.f3.params[j]? = some t → args[j]? = some v → Value.okWide Tryd.prog W .any base t v := hval0
  have hsz : (DataW.weightsEach Tryd.prog (Tryd.f3.params.toList ++ Rows.derReadsSpec.plain.varTypes Tryd.prog) (ds ++ gs)).all (· ≤ reachBytes) = true := hsz0
  have hW' := hW
  obtain ⟨p, q, hA0, hV, rfl, hfz, hnd⟩ := hW
  have hA : DataW.TrodAll enc Tryd.prog W 0 (fun _ => true) true Tryd.f3.params.toList args.toList ds p := hA0
  rw [Tryd.params3] at hA hval hsz
  obtain ⟨v0, vs0, d0, ds0, p0, q0, hargs, rfl, rfl, h0, r0⟩ := trodAll_cons hA
  obtain ⟨v1, vs1, d1, ds1, p1, q1, rfl, rfl, rfl, h1, r1⟩ := trodAll_cons r0
  obtain ⟨rfl, rfl, rfl⟩ := trodAll_nil r1
  obtain rfl : args = #[v0, v1] := by cases args; simp_all
  obtain ⟨rfl, rfl⟩ := trodVars_none hV
  have k0 := h0
  have lt0 : ∀ x ∈ p0, x.block < W.heap.size := by obtain ⟨m, hm⟩ := k0; exact DataW.trod_lt m _ _ _ hm
  obtain ⟨A0, c0, x0, rfl, l0, m0, b0⟩ := arg_bytes (hval 0 22 v0 rfl rfl) h0 hsz (j := 0) rfl rfl
  obtain ⟨a1, rfl, rfl, rfl, w1⟩ := open_int Tryd.underlying3 (hval 1 3 v1 rfl rfl) h1
  clear hA0 hval0 hsz0
  refine (derReads_walk W A0 c0 x0 l0 m0 b0 a1 w1 hL).mono fun e W' ⟨he, bel⟩ => ?_
  subst he
  exact ⟨_, rfl, _, _, _, [], _, [], hW', trodAll_mk1 (shut_bool Tryd.underlying4 _), (trodAll_cons_mk (Below.trod laidOut (by kernel_rfl) (of_decide_eq_true (by kernel_rfl)) k0 bel lt0) (trodAll_cons_mk (shut_int Tryd.underlying3 w1) trodAll_mk0)), rfl, bel.frame _, fun h => by cases h⟩

theorem derReads_over : Rows.derReadsRow.holds Tryd.pinned (OpenSpec.ofChange Rows.derReadsSpec) :=
  OpenClaim.holds_of_wide 3 Tryd.f3 rfl rfl rfl rfl rfl rfl rfl ⟨rfl, rfl, rfl, rfl, rfl⟩ rfl rfl rfl rfl rfl (by kernel_rfl) Tryd.func3 (by kernel_rfl)
    (of_decide_eq_true (by kernel_rfl)) (by unfold Func.isWrapper; first | (rw [if_pos (by decide +kernel)]; kernel_rfl) | (rw [if_neg (by decide +kernel)]; exact ⟨rfl, rfl⟩))
    (fun os started H enc _ => derReads_lifted os started H enc)

theorem derReads_holds : Rows.DerReadsSaid := derReads_over
#print axioms derReads_holds

/-- The row's card: what it lists of the package's variables is what the program's own text lays there. -/
theorem derReads_card : Rows.DerReadsCardSaid :=
  Claim7.holds_tied_plain_at .later [] [.data] true Rows.derReadsCard.stood.harness false
    derReads_holds (fun _ h => by cases h) (by kernel_rfl) (fun _ h => by cases h) derReads_row_tie rfl ⟨rfl, rfl⟩ (by kernel_rfl) rfl
    (fun f fn hf hfn => by
      obtain rfl : f = 3 := Option.some.inj ((show Tryd.prog.funcNamed "passepartout/passepartoutlaw11.DerReads" = some 3 by kernel_rfl).symm.trans hf) |>.symm
      obtain rfl : fn = Tryd.f3 := (Option.some.inj (Tryd.func3.symm.trans hfn)).symm
      exact ⟨by kernel_rfl, fun j t ht => by
        rw [Tryd.params3] at ht
        have hm : t ∈ [22, 3] := by simpa using Array.mem_of_getElem? ht
        have hall : ([22, 3].all fun u => !Tryd.prog.wantsStandIn u) = true := by kernel_rfl
        exact (show Tryd.prog.wantsStandIn t = false by simpa using List.all_eq_true.1 hall t hm)⟩)
    (by kernel_rfl)
#print axioms derReads_card
end Go.Proofs.YtnjnghbonmdbdaaDoor

