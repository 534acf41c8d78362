/- Of any bytes the head that is read is the document's, how many bytes it has, or where there is none, and why: for every bytes the law returns true, and they read as they did. Condition: the table of the package holds what the program's own text lays there (the card). -/
import Derived.Test.YtbeknillegkidaaDoorLw9
namespace Go.Proofs.YtbeknillegkidaaDoor
open Go.ChangeShapes Go.WideShapes Go.ChangeAt Go.RowKit

set_option maxRecDepth 100000 in
set_option maxHeartbeats 4000000 in
theorem dertagReads_walk (w : World) (A : Option Addr) (c : Nat) (xs : List UInt8) (hl : xs.length ≤ c) (hc : c ≤ 140737488351232) (hb : Byt w w.heap.size A xs) (hL : laidMetH Tryd.prog laidList w) :
    Calls Tryd.prog 3 #[.slice A xs.length c] w fun e w' => e = .returned (.bool true) ∧ Below w.heap.size w w' := by
  have HT := Lib.hid (tb_of_laid hL)
  have HB := Lib.hid hb
  obtain ⟨q, hq⟩ : ∃ q, w.heap.size = q := ⟨_, rfl⟩
  have r1 := read_any w HT.out A c xs hb hl hc
  have r2 := fun (W : World) (h : Byt W W.heap.size A xs) => rread_any W A c xs h (Nat.le_trans hl hc)
  obtain ⟨⟨h, k, e⟩, hR⟩ : ∃ R, rdH xs = R := ⟨_, rfl⟩
  rw [hR] at r1 r2
  obtain ⟨h0, h1, h2, h3⟩ := h
  dsimp only [Hd.agg] at r1 r2
  have HR2 := Lib.hid r2
  rw [hq] at r1 ⊢
  clear hL hb r2 hR
  go_enter Tryd.func3, Tryd.ntmps3
  go_wp2_with fail
  refine r1.mono ?_
  rintro e w1 ⟨rfl, hB1⟩
  clear r1
  obtain ⟨p, W, hp, hW, hs, hqp, k1, b1, -⟩ := new_block hB1 (by rw [← hq]; exact hB1.size) #[.int .i64 h0, .int .i64 h1, .bool h2, .int .i64 h3] 24
  have HB1 := Lib.hid b1
  have HK1 := Lib.hid k1
  have HS := Lib.hid hs
  have HBY := Lib.hid ((byt_below HB.out b1 (by omega)).more (B' := W.heap.size) (by omega))
  clear hB1 k1 b1 hs HB
  go_wp2_with fail
  clear hW hp
  refine (HR2.out W HBY.out).mono ?_
  rintro e' w2 ⟨rfl, hB2⟩
  have K1 := whole_below HK1.out hB2 HK1.out.lt
  have B2 := HB1.out.trans (hB2.mono (by rw [HS.out]; omega))
  obtain ⟨p2, W2, hp2, hW2, hs2, hqp2, k2, b2, keep⟩ := new_block B2 (by rw [← hq]; exact B2.size) #[.int .i64 h0, .int .i64 h1, .bool h2, .int .i64 h3] 28
  have K1' := Lib.hid (keep _ _ _ K1)
  have K2' := Lib.hid k2
  have HB2 := Lib.hid b2
  clear hB2 K1 B2 k2 b2 keep HK1 HS HBY HR2 hs2
  go_wp2_with fail
  clear hW2 hp2
  refine (alive9_any W2 (HT.out.below HB2.out (by rw [← hq]; exact HT.out.lt))).mono ?_
  rintro e'' w3 ⟨rfl, hB3⟩
  obtain ⟨c0, c1, c2, c3⟩ := whole_head (whole_below K1'.out hB3 K1'.out.lt)
  obtain ⟨d0, d1, d2, d3⟩ := whole_head (whole_below K2'.out hB3 K2'.out.lt)
  have HB3 := Lib.hid (HB2.out.trans (hB3.mono (by rw [← hq]; exact HB2.out.size)))
  clear hB3 K1' K2' HB2 HT
  go_wp2_with fail
  go_ret
  exact ⟨rfl, HB3.out⟩

set_option maxRecDepth 100000 in
theorem dertagReads_lifted (os : Os) (started : os.Started) (H : Type) (enc : TypeId × Value → H) :
    ReturnsInHanded {} Tryd.checked os 3 .any (fun w args => (Rows.dertagReadsSpec.pre enc Tryd.prog Tryd.f3 [] false w args ∧ laidMetH Tryd.prog laidList w) ∧ sizedMet enc Tryd.prog Tryd.f3 (OpenSpec.ofChange Rows.dertagReadsSpec) false w args)
      (Rows.dertagReadsSpec.post enc Tryd.prog Tryd.f3 false true false false) := by
  refine returnsInHanded_of_change_and (C := Tryd.checked) (X := fun w _ => laidMetH Tryd.prog laidList w) (fun _ _ _ hh h => h.of_heap hh) own started (by kernel_rfl) Tryd.func3
    (ChangeSpec.witness_shaped (enc := enc) (C := Tryd.checked) (os := os) (X := fun w _ => laidMetH Tryd.prog laidList w) false (World.doorLaid Tryd.prog doorSteps os) #[.slice none 0 0] 8 rfl (World.shaped_of_RefB (by kernel_rfl) (by kernel_rfl)) (by kernel_rfl) (by kernel_rfl) (by kernel_rfl) (door_met os _)) ?_
  intro W base args ds gs before hval0 hW hcnd hsz0 hL _
  have hval : ∀ (j : Nat) t v, Tryd.f3.params[j]? = some t → args[j]? = some v → Value.okWide Tryd.prog W .any base t v := hval0
  have hsz : (DataW.weightsEach Tryd.prog (Tryd.f3.params.toList ++ Rows.dertagReadsSpec.plain.varTypes Tryd.prog) (ds ++ gs)).all (· ≤ reachBytes) = true := hsz0
  have hW' := hW
  obtain ⟨p, q, hA0, hV, rfl, hfz, hnd⟩ := hW
  have hA : DataW.TrodAll enc Tryd.prog W 0 (fun _ => true) true Tryd.f3.params.toList args.toList ds p := hA0
  rw [Tryd.params3] at hA hval hsz
  obtain ⟨v0, vs0, d0, ds0, p0, q0, hargs, rfl, rfl, h0, r0⟩ := trodAll_cons hA
  obtain ⟨rfl, rfl, rfl⟩ := trodAll_nil r0
  obtain rfl : args = #[v0] := by cases args; simp_all
  obtain ⟨rfl, rfl⟩ := trodVars_none hV
  have k0 := h0
  have lt0 : ∀ x ∈ p0, x.block < W.heap.size := by obtain ⟨m, hm⟩ := k0; exact DataW.trod_lt m _ _ _ hm
  obtain ⟨A0, c0, x0, rfl, l0, m0, b0⟩ := arg_bytes (hval 0 22 v0 rfl rfl) h0 hsz (j := 0) rfl rfl
  clear hA0 hval0 hsz0
  refine (dertagReads_walk W A0 c0 x0 l0 m0 b0 hL).mono fun e W' ⟨he, bel⟩ => ?_
  subst he
  exact ⟨_, rfl, _, _, _, [], _, [], hW', trodAll_mk1 (shut_bool Tryd.underlying4 _), (trodAll_cons_mk (Below.trod laidOut (by kernel_rfl) (of_decide_eq_true (by kernel_rfl)) k0 bel lt0) trodAll_mk0), rfl, bel.frame _, fun h => by cases h⟩

theorem dertagReads_over : Rows.dertagReadsRow.holds Tryd.pinned (OpenSpec.ofChange Rows.dertagReadsSpec) :=
  OpenClaim.holds_of_wide 3 Tryd.f3 rfl rfl rfl rfl rfl rfl rfl ⟨rfl, rfl, rfl, rfl, rfl⟩ rfl rfl rfl rfl rfl (by kernel_rfl) Tryd.func3 (by kernel_rfl)
    (of_decide_eq_true (by kernel_rfl)) (by unfold Func.isWrapper; first | (rw [if_pos (by decide +kernel)]; kernel_rfl) | (rw [if_neg (by decide +kernel)]; exact ⟨rfl, rfl⟩))
    (fun os started H enc _ => dertagReads_lifted os started H enc)

theorem dertagReads_holds : Rows.DertagReadsSaid := dertagReads_over
#print axioms dertagReads_holds

/-- The row's card: what it lists of the package's variables is what the program's own text lays there. -/
theorem dertagReads_card : Rows.DertagReadsCardSaid :=
  Claim7.holds_tied_plain_at .later [] [.data] true Rows.dertagReadsCard.stood.harness false
    dertagReads_holds (fun _ h => by cases h) (by kernel_rfl) (fun _ h => by cases h) dertagReads_row_tie rfl ⟨rfl, rfl⟩ (by kernel_rfl) rfl
    (fun f fn hf hfn => by
      obtain rfl : f = 3 := Option.some.inj ((show Tryd.prog.funcNamed "passepartout/passepartoutlaw09.DertagReads" = some 3 by kernel_rfl).symm.trans hf) |>.symm
      obtain rfl : fn = Tryd.f3 := (Option.some.inj (Tryd.func3.symm.trans hfn)).symm
      exact ⟨by kernel_rfl, fun j t ht => by
        rw [Tryd.params3] at ht
        have hm : t ∈ [22] := by simpa using Array.mem_of_getElem? ht
        have hall : ([22].all fun u => !Tryd.prog.wantsStandIn u) = true := by kernel_rfl
        exact (show Tryd.prog.wantsStandIn t = false by simpa using List.all_eq_true.1 hall t hm)⟩)
    (by kernel_rfl)
#print axioms dertagReads_card
end Go.Proofs.YtbeknillegkidaaDoor

