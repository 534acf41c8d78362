/- Of all bytes that may begin a thing, made of others or not, just those do that there are: for every second byte the law returns true, and it reads as it did. Condition: the table of the package holds what the program's own text lays there (the card). -/
import Derived.Test.YtbeknillegkidaaDoorLw9
namespace Go.Proofs.YtbeknillegkidaaDoor
open Go.ChangeShapes Go.WideShapes Go.ChangeAt Go.RowKit

theorem and_127 : ∀ n : Nat, n < 256 → bits BinOp.and IntKind.u8 (n : Int) 127 = (n : Int) % 128 := by decide +kernel
theorem and_31 : ∀ n : Nat, n < 256 → bits BinOp.and IntKind.i64 (n : Int) 31 = (n : Int) % 32 := by decide +kernel
theorem and_i : ∀ n : Nat, n < 256 → decide (0 < bits BinOp.and IntKind.i64 (n : Int) 32) = (n / 32 % 2 == 1) := by decide +kernel
/-- What is read of two bytes whose second one is a length. -/
theorem rdH_two (a b : UInt8) (hb : b.toNat < 128) : rdH [a, b] = if kd (hdC a) (hdT a) (hdM a) = true then (⟨hdC a, hdT a, hdM a, (b.toNat : Nat)⟩, 2, 0) else (.z, 0, 13) := by
  cases h : kd (hdC a) (hdT a) (hdM a) with
  | false => rw [rdH_no h]; rfl
  | true =>
    have e : rl [b] = (b.toNat, 2, 0) := by unfold rl; simp only; rw [if_pos hb]
    rw [rdH_rl a [b] h, e]
    rfl

set_option maxRecDepth 100000 in
set_option maxHeartbeats 4000000 in
theorem dertagBytes_walk (w : World) (n : Int) (hn : (Lit.int .u8 n).wf = true) (hL : laidMetH Tryd.prog laidList w) :
    Calls Tryd.prog 7 #[.int .u8 n] w fun e w' => e = .returned (.bool true) ∧ Below w.heap.size w w' := by
  have HT := Lib.hid (tb_of_laid hL)
  obtain ⟨q, hq⟩ : ∃ q, w.heap.size = q := ⟨_, rfl⟩
  have hq0 : 0 < q := by rw [← hq]; exact HT.out.lt
  have hb := bounds_u8 hn
  obtain ⟨n, rfl⟩ := Int.eq_ofNat_of_zero_le hb.1
  have hn256 : n < 256 := by omega
  rw [hq]
  have hal := alive9_any w HT.out
  rw [hq] at hal
  clear hL hb hn
  go_enter Tryd.func7, Tryd.ntmps7
  go_wp2_with fail
  refine hal.mono ?_
  rintro e w1 ⟨rfl, hB1⟩
  have HB1 := Lib.hid (And.intro hB1 (show q ≤ w1.heap.size by rw [← hq]; exact hB1.size))
  clear hal hB1
  go_wp2_with fail
  go_loopw [10] (fun i wr => ∃ j : Nat, j ≤ 256 ∧ i = .int .i64 j ∧ Hid (Below q w wr ∧ q ≤ wr.heap.size)) (fun i _ => 256 - (intOf i).toNat)
  case atStart => exact ⟨0, Nat.zero_le _, rfl, HB1⟩
  case round =>
    clear HB1
    obtain ⟨j, hj, rfl, hR⟩ := hrel
    by_cases hlt : j < 256
    · have hlt' : (j : Int) < 256 := by omega
      have f1 : IntKind.u8.wrap (j : Int) = j := by show (j : Int) % 256 = j; omega
      have hai := and_i j hlt
      have han := and_127 n hn256
      have hat := and_31 j hlt
      obtain ⟨hm, hhm⟩ : ∃ hm, (j / 32 % 2 == 1) = hm := ⟨_, rfl⟩
      rw [hhm] at hai
      have ea : (UInt8.ofNat j).toNat = j := by simp; omega
      have eb : (UInt8.ofNat (n % 128)).toNat = n % 128 := by simp; omega
      have hr2 := rdH_two (.ofNat j) (.ofNat (n % 128)) (by rw [eb]; omega)
      have e1 : hdC (.ofNat j) = (j : Int) / 64 := by show ((UInt8.ofNat j).toNat : Int) / 64 = _; rw [ea]
      have e2 : hdT (.ofNat j) = (j : Int) % 32 := by show ((UInt8.ofNat j).toNat : Int) % 32 = _; rw [ea]
      have e3 : hdM (.ofNat j) = hm := by rw [← hhm]; show ((UInt8.ofNat j).toNat / 32 % 2 == 1) = _; rw [ea]
      rw [e1, e2, e3, eb] at hr2
      have hrk := fun W => rkind_any W ((j : Int) / 64) ((j : Int) % 32) hm
      obtain ⟨K, hK⟩ : ∃ K, kd ((j : Int) / 64) ((j : Int) % 32) hm = K := ⟨_, rfl⟩
      rw [hK] at hr2 hrk
      cases hKK : K with
      | false =>
        rw [hKK] at hr2 hrk
        have hrd := read_new wr (HT.out.below hR.out.1 hq0) #[.int .u8 (j : Int), .int .u8 ((n : Int) % 128)] [.ofNat j, .ofNat (n % 128)] (by simp only [cellsOf, List.map_cons, List.map_nil]; rw [u8_nat j hlt, u8_nat (n % 128) (by omega)]; rfl) 2 rfl (by omega) (.z, 0, 13) hr2
        dsimp only [Hd.agg, Hd.z] at hrd
        have HRD := Lib.hid hrd
        have HRK := Lib.hid hrk
        have HQ := Lib.hid hq
        clear hK hKK hr2 hrk hrd e1 e2 e3 ea eb hhm hq
        go_wp2_with fail
        refine HRD.out.mono ?_
        rintro e w2 ⟨rfl, hB2⟩
        have HB2 := Lib.hid (show Below q w w2 ∧ q ≤ w2.heap.size from ⟨hR.out.1.trans (hB2.mono hR.out.2), Nat.le_trans hR.out.2 hB2.size⟩)
        clear HRD hB2 hR
        have HB3 := Lib.hid (show Below q w (w2.alloc (.cells #[.int .i64 0, .int .i64 0, .bool false, .int .i64 0] 24)) ∧ q ≤ (w2.alloc (.cells #[.int .i64 0, .int .i64 0, .bool false, .int .i64 0] 24)).heap.size from ⟨HB2.out.1.alloc HB2.out.2 _, by have := HB2.out.2; simp; omega⟩)
        clear HB2
        go_wp2_with fail
        generalize w2.alloc (.cells #[.int .i64 0, .int .i64 0, .bool false, .int .i64 0] 24) = W at *
        with_reducible refine (HRK.out W).mono ?_
        rintro e w3 ⟨rfl, rfl⟩
        clear HRK
        go_wp2_with fail
        go_roundw
        case rel => exact ⟨j + 1, hlt, rfl, HB3⟩
        case measure => simp [intOf]; omega
      | true =>
        rw [hKK] at hr2 hrk
        have hrd := read_new wr (HT.out.below hR.out.1 hq0) #[.int .u8 (j : Int), .int .u8 ((n : Int) % 128)] [.ofNat j, .ofNat (n % 128)] (by simp only [cellsOf, List.map_cons, List.map_nil]; rw [u8_nat j hlt, u8_nat (n % 128) (by omega)]; rfl) 2 rfl (by omega) (⟨(j : Int) / 64, (j : Int) % 32, hm, ((n % 128 : Nat) : Int)⟩, 2, 0) hr2
        dsimp only [Hd.agg, Hd.z] at hrd
        have HRD := Lib.hid hrd
        have HRK := Lib.hid hrk
        have HQ := Lib.hid hq
        clear hK hKK hr2 hrk hrd e1 e2 e3 ea eb hhm hq
        go_wp2_with fail
        refine HRD.out.mono ?_
        rintro e w2 ⟨rfl, hB2⟩
        have HB2 := Lib.hid (show Below q w w2 ∧ q ≤ w2.heap.size from ⟨hR.out.1.trans (hB2.mono hR.out.2), Nat.le_trans hR.out.2 hB2.size⟩)
        clear HRD hB2 hR
        have HB3 := Lib.hid (show Below q w (w2.alloc (.cells #[.int .i64 ((j : Int) / 64), .int .i64 ((j : Int) % 32), .bool hm, .int .i64 ((n : Int) % 128)] 24)) ∧ q ≤ (w2.alloc (.cells #[.int .i64 ((j : Int) / 64), .int .i64 ((j : Int) % 32), .bool hm, .int .i64 ((n : Int) % 128)] 24)).heap.size from ⟨HB2.out.1.alloc HB2.out.2 _, by have := HB2.out.2; simp; omega⟩)
        clear HB2
        go_wp2_with fail
        generalize w2.alloc (.cells #[.int .i64 ((j : Int) / 64), .int .i64 ((j : Int) % 32), .bool hm, .int .i64 ((n : Int) % 128)] 24) = W at *
        with_reducible refine (HRK.out W).mono ?_
        rintro e w3 ⟨rfl, rfl⟩
        clear HRK
        go_wp2_with fail
        go_roundw
        case rel => exact ⟨j + 1, hlt, rfl, HB3⟩
        case measure => simp [intOf]; omega
    · obtain rfl : j = 256 := by omega
      go_wp2_with fail
      go_ret
      exact ⟨rfl, hR.out.1⟩

set_option maxRecDepth 100000 in
theorem dertagBytes_lifted (os : Os) (started : os.Started) (H : Type) (enc : TypeId × Value → H) :
    ReturnsInHanded {} Tryd.checked os 7 .any (fun w args => (Rows.dertagBytesSpec.pre enc Tryd.prog Tryd.f7 [] false w args ∧ laidMetH Tryd.prog laidList w) ∧ sizedMet enc Tryd.prog Tryd.f7 (OpenSpec.ofChange Rows.dertagBytesSpec) false w args)
      (Rows.dertagBytesSpec.post enc Tryd.prog Tryd.f7 false true false false) := by
  refine returnsInHanded_of_change_and (C := Tryd.checked) (X := fun w _ => laidMetH Tryd.prog laidList w) (fun _ _ _ hh h => h.of_heap hh) own started (by kernel_rfl) Tryd.func7
    (ChangeSpec.witness_shaped (enc := enc) (C := Tryd.checked) (os := os) (X := fun w _ => laidMetH Tryd.prog laidList w) false (World.doorLaid Tryd.prog doorSteps os) #[.int .u8 0] 8 rfl (World.shaped_of_RefB (by kernel_rfl) (by kernel_rfl)) (by kernel_rfl) (by kernel_rfl) (by kernel_rfl) (door_met os _)) ?_
  intro W base args ds gs before hval0 hW hcnd hsz0 hL _
  have hval : ∀ (j : Nat) t v, Tryd.f7.params[j]? = some t → args[j]? = some v → Value.okWide Tryd.prog W .any base t v := hval0
  have hsz : (DataW.weightsEach Tryd.prog (Tryd.f7.params.toList ++ Rows.dertagBytesSpec.plain.varTypes Tryd.prog) (ds ++ gs)).all (· ≤ reachBytes) = true := hsz0
  have hW' := hW
  obtain ⟨p, q, hA0, hV, rfl, hfz, hnd⟩ := hW
  have hA : DataW.TrodAll enc Tryd.prog W 0 (fun _ => true) true Tryd.f7.params.toList args.toList ds p := hA0
  rw [Tryd.params7] at hA hval hsz
  obtain ⟨v0, vs0, d0, ds0, p0, q0, hargs, rfl, rfl, h0, r0⟩ := trodAll_cons hA
  obtain ⟨rfl, rfl, rfl⟩ := trodAll_nil r0
  obtain rfl : args = #[v0] := by cases args; simp_all
  obtain ⟨rfl, rfl⟩ := trodVars_none hV
  obtain ⟨a0, rfl, rfl, rfl, w0⟩ := open_int Tryd.underlying5 (hval 0 5 v0 rfl rfl) h0
  clear hA0 hval0 hsz0
  refine (dertagBytes_walk W a0 w0 hL).mono fun e W' ⟨he, bel⟩ => ?_
  subst he
  exact ⟨_, rfl, _, _, _, [], _, [], hW', trodAll_mk1 (shut_bool Tryd.underlying4 _), (trodAll_cons_mk (shut_int Tryd.underlying5 w0) trodAll_mk0), rfl, bel.frame _, fun h => by cases h⟩

theorem dertagBytes_over : Rows.dertagBytesRow.holds Tryd.pinned (OpenSpec.ofChange Rows.dertagBytesSpec) :=
  OpenClaim.holds_of_wide 7 Tryd.f7 rfl rfl rfl rfl rfl rfl rfl ⟨rfl, rfl, rfl, rfl, rfl⟩ rfl rfl rfl rfl rfl (by kernel_rfl) Tryd.func7 (by kernel_rfl)
    (of_decide_eq_true (by kernel_rfl)) (by unfold Func.isWrapper; first | (rw [if_pos (by decide +kernel)]; kernel_rfl) | (rw [if_neg (by decide +kernel)]; exact ⟨rfl, rfl⟩))
    (fun os started H enc _ => dertagBytes_lifted os started H enc)

theorem dertagBytes_holds : Rows.DertagBytesSaid := dertagBytes_over
#print axioms dertagBytes_holds

/-- The row's card: what it lists of the package's variables is what the program's own text lays there. -/
theorem dertagBytes_card : Rows.DertagBytesCardSaid :=
  Claim7.holds_tied_plain_at .later [] [.data] true Rows.dertagBytesCard.stood.harness false
    dertagBytes_holds (fun _ h => by cases h) (by kernel_rfl) (fun _ h => by cases h) dertagBytes_row_tie rfl ⟨rfl, rfl⟩ (by kernel_rfl) rfl
    (fun f fn hf hfn => by
      obtain rfl : f = 7 := Option.some.inj ((show Tryd.prog.funcNamed "passepartout/passepartoutlaw09.DertagBytes" = some 7 by kernel_rfl).symm.trans hf) |>.symm
      obtain rfl : fn = Tryd.f7 := (Option.some.inj (Tryd.func7.symm.trans hfn)).symm
      exact ⟨by kernel_rfl, fun j t ht => by
        rw [Tryd.params7] at ht
        have hm : t ∈ [5] := by simpa using Array.mem_of_getElem? ht
        have hall : ([5].all fun u => !Tryd.prog.wantsStandIn u) = true := by kernel_rfl
        exact (show Tryd.prog.wantsStandIn t = false by simpa using List.all_eq_true.1 hall t hm)⟩)
    (by kernel_rfl)
#print axioms dertagBytes_card
end Go.Proofs.YtbeknillegkidaaDoor

