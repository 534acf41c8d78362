/- Which codes are grease, of any number: sixteen of them, and no extension's: for every number the law returns true, and it reads as it did. No condition. -/
import Derived.Test.YtdklkffodhcmfaaAl8
import Derived.Test.YtdklkffodhcmfaaOpen
namespace Go.Proofs.Ytdklkffodhcmfaa
open Go.ChangeShapes Go.WideShapes Go.ChangeAt Go.RowKit

/-- No extension is grease. -/
theorem ext_gr {x : Int} (h : gr x = true) : (cdOf 2 x).isSome = false := by
  have hx : ¬ x ≤ 51 := by
    simp only [gr, decide_eq_true_eq] at h
    omega
  have hall : ∀ y ∈ cds 2, y.1 ≤ 51 := by decide
  have : cdOf 2 x = none := find_miss (fun y hy => by have := hall y hy; simp; omega)
  rw [this]
  rfl

set_option maxRecDepth 100000 in
set_option maxHeartbeats 2000000 in
theorem codesGrease_walk (w : World) (c : Int) (_ : (Lit.int .i64 c).wf = true) :
    Calls Try.prog 4 #[.int .i64 c] w fun e w' => e = .returned (.bool true) ∧ Below w.heap.size w w' := by
  have hnot : ∀ (x : Bool) (w : World), (Op.unary .not (.bool x)).run Try.prog w = .ok (.bool (!x)) w := fun _ _ => rfl
  go_enter Try.func4, Try.ntmps4
  go_wp2_with fail
  refine (alive8_any w).mono ?_
  rintro e w1 ⟨rfl, b1⟩
  have B1 := Lib.hid b1
  clear b1
  obtain ⟨g, hg⟩ : ∃ g, gr c = g := ⟨_, rfl⟩
  have n1 := grease_any w1 c
  have n2 := rgrease_any w1 c
  rw [hg] at n1 n2
  clear hg
  go_wp2_with fail
  refine n1.mono ?_
  rintro e w2 ⟨rfl, rfl⟩
  go_wp2_with fail
  refine n2.mono ?_
  rintro e w3 ⟨rfl, rfl⟩
  go_wp2_with fail
  clear n1 n2
  go_loopw [3, 16] (fun n i wr => ∃ k : Nat, k ≤ 65536 ∧ i = .int .i64 k ∧ n = .int .i64 (((k + 1541) / 4112 : Nat) : Int) ∧ Hid (Below w.heap.size w wr)) (fun _ i _ => 65536 - (intOf i).toNat)
  case atStart => exact ⟨0, by omega, rfl, rfl, B1⟩
  case round =>
    obtain ⟨k, hk, rfl, rfl, hB⟩ := hrel
    by_cases hlt : k < 65536
    · have hlt' : (k : Int) < 65536 := by omega
      have g1 := grease_any wr (k : Int)
      cases hgr : gr (k : Int) with
      | true =>
        rw [hgr] at g1
        have hx := ext_gr hgr
        have hnx : ((k + 1 + 1541) / 4112 : Nat) = (k + 1541) / 4112 + 1 := by
          simp only [gr, decide_eq_true_eq] at hgr
          omega
        obtain ⟨m, hm⟩ : ∃ m, (k + 1541) / 4112 = m := ⟨_, rfl⟩
        have hm16 : m ≤ 16 := by omega
        rw [hm] at hnx
        have n3 := name_any wr 2 k
        rw [hx] at n3
        obtain ⟨S, hS⟩ : ∃ S, nmS (cdOf 2 k) = S := ⟨_, rfl⟩
        rw [hS] at n3
        have hwr : wrap64 ((k : Int) + 1) = (k : Int) + 1 := IntWalk.wrap64_in _ (by omega)
        have HK := Lib.hid hk
        have HLT := Lib.hid hlt
        have HNX := Lib.hid hnx
        clear hS hx hgr hk hlt hnx
        rw [hm]
        clear hm
        go_wp2_with fail
        refine g1.mono ?_
        rintro e w4 ⟨rfl, rfl⟩
        go_wp2_with fail
        refine n3.mono ?_
        rintro e w5 ⟨rfl, b5⟩
        have B5 := Lib.hid (hB.out.trans (b5.mono hB.out.size))
        clear b5 hB n3 g1
        go_wp2_with fail
        go_roundw
        case rel => exact ⟨k + 1, by have := HLT.out; omega, rfl, by rw [HNX.out]; rfl, B5⟩
        case measure => have := HLT.out; simp [intOf]; omega
      | false =>
        rw [hgr] at g1
        have hnx : ((k + 1 + 1541) / 4112 : Nat) = (k + 1541) / 4112 := by
          simp only [gr, decide_eq_false_iff_not] at hgr
          omega
        obtain ⟨m, hm⟩ : ∃ m, (k + 1541) / 4112 = m := ⟨_, rfl⟩
        rw [hm] at hnx ⊢
        have hm16 : m ≤ 16 := by omega
        have hwr : wrap64 ((k : Int) + 1) = (k : Int) + 1 := IntWalk.wrap64_in _ (by omega)
        have HK := Lib.hid hk
        have HLT := Lib.hid hlt
        have HNX := Lib.hid hnx
        clear hm hgr hk hlt hnx
        go_wp2_with fail
        refine g1.mono ?_
        rintro e w4 ⟨rfl, rfl⟩
        go_wp2_with fail
        go_roundw
        case rel => exact ⟨k + 1, by have := HLT.out; omega, rfl, by rw [HNX.out], hB⟩
        case measure => have := HLT.out; simp [intOf]; omega
    · obtain rfl : k = 65536 := by omega
      go_wp2_with fail
      go_ret
      exact ⟨rfl, hB.out⟩

set_option maxRecDepth 100000 in
theorem codesGrease_lifted (os : Os) (started : os.Started) (H : Type) (enc : TypeId × Value → H) :
    ReturnsInHanded {} Try.checked os 4 .any (Rows.codesGreaseSpec.pre6 enc Try.prog Try.f4 Rows.codesGreaseRow.domain false) (Rows.codesGreaseSpec.post enc Try.prog Try.f4 false true false false) := by
  refine returnsInHanded_of_change_sized (C := Try.checked) own started (by kernel_rfl) Try.func4
    (ChangeSpec.witness6 (enc := enc) (C := Try.checked) false ⟨#[], #[.int .i64 0], []⟩ 8 (by kernel_rfl) (by kernel_rfl) (by kernel_rfl) (by kernel_rfl)) ?_
  intro W base args ds gs before hval0 hW hcnd hsz0 _
  have hval : ∀ (j : Nat) t v, Try.f4.params[j]? = some t → args[j]? = some v → Value.okWide Try.prog W .any base t v := hval0
  have hsz : (DataW.weightsEach Try.prog (Try.f4.params.toList ++ Rows.codesGreaseSpec.plain.varTypes Try.prog) (ds ++ gs)).all (· ≤ reachBytes) = true := hsz0
  have hW' := hW
  obtain ⟨p, q, hA0, hV, rfl, hfz, hnd⟩ := hW
  have hA : DataW.TrodAll enc Try.prog W 0 (fun _ => true) true Try.f4.params.toList args.toList ds p := hA0
  rw [Try.params4] at hA hval hsz
  obtain ⟨v0, vs0, d0, ds0, p0, q0, hargs, rfl, rfl, h0, r0⟩ := trodAll_cons hA
  obtain ⟨rfl, rfl, rfl⟩ := trodAll_nil r0
  obtain rfl : args = #[v0] := by cases args; simp_all
  obtain ⟨rfl, rfl⟩ := trodVars_none hV
  obtain ⟨a0, rfl, rfl, rfl, w0⟩ := open_int Try.underlying3 (hval 0 3 v0 rfl rfl) h0
  clear hA0 hval0 hsz0
  refine (codesGrease_walk W a0 w0).mono fun e W' ⟨he, bel⟩ => ?_
  subst he
  exact ⟨_, rfl, _, _, _, [], _, [], hW', trodAll_mk1 (shut_bool Try.underlying4 _), (trodAll_cons_mk (shut_int Try.underlying3 w0) trodAll_mk0), rfl, bel.frame _, fun h => by cases h⟩

theorem codesGrease_over : Rows.codesGreaseRow.holds Try.pinned (OpenSpec.ofChange Rows.codesGreaseSpec) :=
  OpenClaim.holds_of_wide 4 Try.f4 rfl rfl rfl rfl rfl rfl rfl ⟨rfl, rfl, rfl, rfl, rfl⟩ rfl rfl rfl rfl rfl (by kernel_rfl) Try.func4 (by kernel_rfl)
    (of_decide_eq_true (by kernel_rfl)) (by unfold Func.isWrapper; first | (rw [if_pos (by decide +kernel)]; kernel_rfl) | (rw [if_neg (by decide +kernel)]; exact ⟨rfl, rfl⟩))
    (fun os started H enc _ => codesGrease_lifted os started H enc)

theorem codesGrease_holds : Rows.CodesGreaseSaid := codesGrease_over
#print axioms codesGrease_holds
end Go.Proofs.Ytdklkffodhcmfaa

