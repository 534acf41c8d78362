/- How many bytes there may be; of no builder nothing is told: for all three numbers the law returns true, and they read as they did. No condition. -/
import Derived.Test.YtkeiamihgcbcbaaBd4
import Derived.Test.YtkeiamihgcbcbaaOpen
namespace Go.Proofs.Ytkeiamihgcbcbaa
open Go.ChangeShapes Go.WideShapes Go.ChangeAt Go.RowKit

set_option maxRecDepth 100000 in
set_option maxHeartbeats 4000000 in
theorem builderNone_walk (w : World) (a : Int) (_ : (Lit.int .i64 a).wf = true) (k : Int) (_ : (Lit.int .i64 k).wf = true) (x : Int) (_ : (Lit.int .u64 x).wf = true) :
    Calls Try.prog 4 #[.int .i64 a, .int .i64 k, .int .u64 x] w fun e w' => e = .returned (.bool true) ∧ Below w.heap.size w w' := by
  by_cases ha : a < 0 ∨ 1073741824 < a
  · have hA := Lib.hid ha
    rcases ha with ha | ha
    · go_enter Try.func4, Try.ntmps4
      go_wp2_with fail
      with_reducible refine (bdone_nil w).mono ?_
      rintro e w1 ⟨rfl, rfl⟩
      go_wp2_with fail
      with_reducible refine (bnumber_nil w k x).mono ?_
      rintro e w1 ⟨rfl, rfl⟩
      go_wp2_with fail
      with_reducible refine (bbytes_nil _ _).mono ?_
      rintro e w1 ⟨rfl, rfl⟩
      have g0 := grew_alloc (grew_refl w none) (.cells #[.int .u8 1] 5)
      go_wp2_with fail
      generalize w.alloc (.cells #[.int .u8 1] 5) = W0 at *
      with_reducible refine (bopen_nil _ k).mono ?_
      rintro e w1 ⟨rfl, rfl⟩
      go_wp2_with fail
      with_reducible refine (bclose_nil _).mono ?_
      rintro e w1 ⟨rfl, rfl⟩
      go_wp2_with fail
      with_reducible refine (blen_nil _).mono ?_
      rintro e w1 ⟨rfl, rfl⟩
      go_wp2_with fail
      with_reducible refine (bdeep_nil _).mono ?_
      rintro e w1 ⟨rfl, rfl⟩
      go_wp2_with fail
      with_reducible refine (bnew_no _ a hA.out).mono ?_
      rintro e w1 ⟨rfl, rfl⟩
      go_wp2_with fail
      with_reducible refine (alive2_any _).mono ?_
      rintro e w1 ⟨rfl, g1⟩
      go_wp2_with fail
      go_ret
      exact ⟨rfl, grew_below (grew_trans g0 g1) (Nat.le_refl _) (fun _ h => by cases h)⟩
    · have hn : ¬ a < 0 := by omega
      go_enter Try.func4, Try.ntmps4
      go_wp2_with fail
      with_reducible refine (bdone_nil w).mono ?_
      rintro e w1 ⟨rfl, rfl⟩
      go_wp2_with fail
      with_reducible refine (bnumber_nil w k x).mono ?_
      rintro e w1 ⟨rfl, rfl⟩
      go_wp2_with fail
      with_reducible refine (bbytes_nil _ _).mono ?_
      rintro e w1 ⟨rfl, rfl⟩
      have g0 := grew_alloc (grew_refl w none) (.cells #[.int .u8 1] 5)
      go_wp2_with fail
      generalize w.alloc (.cells #[.int .u8 1] 5) = W0 at *
      with_reducible refine (bopen_nil _ k).mono ?_
      rintro e w1 ⟨rfl, rfl⟩
      go_wp2_with fail
      with_reducible refine (bclose_nil _).mono ?_
      rintro e w1 ⟨rfl, rfl⟩
      go_wp2_with fail
      with_reducible refine (blen_nil _).mono ?_
      rintro e w1 ⟨rfl, rfl⟩
      go_wp2_with fail
      with_reducible refine (bdeep_nil _).mono ?_
      rintro e w1 ⟨rfl, rfl⟩
      go_wp2_with fail
      with_reducible refine (bnew_no _ a hA.out).mono ?_
      rintro e w1 ⟨rfl, rfl⟩
      go_wp2_with fail
      with_reducible refine (alive2_any _).mono ?_
      rintro e w1 ⟨rfl, g1⟩
      go_wp2_with fail
      go_ret
      exact ⟨rfl, grew_below (grew_trans g0 g1) (Nat.le_refl _) (fun _ h => by cases h)⟩
  · obtain ⟨n, rfl⟩ := Int.eq_ofNat_of_zero_le (a := a) (by omega)
    have h0 : ¬ ((n : Int) < 0) := by omega
    have h1 : ¬ ((1073741824 : Int) < n) := by omega
    clear ha
    go_enter Try.func4, Try.ntmps4
    go_wp2_with fail
    with_reducible refine (bdone_nil w).mono ?_
    rintro e w1 ⟨rfl, rfl⟩
    go_wp2_with fail
    with_reducible refine (bnumber_nil w k x).mono ?_
    rintro e w1 ⟨rfl, rfl⟩
    go_wp2_with fail
    with_reducible refine (bbytes_nil _ _).mono ?_
    rintro e w1 ⟨rfl, rfl⟩
    have g0 := grew_alloc (grew_refl w none) (.cells #[.int .u8 1] 5)
    go_wp2_with fail
    generalize w.alloc (.cells #[.int .u8 1] 5) = W0 at *
    with_reducible refine (bopen_nil _ k).mono ?_
    rintro e w1 ⟨rfl, rfl⟩
    go_wp2_with fail
    with_reducible refine (bclose_nil _).mono ?_
    rintro e w1 ⟨rfl, rfl⟩
    go_wp2_with fail
    with_reducible refine (blen_nil _).mono ?_
    rintro e w1 ⟨rfl, rfl⟩
    go_wp2_with fail
    with_reducible refine (bdeep_nil _).mono ?_
    rintro e w1 ⟨rfl, rfl⟩
    go_wp2_with fail
    with_reducible refine (bnew_ok _ n (by omega)).mono ?_
    rintro e w1 ⟨rfl, h1, g1⟩
    generalize W0.heap.size = q at *
    have H1 := Lib.hid h1
    clear h1
    go_wp2_with fail
    with_reducible refine (alive2_any _).mono ?_
    rintro e w2 ⟨rfl, g2⟩
    have H2 := Lib.hid (H1.out.fr (Fr.of_grew g2) (fun _ _ h => by cases h))
    go_wp2_with fail
    with_reducible refine (blen_any _ _ _ _ _ _ H2.out).mono ?_
    rintro e w3 ⟨rfl, rfl⟩
    simp only [List.length_nil]
    go_wp2_with fail
    with_reducible refine (bdeep_any _ _ _ _ _ _ H2.out).mono ?_
    rintro e w3 ⟨rfl, rfl⟩
    simp only [List.length_nil]
    go_wp2_with fail
    go_ret
    exact ⟨rfl, grew_below (grew_trans (grew_trans g0 g1) g2) (Nat.le_refl _) (fun _ h => by cases h)⟩

set_option maxRecDepth 100000 in
theorem builderNone_lifted (os : Os) (started : os.Started) (H : Type) (enc : TypeId × Value → H) :
    ReturnsInHanded {} Try.checked os 4 .any (Rows.builderNoneSpec.pre6 enc Try.prog Try.f4 Rows.builderNoneRow.domain false) (Rows.builderNoneSpec.post enc Try.prog Try.f4 false true false false) := by
  refine returnsInHanded_of_change_sized (C := Try.checked) own started (by kernel_rfl) Try.func4
    (ChangeSpec.witness6 (enc := enc) (C := Try.checked) false ⟨#[], #[.int .i64 0, .int .i64 0, .int .u64 0], []⟩ 8 (by kernel_rfl) (by kernel_rfl) (by kernel_rfl) (by kernel_rfl)) ?_
  intro W base args ds gs before hval0 hW hcnd hsz0 _
  have hval : ∀ (j : Nat) t v, Try.f4.params[j]? = some t → args[j]? = some v → Value.okWide Try.prog W .any base t v := hval0
  have hsz : (DataW.weightsEach Try.prog (Try.f4.params.toList ++ Rows.builderNoneSpec.plain.varTypes Try.prog) (ds ++ gs)).all (· ≤ reachBytes) = true := hsz0
  have hW' := hW
  obtain ⟨p, q, hA0, hV, rfl, hfz, hnd⟩ := hW
  have hA : DataW.TrodAll enc Try.prog W 0 (fun _ => true) true Try.f4.params.toList args.toList ds p := hA0
  rw [Try.params4] at hA hval hsz
  obtain ⟨v0, vs0, d0, ds0, p0, q0, hargs, rfl, rfl, h0, r0⟩ := trodAll_cons hA
  obtain ⟨v1, vs1, d1, ds1, p1, q1, rfl, rfl, rfl, h1, r1⟩ := trodAll_cons r0
  obtain ⟨v2, vs2, d2, ds2, p2, q2, rfl, rfl, rfl, h2, r2⟩ := trodAll_cons r1
  obtain ⟨rfl, rfl, rfl⟩ := trodAll_nil r2
  obtain rfl : args = #[v0, v1, v2] := by cases args; simp_all
  obtain ⟨rfl, rfl⟩ := trodVars_none hV
  obtain ⟨a0, rfl, rfl, rfl, w0⟩ := open_int Try.underlying3 (hval 0 3 v0 rfl rfl) h0
  obtain ⟨a1, rfl, rfl, rfl, w1⟩ := open_int Try.underlying3 (hval 1 3 v1 rfl rfl) h1
  obtain ⟨a2, rfl, rfl, rfl, w2⟩ := open_int Try.underlying31 (hval 2 31 v2 rfl rfl) h2
  clear hA0 hval0 hsz0
  refine (builderNone_walk W a0 w0 a1 w1 a2 w2).mono fun e W' ⟨he, bel⟩ => ?_
  subst he
  exact ⟨_, rfl, _, _, _, [], _, [], hW', trodAll_mk1 (shut_bool Try.underlying4 _), (trodAll_cons_mk (shut_int Try.underlying3 w0) (trodAll_cons_mk (shut_int Try.underlying3 w1) (trodAll_cons_mk (shut_int Try.underlying31 w2) trodAll_mk0))), rfl, bel.frame _, fun h => by cases h⟩

theorem builderNone_over : Rows.builderNoneRow.holds Try.pinned (OpenSpec.ofChange Rows.builderNoneSpec) :=
  OpenClaim.holds_of_wide 4 Try.f4 rfl rfl rfl rfl rfl rfl rfl ⟨rfl, rfl, rfl, rfl, rfl⟩ rfl rfl rfl rfl rfl (by kernel_rfl) Try.func4 (by kernel_rfl)
    (of_decide_eq_true (by kernel_rfl)) (by unfold Func.isWrapper; first | (rw [if_pos (by decide +kernel)]; kernel_rfl) | (rw [if_neg (by decide +kernel)]; exact ⟨rfl, rfl⟩))
    (fun os started H enc _ => builderNone_lifted os started H enc)

theorem builderNone_holds : Rows.BuilderNoneSaid := builderNone_over
#print axioms builderNone_holds
end Go.Proofs.Ytkeiamihgcbcbaa

