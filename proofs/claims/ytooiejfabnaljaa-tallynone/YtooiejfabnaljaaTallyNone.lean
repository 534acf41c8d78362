/- Of none nothing is told; of no way to make it the zero value is: for every number the law returns true, and it reads as it did. No condition. -/
import Derived.Test.YtooiejfabnaljaaAlive3
import Derived.Test.YtooiejfabnaljaaLazI
import Derived.Test.YtooiejfabnaljaaLazS
import Derived.Test.YtooiejfabnaljaaOpen
namespace Go.Proofs.Ytooiejfabnaljaa
open Go.ChangeShapes Go.WideShapes Go.ChangeAt Go.RowKit

set_option maxRecDepth 100000 in
set_option maxHeartbeats 2000000 in
theorem tallyNone_walk (w : World) (a : Int) (_ : (Lit.int .i64 a).wf = true) :
    Calls Try.prog 6 #[.int .i64 a] w fun e w' => e = .returned (.bool true) ∧ Below w.heap.size w w' := by
  have hnot : ∀ (x : Bool) (w : World), (Op.unary .not (.bool x)).run Try.prog w = .ok (.bool (!x)) w := fun _ _ => rfl
  go_enter Try.func6, Try.ntmps6
  go_wp2_with fail
  refine (tspend_nil w a).mono ?_
  rintro e w1 ⟨rfl, rfl⟩
  go_wp2_with fail
  refine (tcount_nil w).mono ?_
  rintro e w1 ⟨rfl, rfl⟩
  go_wp2_with fail
  refine (tleft_nil w).mono ?_
  rintro e w1 ⟨rfl, rfl⟩
  go_wp2_with fail
  refine (getS_nil w).mono ?_
  rintro e w1 ⟨rfl, rfl⟩
  go_wp2_with fail
  refine (madeS_nil w).mono ?_
  rintro e w1 ⟨rfl, rfl⟩
  go_wp2_with fail
  refine (laterI_nil w).mono ?_
  rintro e w1 ⟨rfl, h1, g1⟩
  have H1 := Lib.hid h1
  have G1 := Lib.hid g1
  clear h1 g1
  generalize hp : w.heap.size = p at *
  have HP := Lib.hid hp
  clear hp
  go_wp2_with fail
  refine (alive3_any w1).mono ?_
  rintro e w2 ⟨rfl, g2⟩
  have H2 := Lib.hid (H1.out.grew g2 (by simp))
  have G2 := Lib.hid (grew_trans G1.out g2)
  clear g2 H1 G1
  go_wp2_with fail
  refine (madeI_no w2 p _ H2.out).mono ?_
  rintro e w3 ⟨rfl, rfl⟩
  have hget := getI_first w2 p .nilFunc H2.out (fun _ => False) (fun h => h) (fun x _ => x = 0) (fun w1 _ => (answerI_nil w1).mono fun e w' ⟨he, hw⟩ => ⟨0, he, hw ▸ Fr.refl _ _, rfl⟩)
  have HG := Lib.hid hget
  clear hget
  go_wp2_with fail
  refine HG.out.mono ?_
  rintro e w4 ⟨x, w5, rfl, rfl, f5, f4, hw4⟩
  have HW4 := Lib.hid hw4
  have G4 := Lib.hid (grew_fr (grew_fr G2.out f5 (fun i hi => by rcases hi with h | h; (have := HP.out; omega); exact h.elim)) f4 (fun i hi => by have := HP.out; omega))
  clear hw4 f5 f4
  go_wp2_with fail
  refine (madeI_yes w4 p _ HW4.out).mono ?_
  rintro e w6 ⟨rfl, rfl⟩
  go_wp2_with fail
  go_ret
  exact ⟨rfl, grew_below G4.out (Nat.le_refl _) (fun _ h => by cases h)⟩

set_option maxRecDepth 100000 in
theorem tallyNone_lifted (os : Os) (started : os.Started) (H : Type) (enc : TypeId × Value → H) :
    ReturnsInHanded {} Try.checked os 6 .any (Rows.tallyNoneSpec.pre6 enc Try.prog Try.f6 Rows.tallyNoneRow.domain false) (Rows.tallyNoneSpec.post enc Try.prog Try.f6 false true false false) := by
  refine returnsInHanded_of_change_sized (C := Try.checked) own started (by kernel_rfl) Try.func6
    (ChangeSpec.witness6 (enc := enc) (C := Try.checked) false ⟨#[], #[.int .i64 0], []⟩ 8 (by kernel_rfl) (by kernel_rfl) (by kernel_rfl) (by kernel_rfl)) ?_
  intro W base args ds gs before hval0 hW hcnd hsz0 _
  have hval : ∀ (j : Nat) t v, Try.f6.params[j]? = some t → args[j]? = some v → Value.okWide Try.prog W .any base t v := hval0
  have hsz : (DataW.weightsEach Try.prog (Try.f6.params.toList ++ Rows.tallyNoneSpec.plain.varTypes Try.prog) (ds ++ gs)).all (· ≤ reachBytes) = true := hsz0
  have hW' := hW
  obtain ⟨p, q, hA0, hV, rfl, hfz, hnd⟩ := hW
  have hA : DataW.TrodAll enc Try.prog W 0 (fun _ => true) true Try.f6.params.toList args.toList ds p := hA0
  rw [Try.params6] at hA hval hsz
  obtain ⟨v0, vs0, d0, ds0, p0, q0, hargs, rfl, rfl, h0, r0⟩ := trodAll_cons hA
  obtain ⟨rfl, rfl, rfl⟩ := trodAll_nil r0
  obtain rfl : args = #[v0] := by cases args; simp_all
  obtain ⟨rfl, rfl⟩ := trodVars_none hV
  obtain ⟨a0, rfl, rfl, rfl, w0⟩ := open_int Try.underlying3 (hval 0 3 v0 rfl rfl) h0
  clear hA0 hval0 hsz0
  refine (tallyNone_walk W a0 w0).mono fun e W' ⟨he, bel⟩ => ?_
  subst he
  exact ⟨_, rfl, _, _, _, [], _, [], hW', trodAll_mk1 (shut_bool Try.underlying4 _), (trodAll_cons_mk (shut_int Try.underlying3 w0) trodAll_mk0), rfl, bel.frame _, fun h => by cases h⟩

theorem tallyNone_over : Rows.tallyNoneRow.holds Try.pinned (OpenSpec.ofChange Rows.tallyNoneSpec) :=
  OpenClaim.holds_of_wide 6 Try.f6 rfl rfl rfl rfl rfl rfl rfl ⟨rfl, rfl, rfl, rfl, rfl⟩ rfl rfl rfl rfl rfl (by kernel_rfl) Try.func6 (by kernel_rfl)
    (of_decide_eq_true (by kernel_rfl)) (by unfold Func.isWrapper; first | (rw [if_pos (by decide +kernel)]; kernel_rfl) | (rw [if_neg (by decide +kernel)]; exact ⟨rfl, rfl⟩))
    (fun os started H enc _ => tallyNone_lifted os started H enc)

theorem tallyNone_holds : Rows.TallyNoneSaid := tallyNone_over
#print axioms tallyNone_holds
end Go.Proofs.Ytooiejfabnaljaa

