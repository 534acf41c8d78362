/- An opaque, a list of numbers, and a rest of any lengths are right just if these rise from 0, and a length can tell the greatest: for every four numbers the law returns true. No condition. -/
import Derived.Test.YtlehehibfpbhmaaFc
import Derived.Test.YtlehehibfpbhmaaOf
import Derived.Test.YtlehehibfpbhmaaFlx1
import Derived.Test.YtlehehibfpbhmaaFlx2
import Derived.Test.YtlehehibfpbhmaaFlx3
namespace Go.Proofs.Ytlehehibfpbhmaa
open Go.ChangeShapes Go.WideShapes Go.ChangeAt Go.RowKit Fo

theorem formLengths_walk (w : World) (size lo hi step : Int) (_ : (Lit.int .i64 size).wf = true) (_ : (Lit.int .i64 lo).wf = true) (_ : (Lit.int .i64 hi).wf = true) (_ : (Lit.int .i64 step).wf = true) :
    Calls Try.prog 7 #[.agg #[.int .i64 size, .int .i64 lo, .int .i64 hi, .int .i64 step]] w fun e w' => e = .returned (.bool true) ∧ Below w.heap.size w w' := by
  by_cases hsmall : size < 1
  · by_cases h0 : lo < 0
    · exact fl_small_n w size lo hi step hsmall h0
    · by_cases h1 : hi < lo
      · exact fl_small_f w size lo hi step hsmall (by omega) h1
      · by_cases h2 : 16777215 < hi
        · exact fl_small_g w size lo hi step hsmall (by omega) (by omega) h2
        · exact fl_small_r w size lo hi step hsmall (by omega) (by omega) (by omega)
  by_cases hwide : 3 < size
  · by_cases h0 : lo < 0
    · exact fl_wide_n w size lo hi step hwide h0
    · by_cases h1 : hi < lo
      · exact fl_wide_f w size lo hi step hwide (by omega) h1
      · by_cases h2 : 16777215 < hi
        · exact fl_wide_g w size lo hi step hwide (by omega) (by omega) h2
        · exact fl_wide_r w size lo hi step hwide (by omega) (by omega) (by omega)
  have key : size = 1 ∨ size = 2 ∨ size = 3 := by omega
  rcases key with rfl | rfl | rfl
  · by_cases h0 : lo < 0
    · exact fl1_neg w lo hi step h0
    · by_cases h1 : hi < lo
      · exact fl1_fall w lo hi step (by omega) h1
      · by_cases h2 : hi < 256
        · by_cases h3 : step < 1
          · exact fl1_low w lo hi step (by omega) (by omega) h2 h3
          · by_cases h4 : 65536 < step
            · exact fl1_high w lo hi step (by omega) (by omega) h2 h4
            · exact fl1_ok w lo hi step (by omega) (by omega) h2 (by omega) (by omega)
        · by_cases h3 : 16777215 < hi
          · exact fl1_huge w lo hi step (by omega) (by omega) (by omega) h3
          · exact fl1_big w lo hi step (by omega) (by omega) (by omega) (by omega)
  · by_cases h0 : lo < 0
    · exact fl2_neg w lo hi step h0
    · by_cases h1 : hi < lo
      · exact fl2_fall w lo hi step (by omega) h1
      · by_cases h2 : hi < 65536
        · by_cases h3 : step < 1
          · exact fl2_low w lo hi step (by omega) (by omega) h2 h3
          · by_cases h4 : 65536 < step
            · exact fl2_high w lo hi step (by omega) (by omega) h2 h4
            · exact fl2_ok w lo hi step (by omega) (by omega) h2 (by omega) (by omega)
        · by_cases h3 : 16777215 < hi
          · exact fl2_huge w lo hi step (by omega) (by omega) (by omega) h3
          · exact fl2_big w lo hi step (by omega) (by omega) (by omega) (by omega)
  · by_cases h0 : lo < 0
    · exact fl3_neg w lo hi step h0
    · by_cases h1 : hi < lo
      · exact fl3_fall w lo hi step (by omega) h1
      · by_cases h2 : hi < 16777216
        · by_cases h3 : step < 1
          · exact fl3_low w lo hi step (by omega) (by omega) h2 h3
          · by_cases h4 : 65536 < step
            · exact fl3_high w lo hi step (by omega) (by omega) h2 h4
            · exact fl3_ok w lo hi step (by omega) (by omega) h2 (by omega) (by omega)
        · exact fl3_huge w lo hi step (by omega) (by omega) (by omega) (by omega)

set_option maxRecDepth 100000 in
theorem formLengths_lifted (os : Os) (started : os.Started) (H : Type) (enc : TypeId × Value → H) :
    ReturnsInHanded {} Try.checked os 7 .any (Rows.formLengthsSpec.pre6 enc Try.prog Try.f7 Rows.formLengthsRow.domain false) (Rows.formLengthsSpec.post enc Try.prog Try.f7 false true false false) := by
  refine returnsInHanded_of_change_sized (C := Try.checked) own started (by kernel_rfl) Try.func7
    (ChangeSpec.witness6 (enc := enc) (C := Try.checked) false ⟨#[], #[.agg #[.int .i64 0, .int .i64 0, .int .i64 0, .int .i64 0]], []⟩ 8 (by kernel_rfl) (by kernel_rfl) (by kernel_rfl) (by kernel_rfl)) ?_
  intro W base args ds gs before hval0 hW hcnd hsz0 _
  have hval : ∀ (j : Nat) t v, Try.f7.params[j]? = some t → args[j]? = some v → Value.okWide Try.prog W .any base t v := hval0
  have hsz : (DataW.weightsEach Try.prog (Try.f7.params.toList ++ Rows.formLengthsSpec.plain.varTypes Try.prog) (ds ++ gs)).all (· ≤ reachBytes) = true := hsz0
  have hW' := hW
  obtain ⟨p, q, hA0, hV, rfl, hfz, hnd⟩ := hW
  have hA : DataW.TrodAll enc Try.prog W 0 (fun _ => true) true Try.f7.params.toList args.toList ds p := hA0
  rw [Try.params7] at hA hval hsz
  obtain ⟨v0, vs0, d0, ds0, p0, q0, hargs, rfl, rfl, h0, r0⟩ := trodAll_cons hA
  obtain ⟨rfl, rfl, rfl⟩ := trodAll_nil r0
  obtain rfl : args = #[v0] := by cases args; simp_all
  obtain ⟨rfl, rfl⟩ := trodVars_none hV
  have k0 := h0
  have lt0 : ∀ x ∈ p0, x.block < W.heap.size := by obtain ⟨m, hm⟩ := k0; exact DataW.trod_lt m _ _ _ hm
  obtain ⟨a00, a01, a02, a03, rfl, w00, w01, w02, w03⟩ := arg_int4 (hval 0 28 v0 rfl rfl) h0
  clear hA0 hval0 hsz0
  refine (formLengths_walk W a00 a01 a02 a03 w00 w01 w02 w03).mono fun e W' ⟨he, bel⟩ => ?_
  subst he
  exact ⟨_, rfl, _, _, _, [], _, [], hW', trodAll_mk1 (shut_bool Try.underlying4 _), (trodAll_cons_mk (Below.trod laidOut (by kernel_rfl) (of_decide_eq_true (by kernel_rfl)) k0 bel lt0) trodAll_mk0), rfl, bel.frame _, fun h => by cases h⟩

theorem formLengths_over : Rows.formLengthsRow.holds Try.pinned (OpenSpec.ofChange Rows.formLengthsSpec) :=
  OpenClaim.holds_of_wide 7 Try.f7 rfl rfl rfl rfl rfl rfl rfl ⟨rfl, rfl, rfl, rfl, rfl⟩ rfl rfl rfl rfl rfl (by kernel_rfl) Try.func7 (by kernel_rfl)
    (of_decide_eq_true (by kernel_rfl)) (by unfold Func.isWrapper; first | (rw [if_pos (by decide +kernel)]; kernel_rfl) | (rw [if_neg (by decide +kernel)]; exact ⟨rfl, rfl⟩))
    (fun os started H enc _ => formLengths_lifted os started H enc)

theorem formLengths_holds : Rows.FormLengthsSaid := formLengths_over
#print axioms formLengths_holds
end Go.Proofs.Ytlehehibfpbhmaa

