/- What is left can be counted, at once or one by one, and nothing more then: for every number and bytes the law returns true, and they read as they did. No condition. -/
import Derived.Test.YtooiejfabnaljaaTwo3
import Derived.Test.YtooiejfabnaljaaOpen
namespace Go.Proofs.Ytooiejfabnaljaa
open Go.ChangeShapes Go.WideShapes Go.ChangeAt Go.RowKit

set_option maxRecDepth 100000 in
set_option maxHeartbeats 4000000 in
theorem tallyFits_at (w : World) (a : Int) (A : Option Addr) (c : Nat) (xs : List UInt8) (hb : Byt w w.heap.size A xs)
    (M n : Nat) (hM : (if (0 : Int) < a then a else 0) = (M : Int)) (hn : (M : Int) % 3000 = (n : Int)) :
    Calls Try.prog 8 #[.int .i64 a, .slice A xs.length c] w fun e w' => e = .returned (.bool true) ∧ Below w.heap.size w w' := by
  have hn2 : n < 3000 := by omega
  have HB := Lib.hid hb
  clear hb
  go_enter Try.func8, Try.ntmps8
  go_wp2_with fail
  clear hM
  refine (tnew_ok w n (by omega) (by omega)).mono ?_
  rintro e w1 ⟨rfl, h1, g1⟩
  have H1 := Lib.hid h1
  clear h1
  go_wp2_with fail
  refine (tnew_ok w1 n (by omega) (by omega)).mono ?_
  rintro e w2 ⟨rfl, h2, g2⟩
  have H2 := Lib.hid h2
  clear h2
  go_wp2_with fail
  clear hn
  refine (alive3_any w2).mono ?_
  rintro e w3 ⟨rfl, g3⟩
  have HR := Lib.hid (show TwoRel w w3 w.heap.size w1.heap.size n 0 0 from ⟨(H1.out.grew g2 (by simp)).grew g3 (by simp), H2.out.grew g3 (by simp), by have := H1.out.lt; omega, Nat.le_refl _, g1.size, grew_trans (grew_trans g1 g2) g3⟩)
  clear H1 H2 g1 g2 g3
  generalize hp : w.heap.size = p at *
  have HP := Lib.hid hp
  clear hp
  generalize w1.heap.size = q at *
  by_cases hbig : 200 < xs.length
  · go_wp2_with fail
    go_ret
    exact ⟨rfl, HP.out ▸ HR.out.below⟩
  go_wp2_with fail
  go_loopw [65] (fun i wr => ∃ (k : Nat) (d : Int), k ≤ xs.length ∧ i = .int .i64 k ∧ Hid (TwoRel w wr p q n d d)) (fun i _ => xs.length - (intOf i).toNat)
  case atStart => exact ⟨0, 0, Nat.zero_le _, rfl, HR⟩
  case round =>
    obtain ⟨k, d, hk, rfl, R⟩ := hrel
    by_cases hlt : k < xs.length
    · obtain ⟨b, o, rfl, _, hcell⟩ := HB.out (by omega)
      have hck := R.out.2.2.2.2.2.cell (hcell k hlt) (by simp)
      have hx := (xs.getD k 0).toNat_lt
      clear hcell
      generalize (xs.getD k 0).toNat = x at *
      go_wp2_with fail
      refine (R.out.one x (by omega)).mono ?_
      rintro e w4 ⟨rfl, r4⟩
      have R4 := Lib.hid r4
      clear r4
      go_wp2_with fail
      refine (R4.out.two x (by omega)).mono ?_
      rintro e w5 ⟨rfl, r5⟩
      have R5 := Lib.hid r5
      clear r5
      generalize spE n d x = E at *
      generalize spC n d x = D at *
      go_wp2_with fail
      go_roundw
      case rel => exact ⟨k + 1, D, by omega, by go_num, R5⟩
      case measure => simp [intOf]; omega
    · have b1 := R.out.1.least
      have b2 := R.out.1.most
      obtain ⟨r, hr⟩ : ∃ r : Nat, (n : Int) - d = r := ⟨((n : Int) - d).toNat, by omega⟩
      have HRR := Lib.hid hr
      have hrn : r ≤ n := by omega
      have hdn : decide (n < r) = false := by simp; omega
      go_wp2_with fail
      refine (tleft_any wr p n d R.out.1).mono ?_
      rintro e w4 ⟨rfl, j4, rfl⟩
      rw [hr]
      clear hr
      go_wp2_with fail
      refine ((R.out.drewN j4).one r (by omega)).mono ?_
      rintro e w5 ⟨rfl, r5⟩
      rw [spC_ok (by omega) (by have := HRR.out; omega), show d + (r : Int) = n from by have := HRR.out; omega] at r5
      rw [spE_ok (by omega) (by have := HRR.out; omega)]
      have R5 := Lib.hid r5
      clear r5
      go_wp2_with fail
      refine (tleft_any w5 p n n R5.out.1).mono ?_
      rintro e w6 ⟨rfl, j6, rfl⟩
      rw [Int.sub_self]
      have R6 := Lib.hid (R5.out.drewN j6)
      clear R5
      go_wp2_with fail
      generalize w5.drewN j6 = W6 at *
      go_loopw [100] (fun i ws => ∃ k : Nat, k ≤ r ∧ i = .int .i64 k ∧ Hid (TwoRel w ws p q n n (d + k))) (fun i _ => r - (intOf i).toNat)
      case atStart => exact ⟨0, Nat.zero_le _, rfl, by simpa using R6⟩
      case round =>
        obtain ⟨j, hj, rfl, S⟩ := hrel
        by_cases hlt2 : j < r
        · go_wp2_with fail
          refine (S.out.two 1 (by omega)).mono ?_
          rintro e w7 ⟨rfl, s7⟩
          rw [spC_ok (by omega) (by have := HRR.out; omega), show d + (j : Int) + 1 = d + ((j + 1 : Nat) : Int) from by omega] at s7
          rw [spE_ok (by omega) (by have := HRR.out; omega)]
          have S7 := Lib.hid s7
          clear s7
          go_wp2_with fail
          go_roundw
          case rel => exact ⟨j + 1, by omega, by go_num, S7⟩
          case measure => simp [intOf]; omega
        · have s0 := S.out
          rw [show d + (j : Int) = n from by have := HRR.out; omega] at s0
          have S0 := Lib.hid s0
          clear s0 S
          go_wp2_with fail
          refine (tcount_any wr p n n S0.out.1).mono ?_
          rintro e w7 ⟨rfl, rfl⟩
          go_wp2_with fail
          refine (tcount_any wr q n n S0.out.2.1).mono ?_
          rintro e w7 ⟨rfl, rfl⟩
          go_wp2_with fail
          refine (S0.out.two 1 (by omega)).mono ?_
          rintro e w7 ⟨rfl, s7⟩
          rw [spC_cap (by omega) (by omega)] at s7
          rw [spE_cap (by omega) (by omega)]
          have S7 := Lib.hid s7
          clear s7
          go_wp2_with fail
          refine (S7.out.one 1 (by omega)).mono ?_
          rintro e w8 ⟨rfl, s8⟩
          rw [spE_cap (by omega) (by omega)]
          have S8 := Lib.hid s8
          clear s8
          go_wp2_with fail
          go_ret
          exact ⟨rfl, HP.out ▸ S8.out.below⟩

theorem tallyFits_walk (w : World) (a : Int) (_ : (Lit.int .i64 a).wf = true) (A : Option Addr) (c : Nat) (xs : List UInt8) (_ : xs.length ≤ c) (_ : c ≤ 140737488351232) (hb : Byt w w.heap.size A xs) :
    Calls Try.prog 8 #[.int .i64 a, .slice A xs.length c] w fun e w' => e = .returned (.bool true) ∧ Below w.heap.size w w' := by
  obtain ⟨M, hM⟩ := max_nat a
  exact tallyFits_at w a A c xs hb M (M % 3000) hM (by omega)

set_option maxRecDepth 100000 in
theorem tallyFits_lifted (os : Os) (started : os.Started) (H : Type) (enc : TypeId × Value → H) :
    ReturnsInHanded {} Try.checked os 8 .any (Rows.tallyFitsSpec.pre6 enc Try.prog Try.f8 Rows.tallyFitsRow.domain false) (Rows.tallyFitsSpec.post enc Try.prog Try.f8 false true false false) := by
  refine returnsInHanded_of_change_sized (C := Try.checked) own started (by kernel_rfl) Try.func8
    (ChangeSpec.witness6 (enc := enc) (C := Try.checked) false ⟨#[], #[.int .i64 0, .slice none 0 0], []⟩ 8 (by kernel_rfl) (by kernel_rfl) (by kernel_rfl) (by kernel_rfl)) ?_
  intro W base args ds gs before hval0 hW hcnd hsz0 _
  have hval : ∀ (j : Nat) t v, Try.f8.params[j]? = some t → args[j]? = some v → Value.okWide Try.prog W .any base t v := hval0
  have hsz : (DataW.weightsEach Try.prog (Try.f8.params.toList ++ Rows.tallyFitsSpec.plain.varTypes Try.prog) (ds ++ gs)).all (· ≤ reachBytes) = true := hsz0
  have hW' := hW
  obtain ⟨p, q, hA0, hV, rfl, hfz, hnd⟩ := hW
  have hA : DataW.TrodAll enc Try.prog W 0 (fun _ => true) true Try.f8.params.toList args.toList ds p := hA0
  rw [Try.params8] at hA hval hsz
  obtain ⟨v0, vs0, d0, ds0, p0, q0, hargs, rfl, rfl, h0, r0⟩ := trodAll_cons hA
  obtain ⟨v1, vs1, d1, ds1, p1, q1, rfl, rfl, rfl, h1, r1⟩ := trodAll_cons r0
  obtain ⟨rfl, rfl, rfl⟩ := trodAll_nil r1
  obtain rfl : args = #[v0, v1] := by cases args; simp_all
  obtain ⟨rfl, rfl⟩ := trodVars_none hV
  obtain ⟨a0, rfl, rfl, rfl, w0⟩ := open_int Try.underlying3 (hval 0 3 v0 rfl rfl) h0
  have k1 := h1
  have lt1 : ∀ x ∈ p1, x.block < W.heap.size := by obtain ⟨m, hm⟩ := k1; exact DataW.trod_lt m _ _ _ hm
  obtain ⟨A1, c1, x1, rfl, l1, m1, b1⟩ := arg_bytes (hval 1 35 v1 rfl rfl) h1 hsz (j := 1) rfl rfl
  clear hA0 hval0 hsz0
  refine (tallyFits_walk W a0 w0 A1 c1 x1 l1 m1 b1).mono fun e W' ⟨he, bel⟩ => ?_
  subst he
  exact ⟨_, rfl, _, _, _, [], _, [], hW', trodAll_mk1 (shut_bool Try.underlying4 _), (trodAll_cons_mk (shut_int Try.underlying3 w0) (trodAll_cons_mk (Below.trod laidOut (by kernel_rfl) (of_decide_eq_true (by kernel_rfl)) k1 bel lt1) trodAll_mk0)), rfl, bel.frame _, fun h => by cases h⟩

theorem tallyFits_over : Rows.tallyFitsRow.holds Try.pinned (OpenSpec.ofChange Rows.tallyFitsSpec) :=
  OpenClaim.holds_of_wide 8 Try.f8 rfl rfl rfl rfl rfl rfl rfl ⟨rfl, rfl, rfl, rfl, rfl⟩ rfl rfl rfl rfl rfl (by kernel_rfl) Try.func8 (by kernel_rfl)
    (of_decide_eq_true (by kernel_rfl)) (by unfold Func.isWrapper; first | (rw [if_pos (by decide +kernel)]; kernel_rfl) | (rw [if_neg (by decide +kernel)]; exact ⟨rfl, rfl⟩))
    (fun os started H enc _ => tallyFits_lifted os started H enc)

theorem tallyFits_holds : Rows.TallyFitsSaid := tallyFits_over
#print axioms tallyFits_holds
end Go.Proofs.Ytooiejfabnaljaa

