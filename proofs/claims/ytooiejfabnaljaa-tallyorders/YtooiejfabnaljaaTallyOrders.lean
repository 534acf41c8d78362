/- Numbers that fit together are counted, in whatever order, to the same sum: for every bytes and number the law returns true, and they read as they did. No condition. -/
import Derived.Test.YtooiejfabnaljaaTwo3
import Derived.Test.YtooiejfabnaljaaOpen
namespace Go.Proofs.Ytooiejfabnaljaa
open Go.ChangeShapes Go.WideShapes Go.ChangeAt Go.RowKit

/-- The bytes as numbers. -/
def nth (xs : List UInt8) (i : Nat) : Nat := (xs.getD i 0).toNat
theorem nth_lt (xs : List UInt8) (i : Nat) : nth xs i ≤ 255 := by have := (xs.getD i 0).toNat_lt; unfold nth; omega

set_option maxRecDepth 100000 in
set_option maxHeartbeats 4000000 in
theorem tallyOrders_walk (w : World) (A : Option Addr) (c : Nat) (xs : List UInt8) (hl : xs.length ≤ c) (_ : c ≤ 140737488351232) (hb : Byt w w.heap.size A xs) (a : Int) (_ : (Lit.int .i64 a).wf = true) :
    Calls Try.prog 4 #[.slice A xs.length c, .int .i64 a] w fun e w' => e = .returned (.bool true) ∧ Below w.heap.size w w' := by
  have HB := Lib.hid hb
  clear hb
  obtain ⟨L, hL, hLl⟩ : ∃ L : Nat, L = min xs.length 200 ∧ L ≤ xs.length := ⟨_, rfl, Nat.min_le_left _ _⟩
  have hif : (if (200 : Int) < (xs.length : Int) then (200 : Int) else (xs.length : Int)) = (L : Int) := by split <;> omega
  have hL2 : L ≤ 200 := by omega
  clear hL
  have hS : ∀ k, k ≤ L → sm (nth xs) k ≤ 51000 := fun k hk => by
    have := sm_le (nth xs) 255 (nth_lt xs) k
    have : 255 * k ≤ 255 * 200 := Nat.mul_le_mul_left _ (by omega)
    omega
  have HS := Lib.hid hS
  clear hS
  go_enter Try.func4, Try.ntmps4
  go_wp2_with fail
  clear hif
  go_loopw [5, 22] (fun s i wr => ∃ k : Nat, k ≤ L ∧ i = .int .i64 k ∧ s = .int .i64 (sm (nth xs) k) ∧ w = wr) (fun _ i _ => L - (intOf i).toNat)
  case atStart => exact ⟨0, Nat.zero_le _, rfl, rfl, rfl⟩
  case round =>
    obtain ⟨k, hk, rfl, rfl, rfl⟩ := hrel
    by_cases hlt : k < L
    · obtain ⟨b, o, rfl, _, hcell⟩ := HB.out (by omega)
      have hck := hcell k (by omega)
      have e1 : sm (nth xs) (k + 1) = sm (nth xs) k + (xs.getD k 0).toNat := rfl
      have h1 := HS.out k (by omega)
      have h2 := (xs.getD k 0).toNat_lt
      have E1 := Lib.hid e1
      clear hcell e1
      generalize sm (nth xs) k = s at *
      generalize (xs.getD k 0).toNat = x at *
      go_wp2_with fail
      go_roundw
      case rel => exact ⟨k + 1, by omega, by go_num, by rw [E1.out]; go_num, trivial⟩
      case measure => simp [intOf]; omega
    · obtain rfl : k = L := by omega
      have h1 := HS.out k (Nat.le_refl _)
      generalize hT : sm (nth xs) k = T at *
      have HT := Lib.hid hT
      clear hT
      go_wp2_with fail
      refine (tnew_ok w T (by omega) (by omega)).mono ?_
      rintro e w1 ⟨rfl, h1, g1⟩
      have H1 := Lib.hid h1
      clear h1
      go_wp2_with fail
      refine (tnew_ok w1 T (by omega) (by omega)).mono ?_
      rintro e w2 ⟨rfl, h2, g2⟩
      have H2 := Lib.hid h2
      clear h2
      go_wp2_with fail
      refine (alive3_any w2).mono ?_
      rintro e w3 ⟨rfl, g3⟩
      have HR := Lib.hid (show TwoRel w w3 w.heap.size w1.heap.size T 0 0 from ⟨(H1.out.grew g2 (by simp)).grew g3 (by simp), H2.out.grew g3 (by simp), by have := H1.out.lt; omega, Nat.le_refl _, g1.size, grew_trans (grew_trans g1 g2) g3⟩)
      clear H1 H2 g1 g2 g3
      generalize hp : w.heap.size = p at *
      have HP := Lib.hid hp
      clear hp
      generalize w1.heap.size = q at *
      obtain ⟨U, hU⟩ : ∃ U : Nat, IntKind.u64.wrap a = (U : Int) := ⟨(IntKind.u64.wrap a).toNat, (Int.toNat_of_nonneg (by simp [IntKind.wrap, IntKind.bits, IntKind.signed]; omega)).symm⟩
      go_wp2_with fail
      go_loopw [61] (fun i wr => ∃ j : Nat, j ≤ k ∧ i = .int .i64 j ∧ Hid (TwoRel w wr p q T (sm (nth xs) j) (sm (fun i => nth xs ((k - 1 - i + U % k) % k)) j))) (fun i _ => k - (intOf i).toNat)
      case atStart => exact ⟨0, Nat.zero_le _, rfl, HR⟩
      case round =>
        obtain ⟨j, hj, rfl, R⟩ := hrel
        by_cases hlt2 : j < k
        · obtain ⟨b, o, rfl, _, hcell⟩ := HB.out (by omega)
          have hck := R.out.2.2.2.2.2.cell (hcell j (by omega)) (by simp)
          have hc2 := fun i hi => R.out.2.2.2.2.2.cell (hcell i hi) (by simp)
          obtain ⟨t, ht⟩ : ∃ t, t = U % k := ⟨_, rfl⟩
          have htk : t < k := by rw [ht]; exact Nat.mod_lt _ (by omega)
          have hti : (U : Int) % (k : Int) = (t : Int) := by rw [ht]; rfl
          obtain ⟨m, hm⟩ : ∃ m, m = (k - 1 - j + t) % k := ⟨_, rfl⟩
          have hmk : m < k := by rw [hm]; exact Nat.mod_lt _ (by omega)
          have hmi : ((k : Int) - 1 - j + t) % (k : Int) = (m : Int) := by rw [hm, show ((k : Int) - 1 - j + t) = ((k - 1 - j + t : Nat) : Int) from by omega]; rfl
          have hck2 := hc2 m (by omega)
          have HTK := Lib.hid ht
          have HMK := Lib.hid hm
          have s1 : sm (nth xs) (j + 1) = sm (nth xs) j + (xs.getD j 0).toNat := rfl
          have s2 : sm (fun i => nth xs ((k - 1 - i + U % k) % k)) (j + 1) = sm (fun i => nth xs ((k - 1 - i + U % k) % k)) j + (xs.getD m 0).toNat := by rw [hm, ht]; rfl
          have st := sm_turn (nth xs) k t htk
          rw [ht] at st
          have st1 := st.2 (j + 1) (by omega)
          have st2 := sm_mono (nth xs) (show j + 1 ≤ k from by omega)
          rw [HT.out] at st1 st2
          have S1 := Lib.hid s1
          have S2 := Lib.hid s2
          rw [s2] at st1
          rw [s1] at st2
          have x1 := (xs.getD j 0).toNat_lt
          have x2 := (xs.getD m 0).toNat_lt
          clear hcell hc2 st s1 s2 ht hm
          generalize (xs.getD j 0).toNat = x at *
          generalize (xs.getD m 0).toNat = y at *
          generalize hX : sm (nth xs) j = X at *
          generalize hY : sm (fun i => nth xs ((k - 1 - i + U % k) % k)) j = Y at *
          have HX := Lib.hid hX
          have HY := Lib.hid hY
          clear hX hY
          go_wp2_with fail
          clear hmi hti
          refine (R.out.one x (by omega)).mono ?_
          rintro e w4 ⟨rfl, r4⟩
          rw [spC_ok (by omega) (by omega)] at r4
          rw [spE_ok (by omega) (by omega)]
          have R4 := Lib.hid r4
          clear r4
          go_wp2_with fail
          refine (R4.out.two y (by omega)).mono ?_
          rintro e w5 ⟨rfl, r5⟩
          rw [spC_ok (by omega) (by omega)] at r5
          rw [spE_ok (by omega) (by omega)]
          rw [show (X : Int) + x = ((X + x : Nat) : Int) from by omega, show (Y : Int) + y = ((Y + y : Nat) : Int) from by omega, ← S1.out, ← S2.out] at r5
          have R5 := Lib.hid r5
          clear r5
          go_wp2_with fail
          go_roundw
          case rel => exact ⟨j + 1, by omega, by go_num, R5⟩
          case measure => simp [intOf]; omega
        · obtain rfl : j = k := by omega
          have r0 := R.out
          have hturn : sm (fun i => nth xs ((j - 1 - i + U % j) % j)) j = T := by
            by_cases h0 : 0 < j
            · rw [(sm_turn (nth xs) j (U % j) (Nat.mod_lt _ h0)).1]
              exact HT.out
            · obtain rfl : j = 0 := by omega
              exact HT.out
          rw [hturn, HT.out] at r0
          have R0 := Lib.hid r0
          clear r0 R hturn
          go_wp2_with fail
          refine (tcount_any wr p T T R0.out.1).mono ?_
          rintro e w7 ⟨rfl, rfl⟩
          go_wp2_with fail
          refine (tcount_any wr q T T R0.out.2.1).mono ?_
          rintro e w7 ⟨rfl, rfl⟩
          go_wp2_with fail
          refine (tleft_any wr p T T R0.out.1).mono ?_
          rintro e w7 ⟨rfl, j7, rfl⟩
          rw [Int.sub_self]
          have R7 := Lib.hid (R0.out.drewN j7)
          clear R0
          generalize wr.drewN j7 = W7 at *
          go_wp2_with fail
          refine (R7.out.one 1 (by omega)).mono ?_
          rintro e w8 ⟨rfl, r8⟩
          rw [spC_cap (by omega) (by omega)] at r8
          rw [spE_cap (by omega) (by omega)]
          have R8 := Lib.hid r8
          clear r8
          go_wp2_with fail
          refine (R8.out.one 0 (by omega)).mono ?_
          rintro e w9 ⟨rfl, r9⟩
          rw [spE_ok (by omega) (by omega)]
          have R9 := Lib.hid r9
          clear r9
          go_wp2_with fail
          refine (R9.out.two (-1) (by omega)).mono ?_
          rintro e w10 ⟨rfl, r10⟩
          rw [spE_arg (by omega)]
          have R10 := Lib.hid r10
          clear r10
          go_wp2_with fail
          go_ret
          exact ⟨rfl, HP.out ▸ R10.out.below⟩

set_option maxRecDepth 100000 in
theorem tallyOrders_lifted (os : Os) (started : os.Started) (H : Type) (enc : TypeId × Value → H) :
    ReturnsInHanded {} Try.checked os 4 .any (Rows.tallyOrdersSpec.pre6 enc Try.prog Try.f4 Rows.tallyOrdersRow.domain false) (Rows.tallyOrdersSpec.post enc Try.prog Try.f4 false true false false) := by
  refine returnsInHanded_of_change_sized (C := Try.checked) own started (by kernel_rfl) Try.func4
    (ChangeSpec.witness6 (enc := enc) (C := Try.checked) false ⟨#[], #[.slice none 0 0, .int .i64 0], []⟩ 8 (by kernel_rfl) (by kernel_rfl) (by kernel_rfl) (by kernel_rfl)) ?_
  intro W base args ds gs before hval0 hW hcnd hsz0 _
  have hval : ∀ (j : Nat) t v, Try.f4.params[j]? = some t → args[j]? = some v → Value.okWide Try.prog W .any base t v := hval0
  have hsz : (DataW.weightsEach Try.prog (Try.f4.params.toList ++ Rows.tallyOrdersSpec.plain.varTypes Try.prog) (ds ++ gs)).all (· ≤ reachBytes) = true := hsz0
  have hW' := hW
  obtain ⟨p, q, hA0, hV, rfl, hfz, hnd⟩ := hW
  have hA : DataW.TrodAll enc Try.prog W 0 (fun _ => true) true Try.f4.params.toList args.toList ds p := hA0
  rw [Try.params4] at hA hval hsz
  obtain ⟨v0, vs0, d0, ds0, p0, q0, hargs, rfl, rfl, h0, r0⟩ := trodAll_cons hA
  obtain ⟨v1, vs1, d1, ds1, p1, q1, rfl, rfl, rfl, h1, r1⟩ := trodAll_cons r0
  obtain ⟨rfl, rfl, rfl⟩ := trodAll_nil r1
  obtain rfl : args = #[v0, v1] := by cases args; simp_all
  obtain ⟨rfl, rfl⟩ := trodVars_none hV
  have k0 := h0
  have lt0 : ∀ x ∈ p0, x.block < W.heap.size := by obtain ⟨m, hm⟩ := k0; exact DataW.trod_lt m _ _ _ hm
  obtain ⟨A0, c0, x0, rfl, l0, m0, b0⟩ := arg_bytes (hval 0 35 v0 rfl rfl) h0 hsz (j := 0) rfl rfl
  obtain ⟨a1, rfl, rfl, rfl, w1⟩ := open_int Try.underlying3 (hval 1 3 v1 rfl rfl) h1
  clear hA0 hval0 hsz0
  refine (tallyOrders_walk W A0 c0 x0 l0 m0 b0 a1 w1).mono fun e W' ⟨he, bel⟩ => ?_
  subst he
  exact ⟨_, rfl, _, _, _, [], _, [], hW', trodAll_mk1 (shut_bool Try.underlying4 _), (trodAll_cons_mk (Below.trod laidOut (by kernel_rfl) (of_decide_eq_true (by kernel_rfl)) k0 bel lt0) (trodAll_cons_mk (shut_int Try.underlying3 w1) trodAll_mk0)), rfl, bel.frame _, fun h => by cases h⟩

theorem tallyOrders_over : Rows.tallyOrdersRow.holds Try.pinned (OpenSpec.ofChange Rows.tallyOrdersSpec) :=
  OpenClaim.holds_of_wide 4 Try.f4 rfl rfl rfl rfl rfl rfl rfl ⟨rfl, rfl, rfl, rfl, rfl⟩ rfl rfl rfl rfl rfl (by kernel_rfl) Try.func4 (by kernel_rfl)
    (of_decide_eq_true (by kernel_rfl)) (by unfold Func.isWrapper; first | (rw [if_pos (by decide +kernel)]; kernel_rfl) | (rw [if_neg (by decide +kernel)]; exact ⟨rfl, rfl⟩))
    (fun os started H enc _ => tallyOrders_lifted os started H enc)

theorem tallyOrders_holds : Rows.TallyOrdersSaid := tallyOrders_over
#print axioms tallyOrders_holds
end Go.Proofs.Ytooiejfabnaljaa

