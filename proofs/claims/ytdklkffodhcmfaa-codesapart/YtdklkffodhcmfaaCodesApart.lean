/- Two codes of a kind have two names; a name with a byte more, or less, is none of that code: for every kind and two codes the law returns true, and they read as they did. No condition. -/
import Derived.Test.YtdklkffodhcmfaaCb
import Derived.Test.YtdklkffodhcmfaaOpen
namespace Go.Proofs.Ytdklkffodhcmfaa
open Go.ChangeShapes Go.WideShapes Go.ChangeAt Go.RowKit

set_option maxRecDepth 100000 in
set_option maxHeartbeats 2000000 in
theorem codesApart_walk (w : World) (k : Int) (_ : (Lit.int .i64 k).wf = true) (a : Int) (_ : (Lit.int .i64 a).wf = true) (b : Int) (_ : (Lit.int .i64 b).wf = true) :
    Calls Try.prog 5 #[.int .i64 k, .int .i64 a, .int .i64 b] w fun e w' => e = .returned (.bool true) ∧ Below w.heap.size w w' := by
  have hnot : ∀ (x : Bool) (w : World), (Op.unary .not (.bool x)).run Try.prog w = .ok (.bool (!x)) w := fun _ _ => rfl
  have n1 := name_any w k a
  cases ha : cdOf k a with
  | none =>
    rw [ha] at n1
    obtain ⟨T, hT⟩ : ∃ T, nmS (cdOf k b) = T := ⟨_, rfl⟩
    obtain ⟨d, hd⟩ : ∃ d, (cdOf k b).isSome = d := ⟨_, rfl⟩
    have n1' : Calls Try.prog 6 #[.int .i64 k, .int .i64 a] w fun e w' => e = .returned (.tuple #[.string ⟨#[]⟩, .bool false]) ∧ Below w.heap.size w w' := n1
    clear n1
    go_enter Try.func5, Try.ntmps5
    go_wp2_with fail
    refine n1'.mono ?_
    rintro e w1 ⟨rfl, b1⟩
    have B1 := Lib.hid b1
    clear b1 n1' ha
    have n2 := name_any w1 k b
    rw [hT, hd] at n2
    clear hT hd
    go_wp2_with fail
    refine n2.mono ?_
    rintro e w2 ⟨rfl, b2⟩
    have B2 := Lib.hid (B1.out.trans (b2.mono B1.out.size))
    clear b2 n2 B1
    go_wp2_with fail
    refine (alive8_any w2).mono ?_
    rintro e w3 ⟨rfl, b3⟩
    have B3 := Lib.hid (B2.out.trans (b3.mono B2.out.size))
    clear b3 B2
    go_wp2_with fail
    go_ret
    exact ⟨rfl, B3.out⟩
  | some x =>
    obtain ⟨hx, hxa⟩ := cdOf_some ha
    obtain ⟨huni, hs1, hs2⟩ := cds_one k x hx
    rw [ha] at n1
    obtain ⟨S, hS⟩ : ∃ S, x.2 = S := ⟨_, rfl⟩
    have n1' : Calls Try.prog 6 #[.int .i64 k, .int .i64 a] w fun e w' => e = .returned (.tuple #[.string S, .bool true]) ∧ Below w.heap.size w w' := by rw [← hS]; exact n1
    clear n1
    -- the second name
    obtain ⟨T, hT⟩ : ∃ T, nmS (cdOf k b) = T := ⟨_, rfl⟩
    obtain ⟨d, hd⟩ : ∃ d, (cdOf k b).isSome = d := ⟨_, rfl⟩
    have hST : d = true → (a == b) = (S.toList == T.toList) := by
      intro hd1
      cases hb : cdOf k b with
      | none => rw [hb] at hd; rw [hd1] at hd; cases hd
      | some y =>
        obtain ⟨hy, hyb⟩ := cdOf_some hb
        have := huni y hy
        rw [hb] at hT
        have hyT : y.2 = T := hT
        rw [hxa, hyb, hS, hyT] at this
        rw [Bool.eq_iff_iff] at this ⊢
        simp only [decide_eq_true_eq, beq_iff_eq] at this ⊢
        rw [this]
        constructor
        · rintro rfl; rfl
        · intro e
          rw [ByteArray.toList_eq, ByteArray.toList_eq] at e
          exact ByteArray.ext (Array.toList_inj.1 e)
    rw [hS] at hs1 hs2
    go_enter Try.func5, Try.ntmps5
    go_wp2_with fail
    refine n1'.mono ?_
    rintro e w1 ⟨rfl, b1⟩
    have B1 := Lib.hid b1
    have HU := Lib.hid huni
    have HST := Lib.hid hST
    have HXA := Lib.hid hxa
    have HS := Lib.hid hS
    have HX := Lib.hid hx
    clear b1 n1' huni ha hST hxa hS hx
    have n2 := name_any w1 k b
    rw [hT, hd] at n2
    clear hT hd
    go_wp2_with fail
    refine n2.mono ?_
    rintro e w2 ⟨rfl, b2⟩
    have B2 := Lib.hid (B1.out.trans (b2.mono B1.out.size))
    clear b2 n2 B1
    have hne : S.toList.isEmpty = false := by
      rw [ByteArray.toList_eq]
      cases hc : S.data.toList with
      | nil =>
        have : S.data.toList.length = 0 := by rw [hc]; rfl
        have : S.size = 0 := this
        omega
      | cons _ _ => rfl
    have near : ∀ s' : ByteArray, s'.size ≠ S.size → ∃ N M, nmC (cdBy k s') = N ∧ (cdBy k s').isSome = M ∧ (M = true → (N == a) = false) := by
      intro s' hs'
      refine ⟨_, _, rfl, rfl, ?_⟩
      cases hb : cdBy k s' with
      | none => intro h; cases h
      | some y =>
        intro _
        obtain ⟨hy, hys⟩ := cdBy_some hb
        have h1 := HU.out y hy
        rw [HXA.out, HS.out, hys, decide_eq_false (p := S = s') (fun e => hs' (by rw [e]))] at h1
        have h2 : ¬ a = y.1 := by simpa using h1
        exact beq_eq_false_iff_ne.2 (fun e => h2 (by rw [← e]; rfl))
    cases d with
    | false =>
      go_wp2_with fail
      obtain ⟨N, M, hN, hM, hNM⟩ := near (S ++ ⟨#[95]⟩) (by rw [ByteArray.size_append]; show S.size + 1 ≠ S.size; omega)
      have n3 := code_any w2 k (S ++ ⟨#[95]⟩)
      rw [hN, hM] at n3
      refine n3.mono ?_
      rintro e w3 ⟨rfl, b3⟩
      have B3 := Lib.hid (B2.out.trans (b3.mono B2.out.size))
      have NEAR := Lib.hid near
      have HNM := Lib.hid hNM
      clear b3 n3 B2 hN hM near hNM
      go_wp2_with fail
      obtain ⟨N2, M2, hN2, hM2, hNM2⟩ := NEAR.out (S.extract 0 (S.size - 1)) (by rw [ByteArray.size_extract]; omega)
      have n4 := code_any w3 k (S.extract 0 (S.size - 1))
      rw [hN2, hM2] at n4
      refine n4.mono ?_
      rintro e w4 ⟨rfl, b4⟩
      have B4 := Lib.hid (B3.out.trans (b4.mono B3.out.size))
      have HNM2 := Lib.hid hNM2
      clear b4 n4 B3 hN2 hM2 hNM2 NEAR HU HST
      go_wp2_with fail
      refine (alive8_any w4).mono ?_
      rintro e w5 ⟨rfl, b5⟩
      have B5 := Lib.hid (B4.out.trans (b5.mono B4.out.size))
      clear b5 B4
      cases M with
      | false =>
        cases M2 with
        | false =>
          go_wp2_with fail
          go_ret
          exact ⟨rfl, B5.out⟩
        | true =>
          have e2 := HNM2.out rfl
          go_wp2_with fail
          go_ret
          exact ⟨rfl, B5.out⟩
      | true =>
        have e1 := HNM.out rfl
        cases M2 with
        | false =>
          go_wp2_with fail
          go_ret
          exact ⟨rfl, B5.out⟩
        | true =>
          have e2 := HNM2.out rfl
          go_wp2_with fail
          go_ret
          exact ⟨rfl, B5.out⟩
    | true =>
      have hq := HST.out rfl
      go_wp2_with fail
      obtain ⟨N, M, hN, hM, hNM⟩ := near (S ++ ⟨#[95]⟩) (by rw [ByteArray.size_append]; show S.size + 1 ≠ S.size; omega)
      have n3 := code_any w2 k (S ++ ⟨#[95]⟩)
      rw [hN, hM] at n3
      refine n3.mono ?_
      rintro e w3 ⟨rfl, b3⟩
      have B3 := Lib.hid (B2.out.trans (b3.mono B2.out.size))
      have NEAR := Lib.hid near
      have HNM := Lib.hid hNM
      clear b3 n3 B2 hN hM near hNM
      go_wp2_with fail
      obtain ⟨N2, M2, hN2, hM2, hNM2⟩ := NEAR.out (S.extract 0 (S.size - 1)) (by rw [ByteArray.size_extract]; omega)
      have n4 := code_any w3 k (S.extract 0 (S.size - 1))
      rw [hN2, hM2] at n4
      refine n4.mono ?_
      rintro e w4 ⟨rfl, b4⟩
      have B4 := Lib.hid (B3.out.trans (b4.mono B3.out.size))
      have HNM2 := Lib.hid hNM2
      clear b4 n4 B3 hN2 hM2 hNM2 NEAR HU HST
      go_wp2_with fail
      refine (alive8_any w4).mono ?_
      rintro e w5 ⟨rfl, b5⟩
      have B5 := Lib.hid (B4.out.trans (b5.mono B4.out.size))
      clear b5 B4
      cases M with
      | false =>
        cases M2 with
        | false =>
          go_wp2_with fail
          go_ret
          exact ⟨rfl, B5.out⟩
        | true =>
          have e2 := HNM2.out rfl
          go_wp2_with fail
          go_ret
          exact ⟨rfl, B5.out⟩
      | true =>
        have e1 := HNM.out rfl
        cases M2 with
        | false =>
          go_wp2_with fail
          go_ret
          exact ⟨rfl, B5.out⟩
        | true =>
          have e2 := HNM2.out rfl
          go_wp2_with fail
          go_ret
          exact ⟨rfl, B5.out⟩

set_option maxRecDepth 100000 in
theorem codesApart_lifted (os : Os) (started : os.Started) (H : Type) (enc : TypeId × Value → H) :
    ReturnsInHanded {} Try.checked os 5 .any (Rows.codesApartSpec.pre6 enc Try.prog Try.f5 Rows.codesApartRow.domain false) (Rows.codesApartSpec.post enc Try.prog Try.f5 false true false false) := by
  refine returnsInHanded_of_change_sized (C := Try.checked) own started (by kernel_rfl) Try.func5
    (ChangeSpec.witness6 (enc := enc) (C := Try.checked) false ⟨#[], #[.int .i64 0, .int .i64 0, .int .i64 0], []⟩ 8 (by kernel_rfl) (by kernel_rfl) (by kernel_rfl) (by kernel_rfl)) ?_
  intro W base args ds gs before hval0 hW hcnd hsz0 _
  have hval : ∀ (j : Nat) t v, Try.f5.params[j]? = some t → args[j]? = some v → Value.okWide Try.prog W .any base t v := hval0
  have hsz : (DataW.weightsEach Try.prog (Try.f5.params.toList ++ Rows.codesApartSpec.plain.varTypes Try.prog) (ds ++ gs)).all (· ≤ reachBytes) = true := hsz0
  have hW' := hW
  obtain ⟨p, q, hA0, hV, rfl, hfz, hnd⟩ := hW
  have hA : DataW.TrodAll enc Try.prog W 0 (fun _ => true) true Try.f5.params.toList args.toList ds p := hA0
  rw [Try.params5] at hA hval hsz
  obtain ⟨v0, vs0, d0, ds0, p0, q0, hargs, rfl, rfl, h0, r0⟩ := trodAll_cons hA
  obtain ⟨v1, vs1, d1, ds1, p1, q1, rfl, rfl, rfl, h1, r1⟩ := trodAll_cons r0
  obtain ⟨v2, vs2, d2, ds2, p2, q2, rfl, rfl, rfl, h2, r2⟩ := trodAll_cons r1
  obtain ⟨rfl, rfl, rfl⟩ := trodAll_nil r2
  obtain rfl : args = #[v0, v1, v2] := by cases args; simp_all
  obtain ⟨rfl, rfl⟩ := trodVars_none hV
  obtain ⟨a0, rfl, rfl, rfl, w0⟩ := open_int Try.underlying3 (hval 0 3 v0 rfl rfl) h0
  obtain ⟨a1, rfl, rfl, rfl, w1⟩ := open_int Try.underlying3 (hval 1 3 v1 rfl rfl) h1
  obtain ⟨a2, rfl, rfl, rfl, w2⟩ := open_int Try.underlying3 (hval 2 3 v2 rfl rfl) h2
  clear hA0 hval0 hsz0
  refine (codesApart_walk W a0 w0 a1 w1 a2 w2).mono fun e W' ⟨he, bel⟩ => ?_
  subst he
  exact ⟨_, rfl, _, _, _, [], _, [], hW', trodAll_mk1 (shut_bool Try.underlying4 _), (trodAll_cons_mk (shut_int Try.underlying3 w0) (trodAll_cons_mk (shut_int Try.underlying3 w1) (trodAll_cons_mk (shut_int Try.underlying3 w2) trodAll_mk0))), rfl, bel.frame _, fun h => by cases h⟩

theorem codesApart_over : Rows.codesApartRow.holds Try.pinned (OpenSpec.ofChange Rows.codesApartSpec) :=
  OpenClaim.holds_of_wide 5 Try.f5 rfl rfl rfl rfl rfl rfl rfl ⟨rfl, rfl, rfl, rfl, rfl⟩ rfl rfl rfl rfl rfl (by kernel_rfl) Try.func5 (by kernel_rfl)
    (of_decide_eq_true (by kernel_rfl)) (by unfold Func.isWrapper; first | (rw [if_pos (by decide +kernel)]; kernel_rfl) | (rw [if_neg (by decide +kernel)]; exact ⟨rfl, rfl⟩))
    (fun os started H enc _ => codesApart_lifted os started H enc)

theorem codesApart_holds : Rows.CodesApartSaid := codesApart_over
#print axioms codesApart_holds
end Go.Proofs.Ytdklkffodhcmfaa

