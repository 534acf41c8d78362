/- A number of some bytes is made of its bytes, the highest first: for every bytes and every size the law returns true, and both read as they did. No condition. -/
import Derived.Test.YthdgfhjehijmoaaCr
import Derived.Test.YthdgfhjehijmoaaOpen
namespace Go.Proofs.Ythdgfhjehijmoaa
open Go.ChangeShapes Go.WideShapes Go.ChangeAt Go.RowKit

set_option maxHeartbeats 1000000 in
theorem cursorNumbers_bad (w : World) (A : Option Addr) (c : Nat) (xs : List UInt8) (hl : xs.length ≤ c) (hc : c ≤ 140737488351232) (hb : Byt w w.heap.size A xs) (k : Int) (hk : ¬ sizeOk k ∨ (xs.length : Int) < k) :
    Calls Try.prog 6 #[.slice A xs.length c, .int .i64 k] w fun e w' => e = .returned (.bool true) ∧ Below w.heap.size w w' := by
  have Hb := Lib.hid hb
  have Hk := Lib.hid hk
  clear hb hk
  go_enter Try.func6, Try.ntmps6
  go_wp2_with fail
  refine (cr_new w A c xs 0 hl hc w.heap.size Hb.out (Nat.le_refl _) (by omega) (by omega)).mono ?_
  rintro e w1 ⟨rfl, h1, g1⟩
  have l1 := h1.lt
  have H1 := Lib.hid h1
  clear h1
  go_wp2_with fail
  refine (cr_new w1 A c xs 0 hl hc w.heap.size (Hb.out.grew g1 (fun _ h => by cases h)) (by omega) (by omega) (by omega)).mono ?_
  rintro e w2 ⟨rfl, h2, g2⟩
  have H2 := Lib.hid h2
  clear h2
  go_wp2_with fail
  refine (alive_any w2).mono ?_
  rintro e w3 ⟨rfl, g3⟩
  have H3 := Lib.hid ((H1.out.grew g2 (by simp) (fun _ h => by cases h)).grew g3 (by simp) (fun _ h => by cases h))
  have g := grew_trans (grew_trans g1 g2) g3
  have Hg := Lib.hid g
  clear g
  rcases Hk.out with hk | hk
  · have HK := Lib.hid hk
    clear hk
    go_wp2_with fail
    refine (number_arg w3 _ k HK.out).mono ?_
    rintro e w4 ⟨rfl, rfl⟩
    go_wp2_with fail
    refine (cr_at w3 _ _ _ _ H3.out).mono ?_
    rintro e w4 ⟨rfl, rfl⟩
    go_wp2_with fail
    go_ret
    exact ⟨rfl, grew_below Hg.out (Nat.le_refl _) (fun _ h => by cases h)⟩
  · by_cases hs : sizeOk k
    · have HS := Lib.hid hs
      clear hs
      go_wp2_with fail
      refine (cr_number_short w3 _ _ _ _ H3.out k HS.out hk).mono ?_
      rintro e w4 ⟨rfl, rfl⟩
      go_wp2_with fail
      refine (cr_at w3 _ _ _ _ H3.out).mono ?_
      rintro e w4 ⟨rfl, rfl⟩
      go_wp2_with fail
      go_ret
      exact ⟨rfl, grew_below Hg.out (Nat.le_refl _) (fun _ h => by cases h)⟩
    · have HS := Lib.hid hs
      clear hs
      go_wp2_with fail
      refine (number_arg w3 _ k HS.out).mono ?_
      rintro e w4 ⟨rfl, rfl⟩
      go_wp2_with fail
      refine (cr_at w3 _ _ _ _ H3.out).mono ?_
      rintro e w4 ⟨rfl, rfl⟩
      go_wp2_with fail
      go_ret
      exact ⟨rfl, grew_below Hg.out (Nat.le_refl _) (fun _ h => by cases h)⟩

theorem drop_head (xs : List UInt8) (j : Nat) (h : j < xs.length) : num ((xs.drop j).take 1) = (xs.getD j 0).toNat := by
  have e : (xs.drop j).take 1 = [xs.getD j 0] := by
    rw [List.drop_eq_getElem_cons h, List.take_succ_cons, List.take_zero]
    simp [List.getD, List.getElem?_eq_getElem h]
  rw [e]
  simp [num]

set_option maxHeartbeats 2000000 in
theorem cursorNumbers_good (w : World) (A : Option Addr) (c : Nat) (xs : List UInt8) (hl : xs.length ≤ c) (hc : c ≤ 140737488351232) (hb : Byt w w.heap.size A xs) (k : Nat) (hs : sizeOk k) (hk : k ≤ xs.length) :
    Calls Try.prog 6 #[.slice A xs.length c, .int .i64 k] w fun e w' => e = .returned (.bool true) ∧ Below w.heap.size w w' := by
  have hk8 : k ≤ 8 := by unfold sizeOk at hs; omega
  have Hb := Lib.hid hb
  have Hs := Lib.hid hs
  clear hb hs
  go_enter Try.func6, Try.ntmps6
  go_wp2_with fail
  refine (cr_new w A c xs 0 hl hc w.heap.size Hb.out (Nat.le_refl _) (by omega) (by omega)).mono ?_
  rintro e w1 ⟨rfl, h1, g1⟩
  have l1 := h1.lt
  have H1 := Lib.hid h1
  clear h1
  go_wp2_with fail
  refine (cr_new w1 A c xs 0 hl hc w.heap.size (Hb.out.grew g1 (fun _ h => by cases h)) (by omega) (by omega) (by omega)).mono ?_
  rintro e w2 ⟨rfl, h2, g2⟩
  have l2 := h2.lt
  have H2 := Lib.hid h2
  clear h2
  go_wp2_with fail
  refine (alive_any w2).mono ?_
  rintro e w3 ⟨rfl, g3⟩
  have H3 := Lib.hid ((H1.out.grew g2 (by simp) (fun _ h => by cases h)).grew g3 (by simp) (fun _ h => by cases h))
  have H4 := Lib.hid (H2.out.grew g3 (by simp) (fun _ h => by cases h))
  have g := grew_trans (grew_trans g1 g2) g3
  have Hg := Lib.hid g
  clear g
  generalize hp : w.heap.size = p at *
  generalize hq : w1.heap.size = q at *
  have Hp := Lib.hid hp
  clear hp hq
  go_wp2_with fail
  refine (cr_number w3 p _ _ _ H3.out k Hs.out hk).mono ?_
  rintro e w4 ⟨rfl, h5, g5, s5⟩
  have H5 := Lib.hid h5
  have H6 := Lib.hid (H4.out.grew g5 (by simp; omega) (fun _ h => by cases h; exact Nat.le_refl _))
  have hg4 := grew_own Hg.out g5 (by have := Hp.out; omega)
  have Hg4 := Lib.hid hg4
  clear h5 s5 hg4
  generalize hX : num (List.take k xs) = X at *
  have HX := Lib.hid hX
  clear hX
  have hgt : decide (xs.length < k) = false := by simp; omega
  go_wp2_with fail
  go_loopw [9, 46] (fun y i wr => ∃ j : Nat, j ≤ k ∧ i = .int .i64 j ∧ y = .int .u64 (num (xs.take j)) ∧ Hid (Cr wr q p (xs.drop j) j) ∧ Hid (Cr wr p p (xs.drop k) (0 + k)) ∧ Hid (Grew w wr none)) (fun _ i _ => k - (intOf i).toNat)
  case atStart => exact ⟨0, Nat.zero_le _, rfl, rfl, H6, H5, Hg4⟩
  case round =>
    obtain ⟨j, hj, rfl, rfl, R1, R2, R3⟩ := hrel
    by_cases hlt : j < k
    · have hd := drop_head xs j (by omega)
      have hb1 := num_bound xs j (by omega)
      have hb2 := byte_lt xs j
      have HS := Lib.hid (num_step xs j (by omega))
      have hc1 := cr_number wr q p _ _ R1.out 1 (by unfold sizeOk; omega) (by rw [List.length_drop]; omega)
      rw [hd, List.drop_drop] at hc1
      have HC := Lib.hid hc1
      clear hc1 hd
      generalize (xs.getD j 0).toNat = b at *
      go_wp2_with fail
      refine HC.out.mono ?_
      rintro e w5 ⟨rfl, h5, g6, s6⟩
      have h7 := R2.out.grew g6 (by simp; omega) (fun _ h => by cases h; omega)
      have h8 := grew_own R3.out g6 (by have := Hp.out; omega)
      have H7 := Lib.hid h7
      have H8 := Lib.hid h8
      have H9 := Lib.hid h5
      clear h5 h7 h8 s6
      have hle : ¬ ((255 : Int) < (b : Int)) := by omega
      go_wp2_with fail
      go_roundw
      case rel => exact ⟨j + 1, by omega, by go_num, by rw [HS.out]; go_num, H9, H7, H8⟩
      case measure => simp [intOf]; omega
    · obtain rfl : j = k := by omega
      rw [HX.out]
      go_wp2_with fail
      refine (cr_at wr p p _ _ R2.out).mono ?_
      rintro e w5 ⟨rfl, rfl⟩
      go_wp2_with fail
      refine (cr_at wr q p _ _ R1.out).mono ?_
      rintro e w5 ⟨rfl, rfl⟩
      go_wp2_with fail
      go_ret
      exact ⟨rfl, grew_below R3.out (Nat.le_refl _) (fun _ h => by cases h)⟩

theorem cursorNumbers_walk (w : World) (A : Option Addr) (c : Nat) (xs : List UInt8) (hl : xs.length ≤ c) (hc : c ≤ 140737488351232) (hb : Byt w w.heap.size A xs) (k : Int) (_ : (Lit.int .i64 k).wf = true) :
    Calls Try.prog 6 #[.slice A xs.length c, .int .i64 k] w fun e w' => e = .returned (.bool true) ∧ Below w.heap.size w w' := by
  by_cases hs : sizeOk k
  · obtain ⟨n, rfl⟩ := Int.eq_ofNat_of_zero_le (a := k) (by unfold sizeOk at hs; omega)
    by_cases hk : n ≤ xs.length
    · exact cursorNumbers_good w A c xs hl hc hb n hs hk
    · exact cursorNumbers_bad w A c xs hl hc hb n (.inr (by omega))
  · exact cursorNumbers_bad w A c xs hl hc hb k (.inl hs)

set_option maxRecDepth 100000 in
theorem cursorNumbers_lifted (os : Os) (started : os.Started) (H : Type) (enc : TypeId × Value → H) :
    ReturnsInHanded {} Try.checked os 6 .any (Rows.cursorNumbersSpec.pre6 enc Try.prog Try.f6 Rows.cursorNumbersRow.domain false) (Rows.cursorNumbersSpec.post enc Try.prog Try.f6 false true false false) := by
  refine returnsInHanded_of_change_sized (C := Try.checked) own started (by kernel_rfl) Try.func6
    (ChangeSpec.witness6 (enc := enc) (C := Try.checked) false ⟨#[], #[.slice none 0 0, .int .i64 0], []⟩ 8 (by kernel_rfl) (by kernel_rfl) (by kernel_rfl) (by kernel_rfl)) ?_
  intro W base args ds gs before hval0 hW hcnd hsz0 _
  have hval : ∀ (j : Nat) t v, Try.f6.params[j]? = some t → args[j]? = some v → Value.okWide Try.prog W .any base t v := hval0
  have hsz : (DataW.weightsEach Try.prog (Try.f6.params.toList ++ Rows.cursorNumbersSpec.plain.varTypes Try.prog) (ds ++ gs)).all (· ≤ reachBytes) = true := hsz0
  have hW' := hW
  obtain ⟨p, q, hA0, hV, rfl, hfz, hnd⟩ := hW
  have hA : DataW.TrodAll enc Try.prog W 0 (fun _ => true) true Try.f6.params.toList args.toList ds p := hA0
  rw [Try.params6] at hA hval hsz
  obtain ⟨v0, vs0, d0, ds0, p0, q0, hargs, rfl, rfl, h0, r0⟩ := trodAll_cons hA
  obtain ⟨v1, vs1, d1, ds1, p1, q1, rfl, rfl, rfl, h1, r1⟩ := trodAll_cons r0
  obtain ⟨rfl, rfl, rfl⟩ := trodAll_nil r1
  obtain rfl : args = #[v0, v1] := by cases args; simp_all
  obtain ⟨rfl, rfl⟩ := trodVars_none hV
  have k0 := h0
  have lt0 : ∀ x ∈ p0, x.block < W.heap.size := by obtain ⟨m, hm⟩ := k0; exact DataW.trod_lt m _ _ _ hm
  obtain ⟨A0, c0, x0, rfl, l0, m0, b0⟩ := arg_bytes (hval 0 22 v0 rfl rfl) h0 hsz (j := 0) rfl rfl
  obtain ⟨a1, rfl, rfl, rfl, w1⟩ := open_int Try.underlying3 (hval 1 3 v1 rfl rfl) h1
  clear hA0 hval0 hsz0
  refine (cursorNumbers_walk W A0 c0 x0 l0 m0 b0 a1 w1).mono fun e W' ⟨he, bel⟩ => ?_
  subst he
  exact ⟨_, rfl, _, _, _, [], _, [], hW', trodAll_mk1 (shut_bool Try.underlying4 _), (trodAll_cons_mk (Below.trod laidOut (by kernel_rfl) (of_decide_eq_true (by kernel_rfl)) k0 bel lt0) (trodAll_cons_mk (shut_int Try.underlying3 w1) trodAll_mk0)), rfl, bel.frame _, fun h => by cases h⟩

theorem cursorNumbers_over : Rows.cursorNumbersRow.holds Try.pinned (OpenSpec.ofChange Rows.cursorNumbersSpec) :=
  OpenClaim.holds_of_wide 6 Try.f6 rfl rfl rfl rfl rfl rfl rfl ⟨rfl, rfl, rfl, rfl, rfl⟩ rfl rfl rfl rfl rfl (by kernel_rfl) Try.func6 (by kernel_rfl)
    (of_decide_eq_true (by kernel_rfl)) (by unfold Func.isWrapper; first | (rw [if_pos (by decide +kernel)]; kernel_rfl) | (rw [if_neg (by decide +kernel)]; exact ⟨rfl, rfl⟩))
    (fun os started H enc _ => cursorNumbers_lifted os started H enc)

theorem cursorNumbers_holds : Rows.CursorNumbersSaid := cursorNumbers_over
#print axioms cursorNumbers_holds
end Go.Proofs.Ythdgfhjehijmoaa
