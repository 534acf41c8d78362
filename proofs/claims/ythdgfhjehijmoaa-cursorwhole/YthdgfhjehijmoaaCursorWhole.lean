/- What is taken in any pieces, and what is left, is what there was: for every bytes and every numbers the law returns true, and both read as they did. No condition. -/
import Derived.Test.YthdgfhjehijmoaaCr
import Derived.Test.YthdgfhjehijmoaaOpen
import Derived.Handy
namespace Go.Proofs.Ythdgfhjehijmoaa
open Go.ChangeShapes Go.WideShapes Go.ChangeAt Go.RowKit

set_option maxRecDepth 100000 in
set_option maxHeartbeats 2000000 in
theorem cursorWhole_walk (w : World) (A : Option Addr) (c : Nat) (xs : List UInt8) (hl : xs.length ≤ c) (hc : c ≤ 140737488351232) (hb : Byt w w.heap.size A xs)
    (A1 : Option Addr) (c1 : Nat) (zs : List Int) (hl1 : zs.length ≤ c1) (hc1 : c1 ≤ 140737488351232) (hz : Nums w A1 zs) (hw : ∀ z ∈ zs, (Lit.int .i64 z).wf = true) :
    Calls Try.prog 5 #[.slice A xs.length c, .slice A1 zs.length c1] w fun e w' => e = .returned (.bool true) ∧ Below w.heap.size w w' := by
  have Hb := Lib.hid hb
  have Hz := Lib.hid hz
  have Hw := Lib.hid hw
  clear hb hz hw
  obtain ⟨L, hL, hLl⟩ : ∃ L : Nat, L = min zs.length 100 ∧ L ≤ zs.length := ⟨_, rfl, Nat.min_le_left _ _⟩
  have hif : (if (100 : Int) < (zs.length : Int) then (100 : Int) else (zs.length : Int)) = (L : Int) := by split <;> omega
  have HL := Lib.hid hL
  clear hL
  go_enter Try.func5, Try.ntmps5
  go_wp2_with fail
  clear hif
  refine (cr_new w A c xs 7 hl hc w.heap.size Hb.out (Nat.le_refl _) (by omega) (by omega)).mono ?_
  rintro e w1 ⟨rfl, h1, g1⟩
  have H1 := Lib.hid h1
  clear h1
  go_wp2_with fail
  refine (alive_any w1).mono ?_
  rintro e w2 ⟨rfl, g2⟩
  have H2 := Lib.hid (H1.out.grew g2 (by simp) (fun _ h => by cases h))
  have Hg := Lib.hid (grew_trans g1 g2)
  clear g1 g2 H1
  generalize hp : w.heap.size = p at *
  have Hp := Lib.hid hp
  clear hp
  go_wp2_with fail
  go_loopw [6, 29] (fun s j wr => ∃ i k : Nat, k ≤ L ∧ i ≤ xs.length ∧ j = .int .i64 k ∧ s = .string (txt (xs.take i)) ∧ Hid (Cr wr p p (xs.drop i) (7 + i)) ∧ Hid (Grew w wr none)) (fun _ j _ => L - (intOf j).toNat)
  case atStart => exact ⟨0, 0, Nat.zero_le _, Nat.zero_le _, rfl, by simp [txt], H2, Hg⟩
  case round =>
    obtain ⟨i, k, hk, hi, rfl, rfl, R1, R2⟩ := hrel
    have hsz : (txt (xs.take i)).size = i := by rw [txt_size, List.length_take]; omega
    have e1 : (xs.drop i).length = xs.length - i := List.length_drop
    have E1 := Lib.hid e1
    clear e1
    by_cases hlt : k < L
    · obtain ⟨b, o, rfl, _, hcell⟩ := Hz.out (by omega)
      have hck := R2.out.cell (hcell k (by omega)) (by simp)
      have Hc := Lib.hid hcell
      clear hcell
      generalize hz : zs.getD k 0 = z at *
      have HZ := Lib.hid hz
      clear hz
      have hcv : ∀ W : World, (convert 22 9 (.slice none 0 0)).run Try.prog W = .ok (.string (txt [])) W :=
        fun W => conv_txt W Try.underlying22 Try.underlying5 Try.underlying9 (B := 0) (xs := []) (fun h => by simp at h) rfl 0
      have hT : (txt []).size = 0 := rfl
      by_cases hneg : z < 0
      · have hge : decide (0 ≤ z) = false := by simp; omega
        generalize hS : txt (xs.take i) = S at *
        have HS := Lib.hid hS
        clear hS
        go_wp2_with fail
        refine (cr_at wr p p _ _ R1.out).mono ?_
        rintro e w3 ⟨rfl, rfl⟩
        go_wp2_with fail
        refine (take_arg wr p z hneg).mono ?_
        rintro e w3 ⟨rfl, rfl⟩
        go_wp2_with fail
        refine (cr_at wr p p _ _ R1.out).mono ?_
        rintro e w3 ⟨rfl, rfl⟩
        go_wp2_with fail
        go_roundw
        case rel => exact ⟨i, k + 1, by omega, hi, by go_num, by rw [← HS.out, txt_append, List.append_nil], R1, R2⟩
        case measure => simp [intOf]; omega
      · obtain ⟨n, rfl⟩ := Int.eq_ofNat_of_zero_le (a := z) (by omega)
        by_cases hle : n ≤ xs.length - i
        · have q1 : (n : Int) ≤ (xs.length : Int) - i := by omega
          have e2 : ((xs.drop i).take n).length = n := by rw [List.length_take, List.length_drop]; omega
          have e3 : xs.take i ++ (xs.drop i).take n = xs.take (i + n) := by rw [List.take_add]
          generalize hS : txt (xs.take i) = S at *
          have HS := Lib.hid hS
          clear hS hT hcv
          go_wp2_with fail
          refine (cr_at wr p p _ _ R1.out).mono ?_
          rintro e w3 ⟨rfl, rfl⟩
          go_wp2_with fail
          refine (cr_take wr p p _ _ R1.out n (by rw [E1.out]; omega)).mono ?_
          rintro e w3 ⟨rfl, h3, b3, g3, s3⟩
          rw [List.drop_drop] at h3
          have H3 := Lib.hid h3
          have B3 := Lib.hid b3
          have Hg3 := Lib.hid (grew_own R2.out g3 (by have := Hp.out; omega))
          have hcv : (convert 22 9 (.slice (some ⟨wr.heap.size, 0, none⟩) n n)).run Try.prog w3 = .ok (.string (txt ((xs.drop i).take n))) w3 :=
            conv_txt w3 Try.underlying22 Try.underlying5 Try.underlying9 B3.out e2.symm n
          have hT : (txt ((xs.drop i).take n)).size = n := by rw [txt_size, e2]
          generalize hTT : txt ((xs.drop i).take n) = T at *
          have HT := Lib.hid hTT
          have E3 := Lib.hid e3
          clear h3 b3 g3 hTT e2 e3
          generalize wr.heap.size = t at *
          go_wp2_with fail
          refine (cr_at w3 p p _ _ H3.out).mono ?_
          rintro e w4 ⟨rfl, rfl⟩
          go_wp2_with fail
          go_roundw
          case rel =>
            exact ⟨i + n, k + 1, by omega, by omega, by go_num, by rw [← HS.out, ← HT.out, txt_append, E3.out], by rw [show (7 + ((i + n : Nat) : Int)) = 7 + i + n from by omega]; exact H3, Hg3⟩
          case measure => simp [intOf]; omega
        · have q1 : ¬ (n : Int) ≤ (xs.length : Int) - i := by omega
          generalize hS : txt (xs.take i) = S at *
          have HS := Lib.hid hS
          clear hS
          go_wp2_with fail
          refine (cr_at wr p p _ _ R1.out).mono ?_
          rintro e w3 ⟨rfl, rfl⟩
          go_wp2_with fail
          refine (cr_take_short wr p p _ _ R1.out n (by rw [E1.out]; omega)).mono ?_
          rintro e w3 ⟨rfl, rfl⟩
          go_wp2_with fail
          refine (cr_at wr p p _ _ R1.out).mono ?_
          rintro e w3 ⟨rfl, rfl⟩
          go_wp2_with fail
          go_roundw
          case rel => exact ⟨i, k + 1, by omega, hi, by go_num, by rw [← HS.out, txt_append, List.append_nil], R1, R2⟩
          case measure => simp [intOf]; omega
    · have hcl := cr_left wr p p _ _ R1.out
      have hct := cr_take wr p p _ _ R1.out (xs.length - i) (by rw [E1.out]; omega)
      rw [E1.out] at hcl
      have e4 : (xs.drop i).take (xs.length - i) = xs.drop i := List.take_of_length_le (by rw [E1.out]; omega)
      have e5 : (xs.drop i).drop (xs.length - i) = [] := List.drop_eq_nil_of_le (by rw [E1.out]; omega)
      rw [e4, e5] at hct
      have Hcl := Lib.hid hcl
      have Hct := Lib.hid hct
      clear hcl hct e4 e5
      generalize hS : txt (xs.take i) = S at *
      have HS := Lib.hid hS
      clear hS
      go_wp2_with fail
      refine Hcl.out.mono ?_
      rintro e w3 ⟨rfl, rfl⟩
      go_wp2_with fail
      refine Hct.out.mono ?_
      rintro e w3 ⟨rfl, h3, b3, g3, s3⟩
      have H3 := Lib.hid h3
      have B3 := Lib.hid b3
      have Hg3 := Lib.hid (grew_own R2.out g3 (by have := Hp.out; omega))
      have hcv : (convert 22 9 (.slice (some ⟨wr.heap.size, 0, none⟩) (xs.length - i) (xs.length - i))).run Try.prog w3 = .ok (.string (txt (xs.drop i))) w3 :=
        conv_txt w3 Try.underlying22 Try.underlying5 Try.underlying9 B3.out E1.out.symm _
      have hcv2 : (convert 22 9 (.slice A xs.length c)).run Try.prog w3 = .ok (.string (txt xs)) w3 :=
        conv_txt w3 Try.underlying22 Try.underlying5 Try.underlying9 (Byt.grew Hb.out Hg3.out (fun _ h => by cases h)) rfl c
      have hT : (txt (xs.drop i)).size = xs.length - i := by rw [txt_size, E1.out]
      have hST : S ++ txt (xs.drop i) = txt xs := by rw [← HS.out, txt_append, List.take_append_drop]
      clear h3 b3 g3
      generalize txt (xs.drop i) = T at *
      generalize txt xs = X at *
      have hce := cr_end w3 p p _ _ H3.out
      rw [show (7 + (i : Int) + ((xs.length - i : Nat) : Int) + (([] : List UInt8).length : Int)) = 7 + (i : Int) + ((xs.length - i : Nat) : Int) from by simp] at hce
      have Hce := Lib.hid hce
      clear hce
      go_wp2_with fail
      refine (cr_left w3 p p [] _ H3.out).mono ?_
      rintro e w4 ⟨rfl, rfl⟩
      go_wp2_with fail
      refine (cr_at w3 p p _ _ H3.out).mono ?_
      rintro e w4 ⟨rfl, rfl⟩
      go_wp2_with fail
      refine Hce.out.mono ?_
      rintro e w4 ⟨rfl, m, rfl⟩
      go_wp2_with fail
      go_ret
      exact ⟨rfl, grew_below (grew_drewN Hg3.out m) (Nat.le_refl _) (fun _ h => by cases h)⟩

set_option maxRecDepth 100000 in
theorem cursorWhole_lifted (os : Os) (started : os.Started) (H : Type) (enc : TypeId × Value → H) :
    ReturnsInHanded {} Try.checked os 5 .any (Rows.cursorWholeSpec.pre6 enc Try.prog Try.f5 Rows.cursorWholeRow.domain false) (Rows.cursorWholeSpec.post enc Try.prog Try.f5 false true false false) := by
  refine returnsInHanded_of_change_sized (C := Try.checked) own started (by kernel_rfl) Try.func5
    (ChangeSpec.witness6 (enc := enc) (C := Try.checked) false ⟨#[], #[.slice none 0 0, .slice none 0 0], []⟩ 8 (by kernel_rfl) (by kernel_rfl) (by kernel_rfl) (by kernel_rfl)) ?_
  intro W base args ds gs before hval0 hW hcnd hsz0 _
  have hval : ∀ (j : Nat) t v, Try.f5.params[j]? = some t → args[j]? = some v → Value.okWide Try.prog W .any base t v := hval0
  have hsz : (DataW.weightsEach Try.prog (Try.f5.params.toList ++ Rows.cursorWholeSpec.plain.varTypes Try.prog) (ds ++ gs)).all (· ≤ reachBytes) = true := hsz0
  have hW' := hW
  obtain ⟨p, q, hA0, hV, rfl, hfz, hnd⟩ := hW
  have hA : DataW.TrodAll enc Try.prog W 0 (fun _ => true) true Try.f5.params.toList args.toList ds p := hA0
  rw [Try.params5] at hA hval hsz
  obtain ⟨v0, vs0, d0, ds0, p0, q0, hargs, rfl, rfl, h0, r0⟩ := trodAll_cons hA
  obtain ⟨v1, vs1, d1, ds1, p1, q1, rfl, rfl, rfl, h1, r1⟩ := trodAll_cons r0
  obtain ⟨rfl, rfl, rfl⟩ := trodAll_nil r1
  obtain rfl : args = #[v0, v1] := by cases args; simp_all
  obtain ⟨rfl, rfl⟩ := trodVars_none hV
  have k0 := h0
  have lt0 : ∀ x ∈ p0, x.block < W.heap.size := by obtain ⟨m, hm⟩ := k0; exact DataW.trod_lt m _ _ _ hm
  obtain ⟨A0, c0, x0, rfl, l0, m0, b0⟩ := arg_bytes (hval 0 22 v0 rfl rfl) h0 hsz (j := 0) rfl rfl
  have k1 := h1
  have lt1 : ∀ x ∈ p1, x.block < W.heap.size := by obtain ⟨m, hm⟩ := k1; exact DataW.trod_lt m _ _ _ hm
  obtain ⟨A1, c1, x1, rfl, l1, m1, b1, w1⟩ := arg_ints (hval 1 48 v1 rfl rfl) h1 hsz (j := 1) rfl rfl
  clear hA0 hval0 hsz0
  refine (cursorWhole_walk W A0 c0 x0 l0 m0 b0 A1 c1 x1 l1 m1 b1 w1).mono fun e W' ⟨he, bel⟩ => ?_
  subst he
  exact ⟨_, rfl, _, _, _, [], _, [], hW', trodAll_mk1 (shut_bool Try.underlying4 _), (trodAll_cons_mk (Below.trod laidOut (by kernel_rfl) (of_decide_eq_true (by kernel_rfl)) k0 bel lt0) (trodAll_cons_mk (Below.trod laidOut (by kernel_rfl) (of_decide_eq_true (by kernel_rfl)) k1 bel lt1) trodAll_mk0)), rfl, bel.frame _, fun h => by cases h⟩

theorem cursorWhole_over : Rows.cursorWholeRow.holds Try.pinned (OpenSpec.ofChange Rows.cursorWholeSpec) :=
  OpenClaim.holds_of_wide 5 Try.f5 rfl rfl rfl rfl rfl rfl rfl ⟨rfl, rfl, rfl, rfl, rfl⟩ rfl rfl rfl rfl rfl (by kernel_rfl) Try.func5 (by kernel_rfl)
    (of_decide_eq_true (by kernel_rfl)) (by unfold Func.isWrapper; first | (rw [if_pos (by decide +kernel)]; kernel_rfl) | (rw [if_neg (by decide +kernel)]; exact ⟨rfl, rfl⟩))
    (fun os started H enc _ => cursorWhole_lifted os started H enc)

theorem cursorWhole_holds : Rows.CursorWholeSaid := cursorWhole_over
#print axioms cursorWhole_holds
end Go.Proofs.Ythdgfhjehijmoaa
