/- What would be too much is told, and changes nothing; what fits just is taken: for every number and bytes the law returns true, and they read as they did. No condition. -/
import Derived.Test.YtkeiamihgcbcbaaBd4
import Derived.Test.YtkeiamihgcbcbaaOpen
namespace Go.Proofs.Ytkeiamihgcbcbaa
open Go.ChangeShapes Go.WideShapes Go.ChangeAt Go.RowKit

theorem max_nat (a : Int) : ∃ M : Nat, (if (0 : Int) < a then a else 0) = (M : Int) := by
  by_cases h : (0 : Int) < a
  · exact ⟨a.toNat, by rw [if_pos h]; omega⟩
  · exact ⟨0, by rw [if_neg h]; rfl⟩

/-- Made bytes are zeros. -/
theorem made_by (w : World) (n : Nat) : ByF (w.alloc (.cells (madeCells #[.int .u8 0] n) 5)) (fun i => i = w.heap.size) (some ⟨w.heap.size, 0, none⟩) (List.replicate n 0) := by
  have h := ByF.of_whole (k := 0) (Whole.new w (madeCells #[.int .u8 0] n) 5) (ys := List.replicate n 0) (by rw [toList_madeCells_one]; simp [cellsOf])
  simpa using h

set_option maxRecDepth 100000 in
set_option maxHeartbeats 4000000 in
theorem builderFull_fit (w : World) (a : Int) (A : Option Addr) (c : Nat) (xs : List UInt8) (hl : xs.length ≤ c) (hc : c ≤ 140737488351232) (hb : Byt w w.heap.size A xs)
    (M n : Nat) (hM : (if (0 : Int) < a then a else 0) = (M : Int)) (hn : (M : Int) % 200 = (n : Int)) (hfit : xs.length ≤ n) :
    Calls Try.prog 7 #[.int .i64 a, .slice A xs.length c] w fun e w' => e = .returned (.bool true) ∧ Below w.heap.size w w' := by
  have hn2 : n < 200 := by omega
  have HB := Lib.hid hb
  clear hb
  go_enter Try.func7, Try.ntmps7
  go_wp2_with fail
  refine (bnew_ok w n (by omega)).mono ?_
  rintro e w1 ⟨rfl, h1, g1⟩
  generalize hp : w.heap.size = p at *
  have HP := Lib.hid hp
  have H1 := Lib.hid h1
  clear h1 hp
  go_wp2_with fail
  with_reducible refine (alive2_any w1).mono ?_
  rintro e w2 ⟨rfl, g2⟩
  have H2 := Lib.hid (H1.out.fr (Fr.of_grew g2) (fun _ _ h => by cases h))
  have g3 := grew_trans g1 g2
  have hcb := bbytes_any w2 _ p n [] [] H2.out _ A xs c (HB.out.grew g3 (fun _ h => by cases h)).byf
  rw [show adE n ([] : List UInt8).length xs.length = 0 from by unfold adE; rw [if_neg (by simp; omega)], show adX n [] xs = xs from by unfold adX; rw [if_neg (by simp; omega)]; simp] at hcb
  have HCB := Lib.hid hcb
  clear hcb g1 g2 H1
  go_wp2_with fail
  refine HCB.out.mono ?_
  rintro e w3 ⟨rfl, h3⟩
  obtain ⟨F3, h3, g3', f3, _⟩ := h3.grew g3 (fun i hi => by have := HP.out; omega)
  have H3 := Lib.hid h3
  have FF3 := Lib.hid f3
  have G3 := Lib.hid g3'
  clear h3 f3 g3 g3' HCB H2
  have hle1 : (xs.length : Int) ≤ n := by omega
  obtain ⟨r, hr⟩ : ∃ r, n - xs.length = r := ⟨_, rfl⟩
  have hyl : xs.length = n - r := by omega
  have HYL := Lib.hid hyl
  have hwr : IntKind.i64.wrap ((n : Int) - xs.length) = (r : Int) := by rw [show ((n : Int) - xs.length) = r from by omega]; exact IntWalk.i64_in _ (by omega)
  have hwr2 : (n : Int) - xs.length = (r : Int) := by omega
  have hrn : r ≤ n := by omega
  clear hr hyl
  skip
  have hmk := run_make_row' (P := Try.prog) 32 5 (.int .u8 0) 1 Try.underlying32 info_u8 rfl .i64 .i64 r (by omega) (by omega)
  go_wp2_with fail
  clear hmk
  have g4 := grew_alloc G3.out (.cells (madeCells #[.int .u8 0] r) 5)
  have hb4 := made_by w3 r
  have h4 := H3.out.fr ((Fr.refl w3 (fun _ => False)).alloc (.cells (madeCells #[.int .u8 0] r) 5)) (fun _ _ h => h)
  have hc4 := bbytes_any _ F3 p n xs [] h4 _ _ (List.replicate r 0) r hb4
  rw [List.length_replicate, HYL.out, show adE n (n - r) r = 0 from by unfold adE; rw [if_neg (by omega)]] at hc4
  rw [show adX n xs (List.replicate r 0) = xs ++ List.replicate r 0 from by unfold adX; rw [if_neg (by rw [HYL.out, List.length_replicate]; omega)]] at hc4
  have hzl : (xs ++ List.replicate r (0 : UInt8)).length = n := by rw [List.length_append, List.length_replicate, HYL.out]; omega
  generalize xs ++ List.replicate r (0 : UInt8) = zs at *
  have HZL := Lib.hid hzl
  have HC4 := Lib.hid hc4
  clear hc4 hzl hb4 h4
  refine HC4.out.mono ?_
  rintro e w5 ⟨rfl, h5⟩
  obtain ⟨F5, h5, g5, f5, _⟩ := h5.grew g4 FF3.out
  have H5 := Lib.hid h5
  have FF5 := Lib.hid f5
  clear h5 f5 g4 HC4
  go_wp2_with fail
  have g6 := grew_alloc g5 (.cells #[.int .u8 1] 5)
  have hb6 := ByF.of_whole (k := 0) (Whole.new w5 #[.int .u8 1] 5) (ys := [1]) rfl
  have h6 := H5.out.fr ((Fr.refl w5 (fun _ => False)).alloc (.cells #[.int .u8 1] 5)) (fun _ _ h => h)
  have hc6 := bbytes_any _ F5 p n zs [] h6 _ _ [1] 1 hb6
  rw [show adE n zs.length [(1 : UInt8)].length = 5 from by unfold adE; rw [if_pos (by rw [HZL.out]; simp)], show adX n zs [1] = zs from by unfold adX; rw [if_pos (by rw [HZL.out]; simp)]] at hc6
  have HC6 := Lib.hid hc6
  clear hc6 h6 hb6
  refine HC6.out.mono ?_
  rintro e w7 ⟨rfl, h7⟩
  obtain ⟨F7, h7, g7, f7, _⟩ := h7.grew g6 FF5.out
  have H7 := Lib.hid h7
  have FF7 := Lib.hid f7
  clear h7 f7 g5 g6 HC6
  have hc8 := bnumber_any w7 F7 p n zs [] H7.out 1 0 (by omega)
  rw [show nbE n zs.length 1 0 = 5 from by simp [nbE, sizeOk, adE, HZL.out], show nbX n zs 1 0 = zs from by simp [nbX, sizeOk, adX, be_length, HZL.out]] at hc8
  have HC8 := Lib.hid hc8
  clear hc8
  go_wp2_with fail
  refine HC8.out.mono ?_
  rintro e w9 ⟨rfl, h9⟩
  obtain ⟨F9, h9, g9, f9, _⟩ := h9.grew g7 FF7.out
  have H9 := Lib.hid h9
  have FF9 := Lib.hid f9
  clear h9 f9 g7 HC8
  have hc10 := bopen_any w9 F9 p n zs [] H9.out 1
  rw [show opE n zs.length 1 = 5 from by simp [opE, adE, HZL.out], show opX n zs 1 = zs from by simp [opX, adX, HZL.out], show opP n zs.length [] 1 = [] from by simp [opP, HZL.out]] at hc10
  have HC10 := Lib.hid hc10
  clear hc10
  go_wp2_with fail
  refine HC10.out.mono ?_
  rintro e w11 ⟨rfl, h11⟩
  obtain ⟨F11, h11, g11, f11, _⟩ := h11.grew g9 FF9.out
  have H11 := Lib.hid h11
  have FF11 := Lib.hid f11
  clear h11 f11 g9 HC10
  have hc12 := bbytes_any w11 F11 p n zs [] H11.out (fun _ => True) none [] 0 (ByF.nil _ _ _)
  rw [show adE n zs.length ([] : List UInt8).length = 0 from by simp [adE, HZL.out], show adX n zs [] = zs from by simp [adX]] at hc12
  have HC12 := Lib.hid hc12
  clear hc12
  go_wp2_with fail
  refine HC12.out.mono ?_
  rintro e w13 ⟨rfl, h13⟩
  obtain ⟨F13, h13, g13, f13, _⟩ := h13.grew g11 FF11.out
  have H13 := Lib.hid h13
  clear h13 f13 g11 HC12
  go_wp2_with fail
  refine (bdone_ok w13 F13 p n zs H13.out).mono ?_
  rintro e w14 ⟨rfl, b14, g14, _⟩
  rw [HZL.out]
  clear b14
  go_wp2_with fail
  go_ret
  exact ⟨rfl, grew_below (grew_trans g13 g14) (Nat.le_refl _) (fun _ h => by cases h)⟩

set_option maxRecDepth 100000 in
set_option maxHeartbeats 4000000 in
theorem builderFull_full (w : World) (a : Int) (A : Option Addr) (c : Nat) (xs : List UInt8) (hl : xs.length ≤ c) (hc : c ≤ 140737488351232) (hb : Byt w w.heap.size A xs)
    (M n L : Nat) (hM : (if (0 : Int) < a then a else 0) = (M : Int)) (hn : (M : Int) % 200 = (n : Int)) (hL : L = min xs.length 300) (hfit : n < L) :
    Calls Try.prog 7 #[.int .i64 a, .slice A xs.length c] w fun e w' => e = .returned (.bool true) ∧ Below w.heap.size w w' := by
  have hif : (if (300 : Int) < (xs.length : Int) then (300 : Int) else (xs.length : Int)) = (L : Int) := by split <;> omega
  have hLl : L ≤ xs.length := by omega
  have hn2 : n < 200 := by omega
  have HB := Lib.hid hb
  have HLL := Lib.hid hL
  clear hb hL
  go_enter Try.func7, Try.ntmps7
  go_wp2_with fail
  refine (bnew_ok w n (by omega)).mono ?_
  rintro e w1 ⟨rfl, h1, g1⟩
  generalize hp : w.heap.size = p at *
  have HP := Lib.hid hp
  have H1 := Lib.hid h1
  clear h1 hp
  go_wp2_with fail
  with_reducible refine (alive2_any w1).mono ?_
  rintro e w2 ⟨rfl, g2⟩
  have H2 := Lib.hid (H1.out.fr (Fr.of_grew g2) (fun _ _ h => by cases h))
  have g3 := grew_trans g1 g2
  have hbt := ((HB.out.grew g3 (fun _ h => by cases h)).take L)
  have hlt : (xs.take L).length = L := by rw [List.length_take]; omega
  have hcb := bbytes_any w2 _ p n [] [] H2.out _ A (xs.take L) c hbt.byf
  rw [hlt, show adE n ([] : List UInt8).length L = 5 from by unfold adE; rw [if_pos (by simp; omega)], show adX n [] (xs.take L) = [] from by unfold adX; rw [if_pos (by rw [hlt]; simp; omega)]] at hcb
  have HCB := Lib.hid hcb
  clear hbt hlt hcb g1 g2 H1
  go_wp2_with fail
  refine HCB.out.mono ?_
  rintro e w3 ⟨rfl, h3⟩
  obtain ⟨F3, h3, g3', f3, _⟩ := h3.grew g3 (fun i hi => by have := HP.out; omega)
  have H3 := Lib.hid h3
  have FF3 := Lib.hid f3
  have G3 := Lib.hid g3'
  clear h3 f3 g3 g3' HCB H2 hif
  have hle1 : ¬ ((L : Int) ≤ n) := by omega
  have HYL := Lib.hid (show ([] : List UInt8).length = n - n from by simp)
  skip
  have hmk := run_make_row' (P := Try.prog) 32 5 (.int .u8 0) 1 Try.underlying32 info_u8 rfl .i64 .i64 n (by omega) (by omega)
  go_wp2_with fail
  clear hmk
  have g4 := grew_alloc G3.out (.cells (madeCells #[.int .u8 0] n) 5)
  have hb4 := made_by w3 n
  have h4 := H3.out.fr ((Fr.refl w3 (fun _ => False)).alloc (.cells (madeCells #[.int .u8 0] n) 5)) (fun _ _ h => h)
  have hc4 := bbytes_any _ F3 p n [] [] h4 _ _ (List.replicate n 0) n hb4
  rw [List.length_replicate, HYL.out, show adE n (n - n) n = 0 from by unfold adE; rw [if_neg (by omega)]] at hc4
  rw [show adX n [] (List.replicate n 0) = [] ++ List.replicate n 0 from by unfold adX; rw [if_neg (by rw [HYL.out, List.length_replicate]; omega)]] at hc4
  have hzl : ([] ++ List.replicate n (0 : UInt8)).length = n := by rw [List.length_append, List.length_replicate, HYL.out]; omega
  generalize [] ++ List.replicate n (0 : UInt8) = zs at *
  have HZL := Lib.hid hzl
  have HC4 := Lib.hid hc4
  clear hc4 hzl hb4 h4
  refine HC4.out.mono ?_
  rintro e w5 ⟨rfl, h5⟩
  obtain ⟨F5, h5, g5, f5, _⟩ := h5.grew g4 FF3.out
  have H5 := Lib.hid h5
  have FF5 := Lib.hid f5
  clear h5 f5 g4 HC4
  go_wp2_with fail
  have g6 := grew_alloc g5 (.cells #[.int .u8 1] 5)
  have hb6 := ByF.of_whole (k := 0) (Whole.new w5 #[.int .u8 1] 5) (ys := [1]) rfl
  have h6 := H5.out.fr ((Fr.refl w5 (fun _ => False)).alloc (.cells #[.int .u8 1] 5)) (fun _ _ h => h)
  have hc6 := bbytes_any _ F5 p n zs [] h6 _ _ [1] 1 hb6
  rw [show adE n zs.length [(1 : UInt8)].length = 5 from by unfold adE; rw [if_pos (by rw [HZL.out]; simp)], show adX n zs [1] = zs from by unfold adX; rw [if_pos (by rw [HZL.out]; simp)]] at hc6
  have HC6 := Lib.hid hc6
  clear hc6 h6 hb6
  refine HC6.out.mono ?_
  rintro e w7 ⟨rfl, h7⟩
  obtain ⟨F7, h7, g7, f7, _⟩ := h7.grew g6 FF5.out
  have H7 := Lib.hid h7
  have FF7 := Lib.hid f7
  clear h7 f7 g5 g6 HC6
  have hc8 := bnumber_any w7 F7 p n zs [] H7.out 1 0 (by omega)
  rw [show nbE n zs.length 1 0 = 5 from by simp [nbE, sizeOk, adE, HZL.out], show nbX n zs 1 0 = zs from by simp [nbX, sizeOk, adX, be_length, HZL.out]] at hc8
  have HC8 := Lib.hid hc8
  clear hc8
  go_wp2_with fail
  refine HC8.out.mono ?_
  rintro e w9 ⟨rfl, h9⟩
  obtain ⟨F9, h9, g9, f9, _⟩ := h9.grew g7 FF7.out
  have H9 := Lib.hid h9
  have FF9 := Lib.hid f9
  clear h9 f9 g7 HC8
  have hc10 := bopen_any w9 F9 p n zs [] H9.out 1
  rw [show opE n zs.length 1 = 5 from by simp [opE, adE, HZL.out], show opX n zs 1 = zs from by simp [opX, adX, HZL.out], show opP n zs.length [] 1 = [] from by simp [opP, HZL.out]] at hc10
  have HC10 := Lib.hid hc10
  clear hc10
  go_wp2_with fail
  refine HC10.out.mono ?_
  rintro e w11 ⟨rfl, h11⟩
  obtain ⟨F11, h11, g11, f11, _⟩ := h11.grew g9 FF9.out
  have H11 := Lib.hid h11
  have FF11 := Lib.hid f11
  clear h11 f11 g9 HC10
  have hc12 := bbytes_any w11 F11 p n zs [] H11.out (fun _ => True) none [] 0 (ByF.nil _ _ _)
  rw [show adE n zs.length ([] : List UInt8).length = 0 from by simp [adE, HZL.out], show adX n zs [] = zs from by simp [adX]] at hc12
  have HC12 := Lib.hid hc12
  clear hc12
  go_wp2_with fail
  refine HC12.out.mono ?_
  rintro e w13 ⟨rfl, h13⟩
  obtain ⟨F13, h13, g13, f13, _⟩ := h13.grew g11 FF11.out
  have H13 := Lib.hid h13
  clear h13 f13 g11 HC12
  go_wp2_with fail
  refine (bdone_ok w13 F13 p n zs H13.out).mono ?_
  rintro e w14 ⟨rfl, b14, g14, _⟩
  rw [HZL.out]
  clear b14
  go_wp2_with fail
  go_ret
  exact ⟨rfl, grew_below (grew_trans g13 g14) (Nat.le_refl _) (fun _ h => by cases h)⟩

theorem builderFull_walk (w : World) (a : Int) (_ : (Lit.int .i64 a).wf = true) (A : Option Addr) (c : Nat) (xs : List UInt8) (hl : xs.length ≤ c) (hc : c ≤ 140737488351232) (hb : Byt w w.heap.size A xs) :
    Calls Try.prog 7 #[.int .i64 a, .slice A xs.length c] w fun e w' => e = .returned (.bool true) ∧ Below w.heap.size w w' := by
  obtain ⟨M, hM⟩ := max_nat a
  by_cases h : min xs.length 300 ≤ M % 200
  · exact builderFull_fit w a A c xs hl hc hb M (M % 200) hM (by omega) (by omega)
  · exact builderFull_full w a A c xs hl hc hb M (M % 200) (min xs.length 300) hM (by omega) rfl (by omega)

set_option maxRecDepth 100000 in
theorem builderFull_lifted (os : Os) (started : os.Started) (H : Type) (enc : TypeId × Value → H) :
    ReturnsInHanded {} Try.checked os 7 .any (Rows.builderFullSpec.pre6 enc Try.prog Try.f7 Rows.builderFullRow.domain false) (Rows.builderFullSpec.post enc Try.prog Try.f7 false true false false) := by
  refine returnsInHanded_of_change_sized (C := Try.checked) own started (by kernel_rfl) Try.func7
    (ChangeSpec.witness6 (enc := enc) (C := Try.checked) false ⟨#[], #[.int .i64 0, .slice none 0 0], []⟩ 8 (by kernel_rfl) (by kernel_rfl) (by kernel_rfl) (by kernel_rfl)) ?_
  intro W base args ds gs before hval0 hW hcnd hsz0 _
  have hval : ∀ (j : Nat) t v, Try.f7.params[j]? = some t → args[j]? = some v → Value.okWide Try.prog W .any base t v := hval0
  have hsz : (DataW.weightsEach Try.prog (Try.f7.params.toList ++ Rows.builderFullSpec.plain.varTypes Try.prog) (ds ++ gs)).all (· ≤ reachBytes) = true := hsz0
  have hW' := hW
  obtain ⟨p, q, hA0, hV, rfl, hfz, hnd⟩ := hW
  have hA : DataW.TrodAll enc Try.prog W 0 (fun _ => true) true Try.f7.params.toList args.toList ds p := hA0
  rw [Try.params7] at hA hval hsz
  obtain ⟨v0, vs0, d0, ds0, p0, q0, hargs, rfl, rfl, h0, r0⟩ := trodAll_cons hA
  obtain ⟨v1, vs1, d1, ds1, p1, q1, rfl, rfl, rfl, h1, r1⟩ := trodAll_cons r0
  obtain ⟨rfl, rfl, rfl⟩ := trodAll_nil r1
  obtain rfl : args = #[v0, v1] := by cases args; simp_all
  obtain ⟨rfl, rfl⟩ := trodVars_none hV
  obtain ⟨a0, rfl, rfl, rfl, w0⟩ := open_int Try.underlying3 (hval 0 3 v0 rfl rfl) h0
  have k1 := h1
  have lt1 : ∀ x ∈ p1, x.block < W.heap.size := by obtain ⟨m, hm⟩ := k1; exact DataW.trod_lt m _ _ _ hm
  obtain ⟨A1, c1, x1, rfl, l1, m1, b1⟩ := arg_bytes (hval 1 32 v1 rfl rfl) h1 hsz (j := 1) rfl rfl
  clear hA0 hval0 hsz0
  refine (builderFull_walk W a0 w0 A1 c1 x1 l1 m1 b1).mono fun e W' ⟨he, bel⟩ => ?_
  subst he
  exact ⟨_, rfl, _, _, _, [], _, [], hW', trodAll_mk1 (shut_bool Try.underlying4 _), (trodAll_cons_mk (shut_int Try.underlying3 w0) (trodAll_cons_mk (Below.trod laidOut (by kernel_rfl) (of_decide_eq_true (by kernel_rfl)) k1 bel lt1) trodAll_mk0)), rfl, bel.frame _, fun h => by cases h⟩

theorem builderFull_over : Rows.builderFullRow.holds Try.pinned (OpenSpec.ofChange Rows.builderFullSpec) :=
  OpenClaim.holds_of_wide 7 Try.f7 rfl rfl rfl rfl rfl rfl rfl ⟨rfl, rfl, rfl, rfl, rfl⟩ rfl rfl rfl rfl rfl (by kernel_rfl) Try.func7 (by kernel_rfl)
    (of_decide_eq_true (by kernel_rfl)) (by unfold Func.isWrapper; first | (rw [if_pos (by decide +kernel)]; kernel_rfl) | (rw [if_neg (by decide +kernel)]; exact ⟨rfl, rfl⟩))
    (fun os started H enc _ => builderFull_lifted os started H enc)

theorem builderFull_holds : Rows.BuilderFullSaid := builderFull_over
#print axioms builderFull_holds
end Go.Proofs.Ytkeiamihgcbcbaa

