/- A number's bytes, as few as it needs, tell it; with one more ahead that changes nothing they don't: the law returns true. -/
import Derived.Test.YtnegakobammljaaCc
namespace Go.Proofs.Ytnegakobammljaa
open Go.ChangeShapes Go.WideShapes Go.ChangeAt Go.RowKit

set_option maxRecDepth 100000 in
set_option maxHeartbeats 4000000 in
theorem dertypeNumbers_by (hal : AliveC) (hck : CheckC) (hnu : NumberC) (w : World) (x : Int) (hx : -9223372036854775808 ≤ x ∧ x ≤ 9223372036854775807) :
    Calls Try.prog 5 #[.int .i64 x] w fun e w' => e = .returned (.bool true) ∧ Below w.heap.size w w' := by
  obtain ⟨n1, n2, n3, n4, n5, n6⟩ := bts_all x hx
  have r0 := bytes_any w x hx
  obtain ⟨q, hq⟩ : ∃ q, w.heap.size = q := ⟨_, rfl⟩
  rw [hq] at r0 ⊢
  generalize bts x = xs at *
  have E0 : nmE xs = 0 := by unfold nmE; rw [n1, if_pos rfl, if_neg (by omega)]
  have E1 : nmR xs = x := by unfold nmR; rw [E0, if_pos rfl, n3]
  have r1 := fun (W : World) (A : Option Addr) (c : Nat) (h : Byt W W.heap.size A xs) (hc : xs.length ≤ c) => hnu W A c xs h hc (by unfold mxB; omega)
  have r2 := fun (W : World) (A : Option Addr) (c : Nat) (h : Byt W W.heap.size A xs) (hc : xs.length ≤ c) => hck W 2 A c xs (by omega) h hc (by unfold mxB; omega)
  have r3 := fun (W : World) (A : Option Addr) (c : Nat) (h : Byt W W.heap.size A xs) (hc : xs.length ≤ c) => hck W 10 A c xs (by omega) h hc (by unfold mxB; omega)
  have c2 : ckE 2 xs = 0 := by unfold ckE; rw [if_neg (by omega), if_pos (by omega), n1, if_pos rfl]
  have c10 : ckE 10 xs = 0 := by unfold ckE; rw [if_neg (by omega), if_pos (by omega), n1, if_pos rfl]
  rw [E0, E1] at r1
  rw [c2] at r2
  rw [c10] at r3
  have r4 := fun (W : World) => hck W 2 none 0 [] (by omega) (fun h => by simp at h) (Nat.le_refl _) (Nat.zero_le _)
  have c0 : ckE 2 [] = 13 := rfl
  rw [c0] at r4
  have H1 := Lib.hid r1
  have H2 := Lib.hid r2
  have H3 := Lib.hid r3
  have H4 := Lib.hid r4
  have HQ := Lib.hid hq
  have HN := Lib.hid hnu
  have HA := Lib.hid hal
  have HL := Lib.hid n2
  have HW0 := Lib.hid (show ∃ z : UInt8, (if x < 0 then (255 : Int) else 0) = (z.toNat : Int) ∧ nmE (z :: xs) = 13 by
    by_cases h : x < 0
    · exact ⟨255, by rw [if_pos h]; rfl, by unfold nmE; rw [n5 h]; rfl⟩
    · exact ⟨0, by rw [if_neg h]; rfl, by unfold nmE; rw [n4 (by omega)]; rfl⟩)
  clear hq hnu hal hck r1 r2 r3 r4 c2 c10 c0 E0 E1 n1 n2 n3 n4 n5 n6 hx
  go_enter Try.func5, Try.ntmps5
  go_wp2_with fail
  refine r0.mono ?_
  rintro e w1 ⟨v, rfl, hown, hB1, -⟩
  clear r0
  obtain ⟨A, c, rfl, hc, hby, -⟩ := byt_owned hown
  have HB := Lib.hid hby
  have HC := Lib.hid hc
  have HB1 := Lib.hid (And.intro hB1 (show q ≤ w1.heap.size by rw [← HQ.out]; rw [← HQ.out] at hB1; exact hB1.size))
  clear hown hB1 hby hc
  obtain ⟨p, hp⟩ : ∃ p, w1.heap.size = p := ⟨_, rfl⟩
  have HP := Lib.hid hp
  clear hp
  go_wp2_with fail
  refine (H1.out w1 A c HB.out HC.out).mono ?_
  rintro e w2 ⟨rfl, hB2⟩
  have HB2 := Lib.hid (show Below p w1 w2 ∧ p ≤ w2.heap.size from ⟨by rw [← HP.out]; exact hB2, by rw [← HP.out]; exact hB2.size⟩)
  clear hB2 H1
  obtain ⟨z, hz, hbad⟩ := HW0.out
  have HAP := Lib.hid (fun ty => app_byt w2 z (c := c) ((byt_below HB.out HB2.out.1 (by rw [HP.out]; exact Nat.le_refl _)).more (by rw [HP.out]; exact HB2.out.2)) (by have := HL.out; omega) ty)
  rw [← hz] at HAP
  have r5 := fun (W : World) (A : Option Addr) (c : Nat) (h : Byt W W.heap.size A (z :: xs)) (hc : (z :: xs).length ≤ c) => HN.out W A c (z :: xs) h hc (by have := HL.out; unfold mxB; simp; omega)
  rw [hbad] at r5
  have H5 := Lib.hid r5
  clear r5 hbad hz HW0
  rcases Decidable.em (x < 0) with hneg | hneg
  · rw [if_pos hneg] at HAP
    go_wp2_with (at_builtin; refine wpList_append_run _ rfl (.tmp 20) (.tmp 21) 22 rfl rfl rfl HAP.out ?_; rintro v3 w3 a3; have A3 := Lib.hid a3; clear a3 HAP)
    obtain ⟨o3, hB3, -⟩ := A3.out
    obtain ⟨A5, c5, rfl, hc5, hb5, -⟩ := byt_owned o3
    have HB3 := Lib.hid (show Below p w1 w3 ∧ p ≤ w3.heap.size from ⟨HB2.out.1.trans (hB3.mono HB2.out.2), Nat.le_trans HB2.out.2 hB3.size⟩)
    have HB5 := Lib.hid hb5
    have HC5 := Lib.hid hc5
    clear o3 hB3 A3 hb5 hc5 HB2
    refine (H5.out w3 A5 c5 HB5.out HC5.out).mono ?_
    rintro e w4 ⟨rfl, hB4⟩
    have HB4 := Lib.hid (show Below p w1 w4 ∧ p ≤ w4.heap.size from ⟨HB3.out.1.trans (hB4.mono HB3.out.2), Nat.le_trans HB3.out.2 hB4.size⟩)
    clear hB4 HB3 HB5 HC5 H5
    go_wp2_with fail
    refine (HA.out w4).mono ?_
    rintro e w5 ⟨rfl, hB5⟩
    have HB5 := Lib.hid (show Below p w1 w5 ∧ p ≤ w5.heap.size from ⟨HB4.out.1.trans (hB5.mono HB4.out.2), Nat.le_trans HB4.out.2 hB5.size⟩)
    clear hB5 HB4
    go_wp2_with fail
    refine (H2.out w5 A c ((byt_below HB.out HB5.out.1 (by rw [HP.out]; exact Nat.le_refl _)).more (by rw [HP.out]; exact HB5.out.2)) HC.out).mono ?_
    rintro e w6 ⟨rfl, hB6⟩
    have HB6 := Lib.hid (show Below p w1 w6 ∧ p ≤ w6.heap.size from ⟨HB5.out.1.trans (hB6.mono HB5.out.2), Nat.le_trans HB5.out.2 hB6.size⟩)
    clear hB6 HB5 H2
    go_wp2_with fail
    refine (H3.out w6 A c ((byt_below HB.out HB6.out.1 (by rw [HP.out]; exact Nat.le_refl _)).more (by rw [HP.out]; exact HB6.out.2)) HC.out).mono ?_
    rintro e w7 ⟨rfl, hB7⟩
    have HB7 := Lib.hid (show Below p w1 w7 ∧ p ≤ w7.heap.size from ⟨HB6.out.1.trans (hB7.mono HB6.out.2), Nat.le_trans HB6.out.2 hB7.size⟩)
    clear hB7 HB6 H3
    go_wp2_with fail
    refine (H4.out w7).mono ?_
    rintro e w8 ⟨rfl, hB8⟩
    have HB8 := Lib.hid (HB7.out.1.trans (hB8.mono HB7.out.2))
    clear hB8 HB7 H4
    go_wp2_with fail
    go_ret
    exact ⟨rfl, HB1.out.1.trans (HB8.out.mono (by rw [← HP.out]; exact HB1.out.2))⟩
  · rw [if_neg hneg] at HAP
    go_wp2_with (at_builtin; refine wpList_append_run _ rfl (.tmp 20) (.tmp 21) 22 rfl rfl rfl HAP.out ?_; rintro v3 w3 a3; have A3 := Lib.hid a3; clear a3 HAP)
    obtain ⟨o3, hB3, -⟩ := A3.out
    obtain ⟨A5, c5, rfl, hc5, hb5, -⟩ := byt_owned o3
    have HB3 := Lib.hid (show Below p w1 w3 ∧ p ≤ w3.heap.size from ⟨HB2.out.1.trans (hB3.mono HB2.out.2), Nat.le_trans HB2.out.2 hB3.size⟩)
    have HB5 := Lib.hid hb5
    have HC5 := Lib.hid hc5
    clear o3 hB3 A3 hb5 hc5 HB2
    refine (H5.out w3 A5 c5 HB5.out HC5.out).mono ?_
    rintro e w4 ⟨rfl, hB4⟩
    have HB4 := Lib.hid (show Below p w1 w4 ∧ p ≤ w4.heap.size from ⟨HB3.out.1.trans (hB4.mono HB3.out.2), Nat.le_trans HB3.out.2 hB4.size⟩)
    clear hB4 HB3 HB5 HC5 H5
    go_wp2_with fail
    refine (HA.out w4).mono ?_
    rintro e w5 ⟨rfl, hB5⟩
    have HB5 := Lib.hid (show Below p w1 w5 ∧ p ≤ w5.heap.size from ⟨HB4.out.1.trans (hB5.mono HB4.out.2), Nat.le_trans HB4.out.2 hB5.size⟩)
    clear hB5 HB4
    go_wp2_with fail
    refine (H2.out w5 A c ((byt_below HB.out HB5.out.1 (by rw [HP.out]; exact Nat.le_refl _)).more (by rw [HP.out]; exact HB5.out.2)) HC.out).mono ?_
    rintro e w6 ⟨rfl, hB6⟩
    have HB6 := Lib.hid (show Below p w1 w6 ∧ p ≤ w6.heap.size from ⟨HB5.out.1.trans (hB6.mono HB5.out.2), Nat.le_trans HB5.out.2 hB6.size⟩)
    clear hB6 HB5 H2
    go_wp2_with fail
    refine (H3.out w6 A c ((byt_below HB.out HB6.out.1 (by rw [HP.out]; exact Nat.le_refl _)).more (by rw [HP.out]; exact HB6.out.2)) HC.out).mono ?_
    rintro e w7 ⟨rfl, hB7⟩
    have HB7 := Lib.hid (show Below p w1 w7 ∧ p ≤ w7.heap.size from ⟨HB6.out.1.trans (hB7.mono HB6.out.2), Nat.le_trans HB6.out.2 hB7.size⟩)
    clear hB7 HB6 H3
    go_wp2_with fail
    refine (H4.out w7).mono ?_
    rintro e w8 ⟨rfl, hB8⟩
    have HB8 := Lib.hid (HB7.out.1.trans (hB8.mono HB7.out.2))
    clear hB8 HB7 H4
    go_wp2_with fail
    go_ret
    exact ⟨rfl, HB1.out.1.trans (HB8.out.mono (by rw [← HP.out]; exact HB1.out.2))⟩
theorem dertypeNumbers_walk (w : World) (x : Int) (hx : (Lit.int .i64 x).wf = true) :
    Calls Try.prog 5 #[.int .i64 x] w fun e w' => e = .returned (.bool true) ∧ Below w.heap.size w w' :=
  dertypeNumbers_by aliveC checkC numberC w x (wf_range hx)

set_option maxRecDepth 100000 in
theorem dertypeNumbers_lifted (os : Os) (started : os.Started) (H : Type) (enc : TypeId × Value → H) :
    ReturnsInHanded {} Try.checked os 5 .any (Rows.dertypeNumbersSpec.pre6 enc Try.prog Try.f5 Rows.dertypeNumbersRow.domain false) (Rows.dertypeNumbersSpec.post enc Try.prog Try.f5 false true false false) := by
  refine returnsInHanded_of_change_sized (C := Try.checked) own started (by kernel_rfl) Try.func5
    (ChangeSpec.witness6 (enc := enc) (C := Try.checked) false ⟨#[], #[.int .i64 0], []⟩ 8 (by kernel_rfl) (by kernel_rfl) (by kernel_rfl) (by kernel_rfl)) ?_
  intro W base args ds gs before hval0 hW hcnd hsz0 _
  have hval : ∀ (j : Nat) t v, Try.f5.params[j]? = some t → args[j]? = some v → Value.okWide Try.prog W .any base t v := hval0
  have hsz : (DataW.weightsEach Try.prog (Try.f5.params.toList ++ Rows.dertypeNumbersSpec.plain.varTypes Try.prog) (ds ++ gs)).all (· ≤ reachBytes) = true := hsz0
  have hW' := hW
  obtain ⟨p, q, hA0, hV, rfl, hfz, hnd⟩ := hW
  have hA : DataW.TrodAll enc Try.prog W 0 (fun _ => true) true Try.f5.params.toList args.toList ds p := hA0
  rw [Try.params5] at hA hval hsz
  obtain ⟨v0, vs0, d0, ds0, p0, q0, hargs, rfl, rfl, h0, r0⟩ := trodAll_cons hA
  obtain ⟨rfl, rfl, rfl⟩ := trodAll_nil r0
  obtain rfl : args = #[v0] := by cases args; simp_all
  obtain ⟨rfl, rfl⟩ := trodVars_none hV
  obtain ⟨a0, rfl, rfl, rfl, w0⟩ := open_int Try.underlying2 (hval 0 2 v0 rfl rfl) h0
  clear hA0 hval0 hsz0
  refine (dertypeNumbers_walk W a0 w0).mono fun e W' ⟨he, bel⟩ => ?_
  subst he
  exact ⟨_, rfl, _, _, _, [], _, [], hW', trodAll_mk1 (shut_bool Try.underlying4 _), (trodAll_cons_mk (shut_int Try.underlying2 w0) trodAll_mk0), rfl, bel.frame _, fun h => by cases h⟩

theorem dertypeNumbers_over : Rows.dertypeNumbersRow.holds Try.pinned (OpenSpec.ofChange Rows.dertypeNumbersSpec) :=
  OpenClaim.holds_of_wide 5 Try.f5 rfl rfl rfl rfl rfl rfl rfl ⟨rfl, rfl, rfl, rfl, rfl⟩ rfl rfl rfl rfl rfl (by kernel_rfl) Try.func5 (by kernel_rfl)
    (of_decide_eq_true (by kernel_rfl)) (by unfold Func.isWrapper; first | (rw [if_pos (by decide +kernel)]; kernel_rfl) | (rw [if_neg (by decide +kernel)]; exact ⟨rfl, rfl⟩))
    (fun os started H enc _ => dertypeNumbers_lifted os started H enc)

theorem dertypeNumbers_holds : Rows.DertypeNumbersSaid := dertypeNumbers_over
#print axioms dertypeNumbers_holds
end Go.Proofs.Ytnegakobammljaa

