/- Of any tag and any bytes whether they may be its is the document's: the law returns true. -/
import Derived.Test.YtnegakobammljaaCc
import Derived.Test.YtnegakobammljaaOpen
namespace Go.Proofs.Ytnegakobammljaa
open Go.ChangeShapes Go.WideShapes Go.ChangeAt Go.RowKit

set_option maxRecDepth 100000 in
set_option maxHeartbeats 4000000 in
theorem dertypeChecks_by (hal : AliveC) (hck : CheckC) (w : World) (tag : Int) (ht : -9223372036854775808 ≤ tag ∧ tag ≤ 9223372036854775807) (A : Option Addr) (c : Nat) (xs : List UInt8) (hl : xs.length ≤ c) (hc : c ≤ 140737488351232) (hb : Byt w w.heap.size A xs) :
    Calls Try.prog 3 #[.int .i64 tag, .slice A xs.length c] w fun e w' => e = .returned (.bool true) ∧ Below w.heap.size w w' := by
  have HB := Lib.hid hb
  obtain ⟨q, hq⟩ : ∃ q, w.heap.size = q := ⟨_, rfl⟩
  have r0 := hal w
  have r1 := fun (W : World) (h : Byt W W.heap.size A xs) => hck W tag A c xs ht h hl (Nat.le_trans hl hc)
  have r2 := fun (W : World) (h : Byt W W.heap.size A xs) => rcheck_any W tag A c xs h hl (Nat.le_trans hl hc)
  generalize ckE tag xs = E at r1 r2
  have H1 := Lib.hid r1
  have H2 := Lib.hid r2
  have HQ := Lib.hid hq
  rw [hq] at r0 ⊢
  clear hb r1 r2 hal hck hq
  go_enter Try.func3, Try.ntmps3
  go_wp2_with fail
  refine r0.mono ?_
  rintro e w1 ⟨rfl, hB1⟩
  have HB1 := Lib.hid (show Below q w w1 ∧ q ≤ w1.heap.size from ⟨hB1, by rw [← HQ.out]; rw [← HQ.out] at hB1; exact hB1.size⟩)
  clear r0 hB1
  go_wp2_with fail
  refine (H1.out w1 ((byt_below HB.out HB1.out.1 (by rw [HQ.out]; exact Nat.le_refl _)).more (by rw [HQ.out]; exact HB1.out.2))).mono ?_
  rintro e w2 ⟨rfl, hB2⟩
  have HB2 := Lib.hid (show Below q w w2 ∧ q ≤ w2.heap.size from ⟨HB1.out.1.trans (hB2.mono HB1.out.2), Nat.le_trans HB1.out.2 hB2.size⟩)
  clear hB2 HB1
  go_wp2_with fail
  refine (H2.out w2 ((byt_below HB.out HB2.out.1 (by rw [HQ.out]; exact Nat.le_refl _)).more (by rw [HQ.out]; exact HB2.out.2))).mono ?_
  rintro e w3 ⟨rfl, hB3⟩
  have HB3 := Lib.hid (HB2.out.1.trans (hB3.mono HB2.out.2))
  clear hB3 HB2 H1 H2
  go_wp2_with fail
  go_ret
  exact ⟨by simp, HB3.out⟩
theorem dertypeChecks_walk (w : World) (tag : Int) (ht : (Lit.int .i64 tag).wf = true) (A : Option Addr) (c : Nat) (xs : List UInt8) (hl : xs.length ≤ c) (hc : c ≤ 140737488351232) (hb : Byt w w.heap.size A xs) :
    Calls Try.prog 3 #[.int .i64 tag, .slice A xs.length c] w fun e w' => e = .returned (.bool true) ∧ Below w.heap.size w w' :=
  dertypeChecks_by aliveC checkC w tag (wf_range ht) A c xs hl hc hb

set_option maxRecDepth 100000 in
theorem dertypeChecks_lifted (os : Os) (started : os.Started) (H : Type) (enc : TypeId × Value → H) :
    ReturnsInHanded {} Try.checked os 3 .any (Rows.dertypeChecksSpec.pre6 enc Try.prog Try.f3 Rows.dertypeChecksRow.domain false) (Rows.dertypeChecksSpec.post enc Try.prog Try.f3 false true false false) := by
  refine returnsInHanded_of_change_sized (C := Try.checked) own started (by kernel_rfl) Try.func3
    (ChangeSpec.witness6 (enc := enc) (C := Try.checked) false ⟨#[], #[.int .i64 0, .slice none 0 0], []⟩ 8 (by kernel_rfl) (by kernel_rfl) (by kernel_rfl) (by kernel_rfl)) ?_
  intro W base args ds gs before hval0 hW hcnd hsz0 _
  have hval : ∀ (j : Nat) t v, Try.f3.params[j]? = some t → args[j]? = some v → Value.okWide Try.prog W .any base t v := hval0
  have hsz : (DataW.weightsEach Try.prog (Try.f3.params.toList ++ Rows.dertypeChecksSpec.plain.varTypes Try.prog) (ds ++ gs)).all (· ≤ reachBytes) = true := hsz0
  have hW' := hW
  obtain ⟨p, q, hA0, hV, rfl, hfz, hnd⟩ := hW
  have hA : DataW.TrodAll enc Try.prog W 0 (fun _ => true) true Try.f3.params.toList args.toList ds p := hA0
  rw [Try.params3] at hA hval hsz
  obtain ⟨v0, vs0, d0, ds0, p0, q0, hargs, rfl, rfl, h0, r0⟩ := trodAll_cons hA
  obtain ⟨v1, vs1, d1, ds1, p1, q1, rfl, rfl, rfl, h1, r1⟩ := trodAll_cons r0
  obtain ⟨rfl, rfl, rfl⟩ := trodAll_nil r1
  obtain rfl : args = #[v0, v1] := by cases args; simp_all
  obtain ⟨rfl, rfl⟩ := trodVars_none hV
  obtain ⟨a0, rfl, rfl, rfl, w0⟩ := open_int Try.underlying3 (hval 0 3 v0 rfl rfl) h0
  have k1 := h1
  have lt1 : ∀ x ∈ p1, x.block < W.heap.size := by obtain ⟨m, hm⟩ := k1; exact DataW.trod_lt m _ _ _ hm
  obtain ⟨A1, c1, x1, rfl, l1, m1, b1⟩ := arg_bytes (hval 1 22 v1 rfl rfl) h1 hsz (j := 1) rfl rfl
  clear hA0 hval0 hsz0
  refine (dertypeChecks_walk W a0 w0 A1 c1 x1 l1 m1 b1).mono fun e W' ⟨he, bel⟩ => ?_
  subst he
  exact ⟨_, rfl, _, _, _, [], _, [], hW', trodAll_mk1 (shut_bool Try.underlying4 _), (trodAll_cons_mk (shut_int Try.underlying3 w0) (trodAll_cons_mk (Below.trod laidOut (by kernel_rfl) (of_decide_eq_true (by kernel_rfl)) k1 bel lt1) trodAll_mk0)), rfl, bel.frame _, fun h => by cases h⟩

theorem dertypeChecks_over : Rows.dertypeChecksRow.holds Try.pinned (OpenSpec.ofChange Rows.dertypeChecksSpec) :=
  OpenClaim.holds_of_wide 3 Try.f3 rfl rfl rfl rfl rfl rfl rfl ⟨rfl, rfl, rfl, rfl, rfl⟩ rfl rfl rfl rfl rfl (by kernel_rfl) Try.func3 (by kernel_rfl)
    (of_decide_eq_true (by kernel_rfl)) (by unfold Func.isWrapper; first | (rw [if_pos (by decide +kernel)]; kernel_rfl) | (rw [if_neg (by decide +kernel)]; exact ⟨rfl, rfl⟩))
    (fun os started H enc _ => dertypeChecks_lifted os started H enc)

theorem dertypeChecks_holds : Rows.DertypeChecksSaid := dertypeChecks_over
#print axioms dertypeChecks_holds
end Go.Proofs.Ytnegakobammljaa

