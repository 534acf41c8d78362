/- Of any numbers that are counted each answer is the document's, the count, and what is left: for every number and numbers the law returns true, and they read as they did. No condition. -/
import Derived.Test.YtooiejfabnaljaaTwo3
import Derived.Test.YtooiejfabnaljaaReg
import Derived.Test.YtooiejfabnaljaaOpen
namespace Go.Proofs.Ytooiejfabnaljaa
open Go.ChangeShapes Go.WideShapes Go.ChangeAt Go.RowKit

set_option maxRecDepth 100000 in
set_option maxHeartbeats 2000000 in
theorem tallySpends_neg (w : World) (a : Int) (ha : a < 0) (A : Option Addr) (c : Nat) (zs : List Int) (hl : zs.length ≤ c) (_ : c ≤ 140737488351232) :
    Calls Try.prog 3 #[.int .i64 a, .slice A zs.length c] w fun e w' => e = .returned (.bool true) ∧ Below w.heap.size w w' := by
  obtain ⟨L, hL, hLl⟩ : ∃ L : Nat, L = min zs.length 300 ∧ L ≤ zs.length := ⟨_, rfl, Nat.min_le_left _ _⟩
  have hif : (if (300 : Int) < (zs.length : Int) then (300 : Int) else (zs.length : Int)) = (L : Int) := by split <;> omega
  clear hL
  go_enter Try.func3, Try.ntmps3
  go_wp2_with fail
  clear hif
  refine (tnew_neg w a ha).mono ?_
  rintro e w1 ⟨rfl, rfl⟩
  go_wp2_with fail
  refine (alive3_any w).mono ?_
  rintro e w1 ⟨rfl, g1⟩
  go_wp2_with fail
  go_ret
  exact ⟨rfl, grew_below g1 (Nat.le_refl _) (fun _ h => by cases h)⟩

/-- Both tallies hold the same, apart from each other; nothing old has turned. -/
def SpRel (w wr : World) (p q : Nat) (m d : Int) : Prop := Tal wr p m d ∧ Rt wr q m d ∧ p ≠ q ∧ w.heap.size ≤ p ∧ w.heap.size ≤ q ∧ Grew w wr none

set_option maxRecDepth 100000 in
set_option maxHeartbeats 2000000 in
theorem tallySpends_pos (w : World) (a : Int) (ha : 0 ≤ a) (ht : a ≤ 9223372036854775807) (A : Option Addr) (c : Nat) (zs : List Int) (hl : zs.length ≤ c) (hc : c ≤ 140737488351232) (hz : Nums w A zs) (hw : ∀ z ∈ zs, (Lit.int .i64 z).wf = true) :
    Calls Try.prog 3 #[.int .i64 a, .slice A zs.length c] w fun e w' => e = .returned (.bool true) ∧ Below w.heap.size w w' := by
  have HZ := Lib.hid hz
  have HW := Lib.hid hw
  clear hz hw
  have hnn : ¬ a < 0 := by omega
  obtain ⟨L, hL, hLl⟩ : ∃ L : Nat, L = min zs.length 300 ∧ L ≤ zs.length := ⟨_, rfl, Nat.min_le_left _ _⟩
  have hif : (if (300 : Int) < (zs.length : Int) then (300 : Int) else (zs.length : Int)) = (L : Int) := by split <;> omega
  clear hL
  go_enter Try.func3, Try.ntmps3
  go_wp2_with fail
  clear hif
  refine (tnew_ok w a ha ht).mono ?_
  rintro e w1 ⟨rfl, h1, g1⟩
  have H1 := Lib.hid h1
  have hp : w.heap.size ≤ w.heap.size := Nat.le_refl _
  have HP := Lib.hid (show ∃ p, p = w.heap.size from ⟨_, rfl⟩)
  clear h1
  generalize hpp : w.heap.size = p at *
  have HPP := Lib.hid hpp
  clear hpp hp HP
  go_wp2_with fail
  refine (alive3_any w1).mono ?_
  rintro e w2 ⟨rfl, g2⟩
  have H2 := Lib.hid (H1.out.grew g2 (by simp))
  have G2 := Lib.hid (grew_trans g1 g2)
  clear g1 g2 H1
  have HR := Lib.hid (show SpRel w (w2.alloc (.cells #[.int .i64 a, .int .i64 0] 30)) p w2.heap.size a 0 from
    ⟨H2.out.grew (grew_alloc (grew_refl w2 none) _) (by simp), Whole.new _ _ _, by have := H2.out.lt; omega, by have := HPP.out; omega, G2.out.size, grew_alloc G2.out _⟩)
  clear H2 G2
  go_wp2_with fail
  generalize w2.alloc (.cells #[.int .i64 a, .int .i64 0] 30) = W0 at *
  generalize w2.heap.size = q at *
  go_loopw [46] (fun i wr => ∃ (k : Nat) (d : Int), k ≤ L ∧ i = .int .i64 k ∧ Hid (SpRel w wr p q a d)) (fun i _ => L - (intOf i).toNat)
  case atStart => exact ⟨0, 0, Nat.zero_le _, rfl, HR⟩
  case round =>
    obtain ⟨k, d, hk, rfl, R⟩ := hrel
    by_cases hlt : k < L
    · obtain ⟨r1, r2, r3, r4, r5, r6⟩ := R.out
      obtain ⟨b, o, rfl, _, hcell⟩ := HZ.out (by omega)
      have hck := r6.cell (hcell k (by omega)) (by simp)
      have hzb : (Lit.int .i64 (zs.getD k 0)).wf = true := by
        have hkz : k < zs.length := by omega
        rw [List.getD, List.getElem?_eq_getElem hkz]
        exact HW.out _ (List.getElem_mem hkz)
      have hzb2 := (i64_bounds hzb).2
      clear hcell hzb
      generalize zs.getD k 0 = z at *
      have b1 := r1.least
      have b2 := r1.most
      obtain ⟨e1, e2⟩ := spC_bd z b1 b2
      have C1 := Lib.hid (tspend_any wr.drew p a d (r1.grew (grew_drew (grew_refl wr none)) (by simp)) z hzb2)
      have R2 := Lib.hid (r2.grew (grew_drew (grew_refl wr none)) (by simp))
      have R3 := Lib.hid r3
      have R4 := Lib.hid r4
      have R5 := Lib.hid r5
      have R6 := Lib.hid (grew_drew r6)
      clear r1 r2 r3 r4 r5 r6 R
      have C2 := Lib.hid (fun (w5 : World) (h : Rt w5 q a d) => rspend_any w5 q a d h z hzb2 b1 b2 ht)
      generalize hE : spE a d z = E at *
      generalize hD : spC a d z = D at *
      have HE := Lib.hid hE
      have HD := Lib.hid hD
      clear hE hD
      have v1 : IntKind.i64.wrap (a - D) = a - D := IntWalk.i64_in _ (by omega)
      go_wp2_with fail
      refine wp_region_any (by kernel_rfl) ?_
      change wpAny _ _ _ _ _ _ _ (World.drew _)
      refine wpAny_move 0 rfl rfl (by kernel_rfl) (by kernel_rfl) (by kernel_rfl) (by kernel_rfl) (fun _ _ _ _ h => h) ?_
      refine wpAny_move 1 rfl rfl (by kernel_rfl) (by kernel_rfl) (by kernel_rfl) (by kernel_rfl) (fun _ _ _ _ h => h) ?_
      refine wpAny_move 3 rfl rfl (by kernel_rfl) (by kernel_rfl) (by kernel_rfl) (by kernel_rfl) (fun _ _ _ _ h => h) ?_
      refine wpAny_move 4 rfl rfl (by kernel_rfl) (by kernel_rfl) (by kernel_rfl) (by kernel_rfl) (fun _ _ _ _ h => h) ?_
      refine wpAny_only 2 rfl (by kernel_rfl) (fun K hK => ?_)
      go_simp
      go_at_call 11
      refine C1.out.mono ?_
      rintro e w5 ⟨rfl, h5, g5⟩
      have H5 := Lib.hid h5
      have C3 := Lib.hid (C2.out w5 (R2.out.grew g5 (by have := R3.out; simp; omega)))
      have G5 := Lib.hid (grew_own R6.out g5 R4.out)
      clear h5 g5
      go_simp
      refine hK _ _ ?_
      clear hK K
      refine wpAny_only 5 rfl (by kernel_rfl) (fun K hK => ?_)
      go_simp
      go_at_call 12
      refine C3.out.mono ?_
      rintro e w6 ⟨rfl, h6, g6⟩
      have h7 := H5.out.grew g6 (by have := R3.out; simp; omega)
      have C4 := Lib.hid (fun j => tcount_any (w6.drewN j) p a D (h7.drewN j))
      have C5 := Lib.hid (fun j => tleft_any (w6.drewN j) p a D (h7.drewN j))
      have hcm : w6.cell? ⟨q, 1, none⟩ = some (.int .i64 D) := h6.cell 1
      have HREL := Lib.hid (show ∀ j, SpRel w (w6.drewN j) p q a D from fun j => ⟨h7.drewN j, h6.grew (grew_drewN (grew_refl w6 none) j) (by simp), R3.out, R4.out, R5.out, grew_drewN (grew_own G5.out g6 R5.out) j⟩)
      clear h6 h7 g6
      go_simp
      refine hK _ _ ?_
      clear hK K
      refine wpAny_rest 6 (by kernel_rfl) rfl rfl (by kernel_rfl) ?_
      simp only [List.drop_succ_cons, List.drop_zero]
      repeat (go_big_quiet_step (first | (go_at_call 13; exact quiet_same (C4.out _)) | (go_at_call 14; exact Calls.quiet_of (C5.out _))))
      refine wpQuiet_nil ?_
      rintro _ ⟨nq, rfl⟩
      go_wp2_with fail
      go_roundw
      case rel => exact ⟨k + 1, D, by omega, by go_num, Lib.hid (HREL.out _)⟩
      case measure => simp [intOf]; omega
    · obtain ⟨_, _, _, _, _, r6⟩ := R.out
      clear R
      go_wp2_with fail
      go_ret
      exact ⟨rfl, grew_below r6 (Nat.le_refl _) (fun _ h => by cases h)⟩

theorem tallySpends_walk (w : World) (a : Int) (ha : (Lit.int .i64 a).wf = true) (A : Option Addr) (c : Nat) (zs : List Int) (hl : zs.length ≤ c) (hc : c ≤ 140737488351232) (hz : Nums w A zs) (hw : ∀ z ∈ zs, (Lit.int .i64 z).wf = true) :
    Calls Try.prog 3 #[.int .i64 a, .slice A zs.length c] w fun e w' => e = .returned (.bool true) ∧ Below w.heap.size w w' := by
  obtain ⟨_, h2⟩ := i64_bounds ha
  by_cases h : a < 0
  · exact tallySpends_neg w a h A c zs hl hc
  · exact tallySpends_pos w a (by omega) h2 A c zs hl hc hz hw

set_option maxRecDepth 100000 in
theorem tallySpends_lifted (os : Os) (started : os.Started) (H : Type) (enc : TypeId × Value → H) :
    ReturnsInHanded {} Try.checked os 3 .any (Rows.tallySpendsSpec.pre6 enc Try.prog Try.f3 Rows.tallySpendsRow.domain false) (Rows.tallySpendsSpec.post enc Try.prog Try.f3 false true false false) := by
  refine returnsInHanded_of_change_sized (C := Try.checked) own started (by kernel_rfl) Try.func3
    (ChangeSpec.witness6 (enc := enc) (C := Try.checked) false ⟨#[], #[.int .i64 0, .slice none 0 0], []⟩ 8 (by kernel_rfl) (by kernel_rfl) (by kernel_rfl) (by kernel_rfl)) ?_
  intro W base args ds gs before hval0 hW hcnd hsz0 _
  have hval : ∀ (j : Nat) t v, Try.f3.params[j]? = some t → args[j]? = some v → Value.okWide Try.prog W .any base t v := hval0
  have hsz : (DataW.weightsEach Try.prog (Try.f3.params.toList ++ Rows.tallySpendsSpec.plain.varTypes Try.prog) (ds ++ gs)).all (· ≤ reachBytes) = true := hsz0
  have hW' := hW
  obtain ⟨p, q, hA0, hV, rfl, hfz, hnd⟩ := hW
  have hA : DataW.TrodAll enc Try.prog W 0 (fun _ => true) true Try.f3.params.toList args.toList ds p := hA0
  rw [Try.params3] at hA hval hsz
  obtain ⟨v0, vs0, d0, ds0, p0, q0, hargs, rfl, rfl, h0, r0⟩ := trodAll_cons hA
  obtain ⟨v1, vs1, d1, ds1, p1, q1, rfl, rfl, rfl, h1, r1⟩ := trodAll_cons r0
  obtain ⟨rfl, rfl, rfl⟩ := trodAll_nil r1
  obtain rfl : args = #[v0, v1] := by cases args; simp_all
  obtain ⟨rfl, rfl⟩ := trodVars_none hV
  obtain ⟨a0, rfl, rfl, rfl, w0⟩ := open_int Try.underlying3 (hval 0 3 v0 rfl rfl) h0
  have k1 := h1
  have lt1 : ∀ x ∈ p1, x.block < W.heap.size := by obtain ⟨m, hm⟩ := k1; exact DataW.trod_lt m _ _ _ hm
  obtain ⟨A1, c1, x1, rfl, l1, m1, b1, w1⟩ := arg_ints (hval 1 22 v1 rfl rfl) h1 hsz (j := 1) rfl rfl
  clear hA0 hval0 hsz0
  refine (tallySpends_walk W a0 w0 A1 c1 x1 l1 m1 b1 w1).mono fun e W' ⟨he, bel⟩ => ?_
  subst he
  exact ⟨_, rfl, _, _, _, [], _, [], hW', trodAll_mk1 (shut_bool Try.underlying4 _), (trodAll_cons_mk (shut_int Try.underlying3 w0) (trodAll_cons_mk (Below.trod laidOut (by kernel_rfl) (of_decide_eq_true (by kernel_rfl)) k1 bel lt1) trodAll_mk0)), rfl, bel.frame _, fun h => by cases h⟩

theorem tallySpends_over : Rows.tallySpendsRow.holds Try.pinned (OpenSpec.ofChange Rows.tallySpendsSpec) :=
  OpenClaim.holds_of_wide 3 Try.f3 rfl rfl rfl rfl rfl rfl rfl ⟨rfl, rfl, rfl, rfl, rfl⟩ rfl rfl rfl rfl rfl (by kernel_rfl) Try.func3 (by kernel_rfl)
    (of_decide_eq_true (by kernel_rfl)) (by unfold Func.isWrapper; first | (rw [if_pos (by decide +kernel)]; kernel_rfl) | (rw [if_neg (by decide +kernel)]; exact ⟨rfl, rfl⟩))
    (fun os started H enc _ => tallySpends_lifted os started H enc)

theorem tallySpends_holds : Rows.TallySpendsSaid := tallySpends_over
#print axioms tallySpends_holds
end Go.Proofs.Ytooiejfabnaljaa

