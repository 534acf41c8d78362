/- A sub-cursor of a sub-cursor tells the places of the whole: for every bytes and every two numbers the law returns true, and all read as they did. No condition. -/
import Derived.Test.YthdgfhjehijmoaaCr
import Derived.Test.YthdgfhjehijmoaaOpen
namespace Go.Proofs.Ythdgfhjehijmoaa
open Go.ChangeShapes Go.WideShapes Go.ChangeAt Go.RowKit

theorem tmod_small (n : Int) (m : Nat) : ∃ r : Nat, (IntKind.u64.wrap n).tmod ((m : Int) + 1) = r ∧ r ≤ m := by
  have h0 : 0 ≤ IntKind.u64.wrap n := by rw [IntKind.wrap_u64]; omega
  obtain ⟨x, hx⟩ := Int.eq_ofNat_of_zero_le h0
  refine ⟨x % (m + 1), ?_, ?_⟩
  · rw [hx]
    rfl
  · have := Nat.mod_lt x (y := m + 1) (by omega)
    omega

set_option maxRecDepth 100000 in
set_option maxHeartbeats 2000000 in
theorem cursorSubs_walk (w : World) (A : Option Addr) (c : Nat) (xs : List UInt8) (hl : xs.length ≤ c) (hc : c ≤ 140737488351232) (hb : Byt w w.heap.size A xs) (n : Int) (_ : (Lit.int .i64 n).wf = true) (k : Int) (_ : (Lit.int .i64 k).wf = true) :
    Calls Try.prog 7 #[.slice A xs.length c, .int .i64 n, .int .i64 k] w fun e w' => e = .returned (.bool true) ∧ Below w.heap.size w w' := by
  have Hb := Lib.hid hb
  clear hb
  obtain ⟨N, hN, hNl⟩ := tmod_small n xs.length
  obtain ⟨K, hK, hKl⟩ := tmod_small k N
  have HKl := Lib.hid hKl
  go_enter Try.func7, Try.ntmps7
  go_wp2_with fail
  clear hN hK
  refine (cr_new w A c xs 100 hl hc w.heap.size Hb.out (Nat.le_refl _) (by omega) (by omega)).mono ?_
  rintro e w1 ⟨rfl, h1, g1⟩
  have H1 := Lib.hid h1
  clear h1
  go_wp2_with fail
  refine (alive_any w1).mono ?_
  rintro e w2 ⟨rfl, g2⟩
  have H2 := Lib.hid (H1.out.grew g2 (by simp) (fun _ h => by cases h))
  have Hg := Lib.hid (grew_trans g1 g2)
  have Hb2 := Lib.hid (Hb.out.grew Hg.out (fun _ h => by cases h))
  clear g1 g2 H1
  generalize hp : w.heap.size = p at *
  have Hp := Lib.hid hp
  clear hp
  have hp2 := H2.out.lt
  go_wp2_with fail
  refine (cr_sub w2 p p xs 100 H2.out N hNl).mono ?_
  rintro e w3 ⟨rfl, h3, h3', g3, s3⟩
  have H3 := Lib.hid h3
  have H3' := Lib.hid h3'
  have Hg3 := Lib.hid (grew_own Hg.out g3 (by have := Hp.out; omega))
  have Hb3 := Lib.hid (Hb2.out.grew g3 (fun _ h => by cases h; exact Nat.le_refl _))
  clear h3 h3' g3
  generalize w2.heap.size = q at *
  go_wp2_with fail
  refine (cr_at w3 p p _ _ H3.out).mono ?_
  rintro e w4 ⟨rfl, rfl⟩
  go_wp2_with fail
  refine (cr_end w3 q p _ _ H3'.out).mono ?_
  rintro e w4 ⟨rfl, m, rfl⟩
  rw [List.length_take, Nat.min_eq_left hNl]
  go_wp2_with fail
  refine (cr_at (w3.drewN m) p p _ _ H3.out).mono ?_
  rintro e w4 ⟨rfl, rfl⟩
  have hKl := HKl.out
  have e3 : (List.take N xs).length = N := by rw [List.length_take]; omega
  have hct := cr_take (w3.drewN m) q p _ _ (H3'.out.drewN m) (N - K) (by rw [e3]; omega)
  rw [show ((N - K : Nat) : Int) = (N : Int) - (K : Int) from by omega] at hct
  have Hct := Lib.hid hct
  have E3 := Lib.hid e3
  clear hct e3
  go_wp2_with fail
  refine Hct.out.mono ?_
  clear Hct
  rintro e w5 ⟨rfl, h5, _, g5, s5⟩
  have H5 := Lib.hid h5
  have H5' := Lib.hid ((H3.out.drewN m).grew g5 (by simp; omega) (fun _ h => by cases h; omega))
  have Hg5 := Lib.hid (grew_own (grew_drewN Hg3.out m) g5 (by have := Hp.out; omega))
  have Hb5 := Lib.hid (Byt.grew (w := w3.drewN m) Hb3.out g5 (fun _ h => by cases h; omega))
  have hq5 := h5.lt
  clear h5 g5 s5
  have e5 : ((xs.take N).drop (N - K)).length = K := by rw [List.length_drop, E3.out]; omega
  have hcs := cr_sub w5 q p _ _ H5.out K (by rw [e5]; omega)
  have e6 : (100 + ((N : Int) - (K : Int)) + (K : Int)) = 100 + N := by omega
  have e7 : (100 + ((N : Int) - (K : Int))) = 100 + N - K := by omega
  rw [e6, e7] at hcs
  have Hcs := Lib.hid hcs
  have E5 := Lib.hid e5
  clear hcs e5 e6 e7
  go_wp2_with fail
  refine Hcs.out.mono ?_
  clear Hcs
  rintro e w6 ⟨rfl, h6, h6', g6, s6⟩
  have H6 := Lib.hid h6
  have H6' := Lib.hid h6'
  have H6'' := Lib.hid (H5'.out.grew g6 (by simp; omega) (fun _ h => by cases h; omega))
  have Hg6 := Lib.hid (grew_own Hg5.out g6 (by have := Hp.out; omega))
  have Hb6 := Lib.hid (Hb5.out.grew g6 (fun _ h => by cases h; omega))
  clear h6 h6' g6 H5' Hb5 Hg5 H5
  generalize w5.heap.size = r at *
  have hv : (xs.take N).drop (N - K) = (xs.drop (N - K)).take K := by
    rw [List.drop_take]
    congr 1
    omega
  have h6 := H6.out
  have h6' := H6'.out
  have e8 : List.drop K ((xs.take N).drop (N - K)) = [] := List.drop_eq_nil_of_le (by rw [E5.out]; omega)
  have e9 : List.take K ((xs.take N).drop (N - K)) = (xs.drop (N - K)).take K := by rw [List.take_of_length_le (by rw [E5.out]; omega), hv]
  have e10 : ((xs.drop (N - K)).take K).length = K := by rw [List.length_take, List.length_drop]; omega
  rw [e8] at h6
  rw [e9] at h6'
  have hce := cr_end w6 r p _ _ h6'
  have H7 := Lib.hid h6
  have H7' := Lib.hid h6'
  rw [e10, show (100 + (N : Int) - K + K) = 100 + N from by omega] at hce
  have Hce := Lib.hid hce
  have E10 := Lib.hid e10
  clear h6 h6' hce e8 e9 hv H6 H6' e10
  go_wp2_with fail
  refine (cr_at w6 r p _ _ H7'.out).mono ?_
  rintro e w7 ⟨rfl, rfl⟩
  go_wp2_with fail
  refine Hce.out.mono ?_
  clear Hce
  rintro e w7 ⟨rfl, m2, rfl⟩
  go_wp2_with fail
  refine (cr_left (w6.drewN m2) q p [] _ H7.out).mono ?_
  rintro e w7 ⟨rfl, rfl⟩
  go_wp2_with fail
  refine (cr_take (w6.drewN m2) r p _ _ H7'.out K (by rw [E10.out]; omega)).mono ?_
  rintro e w8 ⟨rfl, h8, b8, g8, s8⟩
  have e11 : List.drop K ((xs.drop (N - K)).take K) = [] := List.drop_eq_nil_of_le (by rw [E10.out]; omega)
  have e12 : List.take K ((xs.drop (N - K)).take K) = (xs.drop (N - K)).take K := List.take_of_length_le (by rw [E10.out]; omega)
  rw [e11] at h8
  rw [e12] at b8
  have H8 := Lib.hid h8
  have B8 := Lib.hid b8
  have H8' := Lib.hid ((H6''.out.drewN m2).grew g8 (by simp; omega) (fun _ h => by cases h; omega))
  have Hg8 := Lib.hid (grew_own (grew_drewN Hg6.out m2) g8 (by have := Hp.out; omega))
  have Hb8 := Lib.hid (Byt.grew (w := w6.drewN m2) Hb6.out g8 (fun _ h => by cases h; omega))
  clear h8 b8 g8 e11 e12
  simp only [World.heap_drewN] at *
  generalize w6.heap.size = t at *
  go_wp2_with fail
  refine (cr_number_short w8 r p [] _ H8.out 1 (by unfold sizeOk; omega) (by simp)).mono ?_
  rintro e w9 ⟨rfl, rfl⟩
  go_wp2_with fail
  have hY : Byt w8 p (cutAt A c (N - K)) ((xs.drop (N - K)).take K) := (Hb8.out.drop hl).take K
  have q1 : ∀ m, (convert 22 9 (.slice (some ⟨t, 0, none⟩) K K)).run Try.prog (w8.drewN m) = .ok (.string (txt ((xs.drop (N - K)).take K))) (w8.drewN m) :=
    fun m => conv_txt (w8.drewN m) Try.underlying22 Try.underlying5 Try.underlying9 (B := t + 1) B8.out E10.out.symm K
  have q2 : ∀ m, (convert 22 9 (.slice (cutAt A c (N - K)) K (c - (N - K)))).run Try.prog (w8.drewN m) = .ok (.string (txt ((xs.drop (N - K)).take K))) (w8.drewN m) :=
    fun m => conv_txt (w8.drewN m) Try.underlying22 Try.underlying5 Try.underlying9 (B := p) hY E10.out.symm _
  have q3 : ∀ W : World, (Instr.slice 22 (.slice A xs.length c) (some (.int .i64 ((N : Int) - K))) (some (.int .i64 N)) none).run Try.prog W = .ok (.slice (cutAt A c (N - K)) K (c - (N - K))) W := by
    intro W
    have := slice_run W A xs.length c (N - K) N (by omega) (by omega)
    rw [show ((N - K : Nat) : Int) = (N : Int) - (K : Int) from by omega, show N - (N - K) = K from by omega] at this
    exact this
  have q4 : IntKind.i64.wrap ((N : Int) - K) = (N : Int) - K := IntWalk.i64_in _ (by omega)
  have q5 : IntKind.i64.wrap ((xs.length : Int) - N) = (xs.length : Int) - N := IntWalk.i64_in _ (by omega)
  have e13 : (xs.drop N).length = xs.length - N := List.length_drop
  have hcl := fun m => cr_left (w8.drewN m) p p _ _ (H8'.out.drewN m)
  rw [e13, show ((xs.length - N : Nat) : Int) = (xs.length : Int) - N from by omega] at hcl
  have Hcl := Lib.hid hcl
  generalize txt ((xs.drop (N - K)).take K) = Y at *
  clear hcl hY e13
  go_quiet ((go_at_call 19; exact quiet_same (Hcl.out _)))
  go_wp2_with fail
  go_ret
  exact ⟨rfl, grew_below (grew_drewN Hg8.out _) (Nat.le_refl _) (fun _ h => by cases h)⟩

set_option maxRecDepth 100000 in
theorem cursorSubs_lifted (os : Os) (started : os.Started) (H : Type) (enc : TypeId × Value → H) :
    ReturnsInHanded {} Try.checked os 7 .any (Rows.cursorSubsSpec.pre6 enc Try.prog Try.f7 Rows.cursorSubsRow.domain false) (Rows.cursorSubsSpec.post enc Try.prog Try.f7 false true false false) := by
  refine returnsInHanded_of_change_sized (C := Try.checked) own started (by kernel_rfl) Try.func7
    (ChangeSpec.witness6 (enc := enc) (C := Try.checked) false ⟨#[], #[.slice none 0 0, .int .i64 0, .int .i64 0], []⟩ 8 (by kernel_rfl) (by kernel_rfl) (by kernel_rfl) (by kernel_rfl)) ?_
  intro W base args ds gs before hval0 hW hcnd hsz0 _
  have hval : ∀ (j : Nat) t v, Try.f7.params[j]? = some t → args[j]? = some v → Value.okWide Try.prog W .any base t v := hval0
  have hsz : (DataW.weightsEach Try.prog (Try.f7.params.toList ++ Rows.cursorSubsSpec.plain.varTypes Try.prog) (ds ++ gs)).all (· ≤ reachBytes) = true := hsz0
  have hW' := hW
  obtain ⟨p, q, hA0, hV, rfl, hfz, hnd⟩ := hW
  have hA : DataW.TrodAll enc Try.prog W 0 (fun _ => true) true Try.f7.params.toList args.toList ds p := hA0
  rw [Try.params7] at hA hval hsz
  obtain ⟨v0, vs0, d0, ds0, p0, q0, hargs, rfl, rfl, h0, r0⟩ := trodAll_cons hA
  obtain ⟨v1, vs1, d1, ds1, p1, q1, rfl, rfl, rfl, h1, r1⟩ := trodAll_cons r0
  obtain ⟨v2, vs2, d2, ds2, p2, q2, rfl, rfl, rfl, h2, r2⟩ := trodAll_cons r1
  obtain ⟨rfl, rfl, rfl⟩ := trodAll_nil r2
  obtain rfl : args = #[v0, v1, v2] := by cases args; simp_all
  obtain ⟨rfl, rfl⟩ := trodVars_none hV
  have k0 := h0
  have lt0 : ∀ x ∈ p0, x.block < W.heap.size := by obtain ⟨m, hm⟩ := k0; exact DataW.trod_lt m _ _ _ hm
  obtain ⟨A0, c0, x0, rfl, l0, m0, b0⟩ := arg_bytes (hval 0 22 v0 rfl rfl) h0 hsz (j := 0) rfl rfl
  obtain ⟨a1, rfl, rfl, rfl, w1⟩ := open_int Try.underlying3 (hval 1 3 v1 rfl rfl) h1
  obtain ⟨a2, rfl, rfl, rfl, w2⟩ := open_int Try.underlying3 (hval 2 3 v2 rfl rfl) h2
  clear hA0 hval0 hsz0
  refine (cursorSubs_walk W A0 c0 x0 l0 m0 b0 a1 w1 a2 w2).mono fun e W' ⟨he, bel⟩ => ?_
  subst he
  exact ⟨_, rfl, _, _, _, [], _, [], hW', trodAll_mk1 (shut_bool Try.underlying4 _), (trodAll_cons_mk (Below.trod laidOut (by kernel_rfl) (of_decide_eq_true (by kernel_rfl)) k0 bel lt0) (trodAll_cons_mk (shut_int Try.underlying3 w1) (trodAll_cons_mk (shut_int Try.underlying3 w2) trodAll_mk0))), rfl, bel.frame _, fun h => by cases h⟩

theorem cursorSubs_over : Rows.cursorSubsRow.holds Try.pinned (OpenSpec.ofChange Rows.cursorSubsSpec) :=
  OpenClaim.holds_of_wide 7 Try.f7 rfl rfl rfl rfl rfl rfl rfl ⟨rfl, rfl, rfl, rfl, rfl⟩ rfl rfl rfl rfl rfl (by kernel_rfl) Try.func7 (by kernel_rfl)
    (of_decide_eq_true (by kernel_rfl)) (by unfold Func.isWrapper; first | (rw [if_pos (by decide +kernel)]; kernel_rfl) | (rw [if_neg (by decide +kernel)]; exact ⟨rfl, rfl⟩))
    (fun os started H enc _ => cursorSubs_lifted os started H enc)

theorem cursorSubs_holds : Rows.CursorSubsSaid := cursorSubs_over
#print axioms cursorSubs_holds
end Go.Proofs.Ythdgfhjehijmoaa
