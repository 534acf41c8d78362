/- A value that is made has what it was made with, in its field, and nothing else: for every number, bytes and list of values the law returns true. No condition. -/
import Derived.Test.YtmdmfinpcbedcaaVal
import Derived.Test.YtmdmfinpcbedcaaRv
import Derived.Test.YtmdmfinpcbedcaaVg
import Derived.Test.YtmdmfinpcbedcaaOv
namespace Go.Proofs.Ytmdmfinpcbedcaa
open Go.ChangeShapes Go.WideShapes Go.ChangeAt Go.RowKit Va

theorem rsamevT (w : World) (a b : Va) (ha : a.In w) (hb : b.In w) (h : same a b = true) :
    Calls Try.prog 12 #[a.val, b.val] w fun e w' => e = .returned (.bool true) ∧ Grew w w' none := by
  have := rsamev_any a b w ha hb
  rw [h] at this
  exact this

set_option maxRecDepth 100000 in
set_option maxHeartbeats 2000000 in
theorem valueMakes_walk (w : World) (x : Int) (hx : (Lit.int .u64 x).wf = true) (B : Option Addr) (d : Nat) (bs : List UInt8) (hbl : bs.length ≤ d) (hbm : d ≤ 140737488351232) (hb : Byt w w.heap.size B bs)
    (A : Option Addr) (c : Nat) (ls : List Va) (hll : ls.length ≤ c) (hlm : c ≤ 2513169434843) (hl : Va.Lie w A ls) (hp : ∀ p ∈ ls, p.In w) :
    Calls Try.prog 4 #[.int .u64 x, .slice B bs.length d, .slice A ls.length c] w fun e w' => e = .returned (.bool true) ∧ Below w.heap.size w w' := by
  have hxb := bounds_u64 hx
  clear hx
  have HX := Lib.hid hxb
  have HB := Lib.hid hb
  have HL := Lib.hid hl
  have HP := Lib.hid hp
  have HIB := Lib.hid (show Va.In w (.mk 0 B d bs none 0 []) from .mk (by omega) hb ⟨hbl, by omega⟩ (by simp) (by simp) (Va.Lie.nil _ _) (fun p hp => by simp at hp))
  have HIL := Lib.hid (show Va.In w (.mk 0 none 0 [] A c ls) from .mk (by omega) (fun h => by simp at h) (by simp) hll (by omega) hl hp)
  clear hb hl hp hxb
  go_enter Try.func4, Try.ntmps4
  go_wp2_with fail
  refine (alive5_any w).mono ?_
  rintro e w1 ⟨rfl, g1⟩
  have G1 := Lib.hid g1
  clear g1
  go_wp2_with fail
  refine (vgreat_any w1 (.mk 0 0 0 0 0 none 0 []) A c ls (plain_in w1 0 0 0 0 0) (HL.out.grew G1.out) (fun v hv => (HP.out v hv).grew G1.out) (by omega)).mono ?_
  rintro e w2 ⟨r, rfl, r0, r1, g2⟩
  have G2 := Lib.hid (grew_trans G1.out g2)
  clear g2 G1
  by_cases hr : 0 < r
  · go_wp2_with fail
    refine (alive5_any w2).mono ?_
    rintro e w3 ⟨rfl, g3⟩
    go_wp2_with fail
    go_ret
    exact ⟨rfl, grew_below (grew_trans G2.out g3) (Nat.le_refl _) (fun _ h => by cases h)⟩
  · by_cases h50 : 50 < ls.length
    · go_wp2_with fail
      refine (alive5_any w2).mono ?_
      rintro e w3 ⟨rfl, g3⟩
      go_wp2_with fail
      go_ret
      exact ⟨rfl, grew_below (grew_trans G2.out g3) (Nat.le_refl _) (fun _ h => by cases h)⟩
    · by_cases h1000 : 1000 < bs.length
      · go_wp2_with fail
        refine (alive5_any w2).mono ?_
        rintro e w3 ⟨rfl, g3⟩
        go_wp2_with fail
        go_ret
        exact ⟨rfl, grew_below (grew_trans G2.out g3) (Nat.le_refl _) (fun _ h => by cases h)⟩
      · go_wp2_with fail
        refine (vnumber_any w2 x).mono ?_
        rintro e w3 ⟨rfl, g3⟩
        have G3 := Lib.hid (grew_trans G2.out g3)
        clear g3 G2
        rw [vval_eq]
        simp only [Va.n, Va.B, Va.d, Va.bs, Va.A, Va.c, Va.ls, List.length_nil]
        go_wp2_with fail
        refine (rsamevT w3 (.mk x none 0 [] none 0 []) (.mk x none 0 [] none 0 []) (plainN_in w3 HX.out) (plainN_in w3 HX.out) (samev_refl _)).mono ?_
        rintro e w4 ⟨rfl, g4⟩
        have G4 := Lib.hid (grew_trans G3.out g4)
        clear g4 G3
        go_wp2_with fail
        refine (vbytes_any w4 B d bs ((HB.out.grew G4.out (fun _ h => by cases h)).more G4.out.size) (by omega)).mono ?_
        rintro e w5 ⟨B5, d5, rfl, i5, g5⟩
        have G5 := Lib.hid (grew_trans G4.out g5)
        have I5 := Lib.hid i5
        clear g5 i5 G4
        rw [vval_eq]
        simp only [Va.n, Va.B, Va.d, Va.bs, Va.A, Va.c, Va.ls, List.length_nil]
        go_wp2_with fail
        refine (rsamevT w5 (.mk 0 B5 d5 bs none 0 []) (.mk 0 B d bs none 0 []) I5.out (HIB.out.grew G5.out) (samev_self _ _ _ _ _ _ _ _ _ _ _)).mono ?_
        rintro e w6 ⟨rfl, g6⟩
        have G6 := Lib.hid (grew_trans G5.out g6)
        clear g6 G5
        go_wp2_with fail
        refine (vlist_any w6 A c ls (HL.out.grew G6.out) (fun v hv => (HP.out v hv).grew G6.out) (by omega)).mono ?_
        rintro e w7 ⟨A7, c7, rfl, i7, g7⟩
        have G7 := Lib.hid (grew_trans G6.out g7)
        have I7 := Lib.hid i7
        clear g7 i7 G6
        rw [vval_eq]
        simp only [Va.n, Va.B, Va.d, Va.bs, Va.A, Va.c, Va.ls, List.length_nil]
        go_wp2_with fail
        refine (rsamevT w7 (.mk 0 none 0 [] A7 c7 ls) (.mk 0 none 0 [] A c ls) I7.out (HIL.out.grew G7.out) (samev_self _ _ _ _ _ _ _ _ _ _ _)).mono ?_
        rintro e w8 ⟨rfl, g8⟩
        have G8 := Lib.hid (grew_trans G7.out g8)
        clear g8 G7
        go_wp2_with fail
        go_ret
        exact ⟨rfl, grew_below G8.out (Nat.le_refl _) (fun _ h => by cases h)⟩

set_option maxRecDepth 100000 in
theorem valueMakes_lifted (os : Os) (started : os.Started) (H : Type) (enc : TypeId × Value → H) :
    ReturnsInHanded {} Try.checked os 4 .any (Rows.valueMakesSpec.pre6 enc Try.prog Try.f4 Rows.valueMakesRow.domain false) (Rows.valueMakesSpec.post enc Try.prog Try.f4 false true false false) := by
  refine returnsInHanded_of_change_sized (C := Try.checked) own started (by kernel_rfl) Try.func4
    (ChangeSpec.witness6 (enc := enc) (C := Try.checked) false ⟨#[], #[.int .u64 0, .slice none 0 0, .slice none 0 0], []⟩ 8 (by kernel_rfl) (by kernel_rfl) (by kernel_rfl) (by kernel_rfl)) ?_
  intro W base args ds gs before hval0 hW hcnd hsz0 _
  have hval : ∀ (j : Nat) t v, Try.f4.params[j]? = some t → args[j]? = some v → Value.okWide Try.prog W .any base t v := hval0
  have hsz : (DataW.weightsEach Try.prog (Try.f4.params.toList ++ Rows.valueMakesSpec.plain.varTypes Try.prog) (ds ++ gs)).all (· ≤ reachBytes) = true := hsz0
  have hW' := hW
  obtain ⟨p, q, hA0, hV, rfl, hfz, hnd⟩ := hW
  have hA : DataW.TrodAll enc Try.prog W 0 (fun _ => true) true Try.f4.params.toList args.toList ds p := hA0
  rw [Try.params4] at hA hval hsz
  obtain ⟨v0, vs0, d0, ds0, p0, q0, hargs, rfl, rfl, h0, r0⟩ := trodAll_cons hA
  obtain ⟨v1, vs1, d1, ds1, p1, q1, rfl, rfl, rfl, h1, r1⟩ := trodAll_cons r0
  obtain ⟨v2, vs2, d2, ds2, p2, q2, rfl, rfl, rfl, h2, r2⟩ := trodAll_cons r1
  obtain ⟨rfl, rfl, rfl⟩ := trodAll_nil r2
  obtain rfl : args = #[v0, v1, v2] := by cases args; simp_all
  obtain ⟨rfl, rfl⟩ := trodVars_none hV
  obtain ⟨a0, rfl, rfl, rfl, w0⟩ := open_int Try.underlying22 (hval 0 22 v0 rfl rfl) h0
  have k1 := h1
  have lt1 : ∀ x ∈ p1, x.block < W.heap.size := by obtain ⟨m, hm⟩ := k1; exact DataW.trod_lt m _ _ _ hm
  obtain ⟨A1, c1, x1, rfl, l1, m1, b1⟩ := arg_bytes (hval 1 23 v1 rfl rfl) h1 hsz (j := 1) rfl rfl
  have k2 := h2
  have lt2 : ∀ x ∈ p2, x.block < W.heap.size := by obtain ⟨m, hm⟩ := k2; exact DataW.trod_lt m _ _ _ hm
  obtain ⟨A2, c2, x2, rfl, l2, m2, b2, w2⟩ := arg_values (hval 2 24 v2 rfl rfl) h2 hsz (j := 2) rfl rfl
  clear hA0 hval0 hsz0
  refine (valueMakes_walk W a0 w0 A1 c1 x1 l1 m1 b1 A2 c2 x2 l2 m2 b2 w2).mono fun e W' ⟨he, bel⟩ => ?_
  subst he
  exact ⟨_, rfl, _, _, _, [], _, [], hW', trodAll_mk1 (shut_bool Try.underlying4 _), (trodAll_cons_mk (shut_int Try.underlying22 w0) (trodAll_cons_mk (Below.trod laidOut (by kernel_rfl) (of_decide_eq_true (by kernel_rfl)) k1 bel lt1) (trodAll_cons_mk (Below.trod laidOut (by kernel_rfl) (of_decide_eq_true (by kernel_rfl)) k2 bel lt2) trodAll_mk0))), rfl, bel.frame _, fun h => by cases h⟩

theorem valueMakes_over : Rows.valueMakesRow.holds Try.pinned (OpenSpec.ofChange Rows.valueMakesSpec) :=
  OpenClaim.holds_of_wide 4 Try.f4 rfl rfl rfl rfl rfl rfl rfl ⟨rfl, rfl, rfl, rfl, rfl⟩ rfl rfl rfl rfl rfl (by kernel_rfl) Try.func4 (by kernel_rfl)
    (of_decide_eq_true (by kernel_rfl)) (by unfold Func.isWrapper; first | (rw [if_pos (by decide +kernel)]; kernel_rfl) | (rw [if_neg (by decide +kernel)]; exact ⟨rfl, rfl⟩))
    (fun os started H enc _ => valueMakes_lifted os started H enc)

theorem valueMakes_holds : Rows.ValueMakesSaid := valueMakes_over
#print axioms valueMakes_holds
end Go.Proofs.Ytmdmfinpcbedcaa

