/- The statements' own example. -/
import Derived.Test.YtmdmfinpcbedcaaLin
namespace Go.Proofs.Ytmdmfinpcbedcaa
open Go.RowKit Va

/-- The example's form. -/
def exF (qp : Nat) : Fo := .mk 2 1 2 4 2 (some ⟨qp, 0, none⟩) 1 [.mk 0 1 0 0 0 none 0 []]
/-- A list of numbers. -/
def exV (A : Option Addr) (c : Nat) (xs : List Int) : Va := .mk 0 none 0 [] A c (xs.map (fun x => .mk x none 0 [] none 0 []))
theorem ex5_ok (qp : Nat) (A : Option Addr) (c : Nat) : meas (exF qp) (exV A c [5, 6]) = (3, 0) := by kernel_rfl
theorem ex5_long (qp : Nat) (A : Option Addr) (c : Nat) : meas (exF qp) (exV A c [5, 6, 7]) = (0, 5) := by kernel_rfl
theorem ex5_big (qp : Nat) (A : Option Addr) (c : Nat) : meas (exF qp) (exV A c [5, 256]) = (0, 3) := by kernel_rfl
theorem exF_in (w : World) (qp : Nat) (h : Whole w qp #[.int .i64 0, .int .i64 1, .int .i64 0, .int .i64 0, .int .i64 0, .slice none 0 0] 31) : (exF qp).In w :=
  .mk (by simp) (by simp) (Fo.Lie.whole h rfl) (fun p hp => by rw [List.mem_singleton] at hp; subst hp; exact plain_in w 0 1 0 0 0)
theorem nums_in (w : World) {xs : List Int} (h : ∀ x ∈ xs, 0 ≤ x ∧ x ≤ 18446744073709551615) : ∀ p ∈ xs.map (fun x => Va.mk x none 0 [] none 0 []), p.In w := by
  intro p hp
  obtain ⟨x, hx, rfl⟩ := List.mem_map.1 hp
  exact plainN_in w (h x hx)

theorem fitsE (w : World) (f : Fo) (v : Va) (hf : f.In w) (hv : v.In w) {e : Int} (he : (meas f v).2 = e) : Calls Try.prog 19 #[f.val, v.val] w fun e' w' => e' = .returned (.int .i64 e) ∧ Grew w w' none := he ▸ fits_any w f v hf hv
theorem sizeE (w : World) (f : Fo) (v : Va) (hf : f.In w) (hv : v.In w) {e : Int} (he : (meas f v).1 = e) : Calls Try.prog 18 #[f.val, v.val] w fun e' w' => e' = .returned (.int .i64 e) ∧ Grew w w' none := he ▸ sizes_any w f v hf hv

set_option maxRecDepth 100000 in
set_option maxHeartbeats 2000000 in
theorem alive5_any (w : World) :
    Calls Try.prog 9 #[] w fun e w' => e = .returned (.bool true) ∧ Grew w w' none := by
  go_enter Try.func9, Try.ntmps9
  go_wp2_with fail
  have hg := grew_alloc (grew_alloc (grew_refl w none) (.cells #[.int .i64 0, .int .i64 1, .int .i64 0, .int .i64 0, .int .i64 0, .slice none 0 0] 31)) (.cells #[.int .i64 2, .int .i64 1, .int .i64 2, .int .i64 4, .int .i64 2, .slice (some ⟨w.heap.size, 0, none⟩) 1 1] 31)
  have hn := (Whole.new w #[.int .i64 0, .int .i64 1, .int .i64 0, .int .i64 0, .int .i64 0, .slice none 0 0] 31).grew (grew_alloc (grew_refl _ none) (.cells #[.int .i64 2, .int .i64 1, .int .i64 2, .int .i64 4, .int .i64 2, .slice (some ⟨w.heap.size, 0, none⟩) 1 1] 31)) (by simp)
  have hf := Whole.new_at (w.alloc (.cells #[.int .i64 0, .int .i64 1, .int .i64 0, .int .i64 0, .int .i64 0, .slice none 0 0] 31)) #[.int .i64 2, .int .i64 1, .int .i64 2, .int .i64 4, .int .i64 2, .slice (some ⟨w.heap.size, 0, none⟩) 1 1] 31 (p := w.heap.size + 1) (by simp)
  generalize (w.alloc (.cells #[.int .i64 0, .int .i64 1, .int .i64 0, .int .i64 0, .int .i64 0, .slice none 0 0] 31)).alloc (.cells #[.int .i64 2, .int .i64 1, .int .i64 2, .int .i64 4, .int .i64 2, .slice (some ⟨w.heap.size, 0, none⟩) 1 1] 31) = W2 at *
  generalize w.heap.size + 1 = qf at *
  generalize w.heap.size = qp at *
  have HG := Lib.hid hg
  have HN := Lib.hid (exF_in W2 qp hn)
  have HF := Lib.hid (show Whole W2 qf (exF qp).cells 31 from hf)
  clear hg hn hf
  refine (vnumber_any W2 5).mono ?_
  rintro e w3 ⟨rfl, g3⟩
  have HG3 := Lib.hid (grew_trans HG.out g3)
  have HN3 := Lib.hid (HN.out.grew g3)
  have HF3 := Lib.hid (HF.out.grew g3 (by simp))
  clear HG HN HF g3
  go_wp2_with fail
  refine (vnumber_any w3 6).mono ?_
  rintro e w4 ⟨rfl, g4⟩
  have HG4 := Lib.hid (grew_trans HG3.out g4)
  have HN4 := Lib.hid (HN3.out.grew g4)
  have HF4 := Lib.hid (HF3.out.grew g4 (by simp))
  clear HG3 HN3 HF3 g4
  rw [vval_eq, vval_eq]
  simp only [Va.n, Va.B, Va.d, Va.bs, Va.A, Va.c, Va.ls, List.length_nil]
  go_wp2_with fail
  have hl := Va.Lie.whole (Whole.new w4 #[.int .u64 5, .slice none 0 0, .slice none 0 0, .int .u64 6, .slice none 0 0, .slice none 0 0] 26) (ps := [.mk 5 none 0 [] none 0 [], .mk 6 none 0 [] none 0 []]) rfl
  have hg := grew_alloc (grew_refl w4 none) (.cells #[.int .u64 5, .slice none 0 0, .slice none 0 0, .int .u64 6, .slice none 0 0, .slice none 0 0] 26)
  generalize w4.alloc (.cells #[.int .u64 5, .slice none 0 0, .slice none 0 0, .int .u64 6, .slice none 0 0, .slice none 0 0] 26) = W5 at *
  generalize w4.heap.size = ql at *
  refine (vlist_any W5 (some ⟨ql, 0, none⟩) 2 [.mk 5 none 0 [] none 0 [], .mk 6 none 0 [] none 0 []] hl (nums_in W5 (xs := [5, 6]) (by simp)) (by simp)).mono ?_
  rintro e w6 ⟨R6, c6, rfl, h6, g6⟩
  have HG6 := Lib.hid (grew_trans HG4.out (grew_trans hg g6))
  have HN6 := Lib.hid (HN4.out.grew (grew_trans hg g6))
  have HF6 := Lib.hid (HF4.out.grew (grew_trans hg g6) (by simp))
  have HV6 := Lib.hid (show (exV R6 c6 [5, 6]).In w6 from h6)
  clear HG4 HN4 HF4 hg g6 h6 hl
  rw [vval_eq]
  simp only [Va.n, Va.B, Va.d, Va.bs, Va.A, Va.c, Va.ls, List.length_nil, List.length_cons]
  go_wp2_with fail
  have hv := Whole.new w6 (exV R6 c6 [5, 6]).cells 26
  have hg := grew_alloc (grew_refl w6 none) (.cells (exV R6 c6 [5, 6]).cells 26)
  change Whole (w6.alloc (.cells #[.int .u64 0, .slice none 0 0, .slice R6 2 c6] 26)) _ _ _ at hv
  change Grew _ (w6.alloc (.cells #[.int .u64 0, .slice none 0 0, .slice R6 2 c6] 26)) _ at hg
  generalize w6.alloc (.cells #[.int .u64 0, .slice none 0 0, .slice R6 2 c6] 26) = W at *
  generalize w6.heap.size = qv at *
  have HG := Lib.hid (grew_trans HG6.out hg)
  have HF := Lib.hid (HF6.out.grew hg (by simp))
  have HV := Lib.hid hv
  have HN := Lib.hid (HN6.out.grew hg)
  have HX := Lib.hid (HV6.out.grew hg)
  clear HG6 HN6 HF6 HV6 hg hv
  refine act_letterC (fun A1 hA1 => ?_)
  have d1 : A1.eval (.tmp 1) = .pointer (some ⟨qf, 0, none⟩) := by rw [← hA1]; rfl
  have d2 : A1.eval (.tmp 2) = .pointer (some ⟨qv, 0, none⟩) := by rw [← hA1]; rfl
  have szA1 : A1.tmps.size = 39 := by rw [← hA1]; rfl
  have HA1 := Lib.hid hA1
  clear hA1
  have G0 := Lib.hid (grew_drew (grew_refl W none))
  refine wp_region_held (S := fun w' => Grew W w' none) (by kernel_rfl) ?_
  change wpAnyH _ _ _ _ _ _ _ _ (World.drew W)
  refine wpAnyH_take (i := 0) (v := (exF qp).val) rfl (by kernel_rfl) (by kernel_rfl) (by kernel_rfl) (fun _ _ _ h => h) (.inl ⟨rfl, fun w g => run_form (f := (exF qp)) rfl d1 (HF.out.grew g (by simp))⟩) G0.out ?_
  refine act_letter (fun A2 hA2 => ?_)
  replace d1 : A2.eval (.tmp 1) = .pointer (some ⟨qf, 0, none⟩) := by rw [← hA2]; exact (ev_ne A1 (m := 10) (n := 1) ((exF qp).val) (by decide)).trans d1
  replace d2 : A2.eval (.tmp 2) = .pointer (some ⟨qv, 0, none⟩) := by rw [← hA2]; exact (ev_ne A1 (m := 10) (n := 2) ((exF qp).val) (by decide)).trans d2
  have e10 : A2.eval (.tmp 10) = (exF qp).val := by rw [← hA2]; exact ev_self A1 10 ((exF qp).val) (by omega)
  have szA2 : A2.tmps.size = 39 := by rw [← hA2]; exact (sz_put A1 10 ((exF qp).val)).trans szA1
  have HA2 := Lib.hid (show A1.put (some 10) ((exF qp).val) = A2 from hA2)
  clear hA2 szA1
  have d10 := e10
  clear e10
  refine wpAnyH_take (i := 1) (v := (exV R6 c6 [5, 6]).val) rfl (by kernel_rfl) (by kernel_rfl) (by kernel_rfl) (fun _ _ _ h => h) (.inl ⟨rfl, fun w g => run_value (v := (exV R6 c6 [5, 6])) rfl d2 (HV.out.grew g (by simp))⟩) G0.out ?_
  refine act_letter (fun A3 hA3 => ?_)
  replace d1 : A3.eval (.tmp 1) = .pointer (some ⟨qf, 0, none⟩) := by rw [← hA3]; exact (ev_ne A2 (m := 11) (n := 1) ((exV R6 c6 [5, 6]).val) (by decide)).trans d1
  replace d2 : A3.eval (.tmp 2) = .pointer (some ⟨qv, 0, none⟩) := by rw [← hA3]; exact (ev_ne A2 (m := 11) (n := 2) ((exV R6 c6 [5, 6]).val) (by decide)).trans d2
  replace d10 : A3.eval (.tmp 10) = (exF qp).val := by rw [← hA3]; exact (ev_ne A2 (m := 11) (n := 10) ((exV R6 c6 [5, 6]).val) (by decide)).trans d10
  have e11 : A3.eval (.tmp 11) = (exV R6 c6 [5, 6]).val := by rw [← hA3]; exact ev_self A2 11 ((exV R6 c6 [5, 6]).val) (by omega)
  have szA3 : A3.tmps.size = 39 := by rw [← hA3]; exact (sz_put A2 11 ((exV R6 c6 [5, 6]).val)).trans szA2
  have HA3 := Lib.hid (show A2.put (some 11) ((exV R6 c6 [5, 6]).val) = A3 from hA3)
  clear hA3 szA2
  have d11 := e11
  clear e11
  refine wpAnyH_ready (rs := [2]) (by kernel_rfl) (by simp) ?_
  refine AllReadyH.cons rfl (fun K hK => ?_) AllReadyH.nil
  refine wp_callG (vs := #[(exF qp).val, (exV R6 c6 [5, 6]).val]) rfl (rfl) enter_vfits (by simp [d10, d11]) ((fitsE _ (exF qp) (exV R6 c6 [5, 6]) (HN.out.grew G0.out) (HX.out.grew G0.out) (by rw [ex5_ok])).mono ?_)
  rintro e x1 ⟨rfl, g1⟩
  refine ⟨_, rfl, hK.out _ _ (grew_trans G0.out g1) (fun _ => ?_)⟩
  clear hK K
  have G1 := Lib.hid (grew_trans G0.out g1)
  clear g1 G0
  refine act_letter (fun A4 hA4 => ?_)
  replace d1 : A4.eval (.tmp 1) = .pointer (some ⟨qf, 0, none⟩) := by rw [← hA4]; exact (ev_ne A3 (m := 12) (n := 1) (.int .i64 0) (by decide)).trans d1
  replace d2 : A4.eval (.tmp 2) = .pointer (some ⟨qv, 0, none⟩) := by rw [← hA4]; exact (ev_ne A3 (m := 12) (n := 2) (.int .i64 0) (by decide)).trans d2
  have e12 : A4.eval (.tmp 12) = .int .i64 0 := by rw [← hA4]; exact ev_self A3 12 (.int .i64 0) (by omega)
  have szA4 : A4.tmps.size = 39 := by rw [← hA4]; exact (sz_put A3 12 (.int .i64 0)).trans szA3
  have HA4 := Lib.hid (show A3.put (some 12) (.int .i64 0) = A4 from hA4)
  clear hA4 szA3 d10 d11
  have d12 := e12
  clear e12
  refine wpAnyH_take (i := 3) (v := .bool true) rfl (by kernel_rfl) (by kernel_rfl) (by kernel_rfl) (fun _ _ _ h => h) (.inl ⟨rfl, fun w g => run_eql (b := 0) rfl d12 rfl w⟩) G1.out ?_
  refine act_letter (fun A5 hA5 => ?_)
  replace d1 : A5.eval (.tmp 1) = .pointer (some ⟨qf, 0, none⟩) := by rw [← hA5]; exact (ev_ne A4 (m := 13) (n := 1) (.bool true) (by decide)).trans d1
  replace d2 : A5.eval (.tmp 2) = .pointer (some ⟨qv, 0, none⟩) := by rw [← hA5]; exact (ev_ne A4 (m := 13) (n := 2) (.bool true) (by decide)).trans d2
  have e13 : A5.eval (.tmp 13) = .bool true := by rw [← hA5]; exact ev_self A4 13 (.bool true) (by omega)
  have szA5 : A5.tmps.size = 39 := by rw [← hA5]; exact (sz_put A4 13 (.bool true)).trans szA4
  have HA5 := Lib.hid (show A4.put (some 13) (.bool true) = A5 from hA5)
  clear hA5 szA4 d12
  have d13 := e13
  clear e13
  refine wpAnyH_take (i := 4) (v := .bool true) rfl (by kernel_rfl) (by kernel_rfl) (by kernel_rfl) (fun _ _ _ h => h) (.inl ⟨rfl, fun w g => run_moveV rfl d13 w⟩) G1.out ?_
  refine act_letter (fun A6 hA6 => ?_)
  replace d1 : A6.eval (.tmp 1) = .pointer (some ⟨qf, 0, none⟩) := by rw [← hA6]; exact (ev_ne A5 (m := 14) (n := 1) (.bool true) (by decide)).trans d1
  replace d2 : A6.eval (.tmp 2) = .pointer (some ⟨qv, 0, none⟩) := by rw [← hA6]; exact (ev_ne A5 (m := 14) (n := 2) (.bool true) (by decide)).trans d2
  have e14 : A6.eval (.tmp 14) = .bool true := by rw [← hA6]; exact ev_self A5 14 (.bool true) (by omega)
  have szA6 : A6.tmps.size = 39 := by rw [← hA6]; exact (sz_put A5 14 (.bool true)).trans szA5
  have HA6 := Lib.hid (show A5.put (some 14) (.bool true) = A6 from hA6)
  clear hA6 szA5 d13
  have d14 := e14
  clear e14
  refine wpAnyH_take (i := 5) (v := (exF qp).val) rfl (by kernel_rfl) (by kernel_rfl) (by kernel_rfl) (fun _ _ _ h => h) (.inl ⟨wanted_yes (j := 4) (d := 14) rfl rfl d14, fun w g => run_form (f := (exF qp)) rfl d1 (HF.out.grew g (by simp))⟩) G1.out ?_
  refine act_letter (fun A7 hA7 => ?_)
  replace d1 : A7.eval (.tmp 1) = .pointer (some ⟨qf, 0, none⟩) := by rw [← hA7]; exact (ev_ne A6 (m := 15) (n := 1) ((exF qp).val) (by decide)).trans d1
  replace d2 : A7.eval (.tmp 2) = .pointer (some ⟨qv, 0, none⟩) := by rw [← hA7]; exact (ev_ne A6 (m := 15) (n := 2) ((exF qp).val) (by decide)).trans d2
  replace d14 : A7.eval (.tmp 14) = .bool true := by rw [← hA7]; exact (ev_ne A6 (m := 15) (n := 14) ((exF qp).val) (by decide)).trans d14
  have e15 : A7.eval (.tmp 15) = (exF qp).val := by rw [← hA7]; exact ev_self A6 15 ((exF qp).val) (by omega)
  have szA7 : A7.tmps.size = 39 := by rw [← hA7]; exact (sz_put A6 15 ((exF qp).val)).trans szA6
  have HA7 := Lib.hid (show A6.put (some 15) ((exF qp).val) = A7 from hA7)
  clear hA7 szA6
  have d15 := e15
  clear e15
  refine wpAnyH_take (i := 6) (v := (exV R6 c6 [5, 6]).val) rfl (by kernel_rfl) (by kernel_rfl) (by kernel_rfl) (fun _ _ _ h => h) (.inl ⟨wanted_yes (j := 4) (d := 14) rfl rfl d14, fun w g => run_value (v := (exV R6 c6 [5, 6])) rfl d2 (HV.out.grew g (by simp))⟩) G1.out ?_
  refine act_letter (fun A8 hA8 => ?_)
  replace d1 : A8.eval (.tmp 1) = .pointer (some ⟨qf, 0, none⟩) := by rw [← hA8]; exact (ev_ne A7 (m := 16) (n := 1) ((exV R6 c6 [5, 6]).val) (by decide)).trans d1
  replace d2 : A8.eval (.tmp 2) = .pointer (some ⟨qv, 0, none⟩) := by rw [← hA8]; exact (ev_ne A7 (m := 16) (n := 2) ((exV R6 c6 [5, 6]).val) (by decide)).trans d2
  replace d14 : A8.eval (.tmp 14) = .bool true := by rw [← hA8]; exact (ev_ne A7 (m := 16) (n := 14) ((exV R6 c6 [5, 6]).val) (by decide)).trans d14
  replace d15 : A8.eval (.tmp 15) = (exF qp).val := by rw [← hA8]; exact (ev_ne A7 (m := 16) (n := 15) ((exV R6 c6 [5, 6]).val) (by decide)).trans d15
  have e16 : A8.eval (.tmp 16) = (exV R6 c6 [5, 6]).val := by rw [← hA8]; exact ev_self A7 16 ((exV R6 c6 [5, 6]).val) (by omega)
  have szA8 : A8.tmps.size = 39 := by rw [← hA8]; exact (sz_put A7 16 ((exV R6 c6 [5, 6]).val)).trans szA7
  have HA8 := Lib.hid (show A7.put (some 16) ((exV R6 c6 [5, 6]).val) = A8 from hA8)
  clear hA8 szA7
  have d16 := e16
  clear e16
  refine wpAnyH_ready (rs := [7]) (by kernel_rfl) (by simp) ?_
  refine AllReadyH.cons rfl (fun K hK => ?_) AllReadyH.nil
  refine wp_callG (vs := #[(exF qp).val, (exV R6 c6 [5, 6]).val]) rfl (wanted_yes (j := 4) (d := 14) rfl rfl d14) enter_vsize (by simp [d15, d16]) ((sizeE _ (exF qp) (exV R6 c6 [5, 6]) (HN.out.grew G1.out) (HX.out.grew G1.out) (by rw [ex5_ok])).mono ?_)
  rintro e x2 ⟨rfl, g2⟩
  refine ⟨_, rfl, hK.out _ _ (grew_trans G1.out g2) (fun _ => ?_)⟩
  clear hK K
  have G2 := Lib.hid (grew_trans G1.out g2)
  clear g2 G1
  refine act_letter (fun A9 hA9 => ?_)
  replace d1 : A9.eval (.tmp 1) = .pointer (some ⟨qf, 0, none⟩) := by rw [← hA9]; exact (ev_ne A8 (m := 17) (n := 1) (.int .i64 3) (by decide)).trans d1
  replace d14 : A9.eval (.tmp 14) = .bool true := by rw [← hA9]; exact (ev_ne A8 (m := 17) (n := 14) (.int .i64 3) (by decide)).trans d14
  have e17 : A9.eval (.tmp 17) = .int .i64 3 := by rw [← hA9]; exact ev_self A8 17 (.int .i64 3) (by omega)
  have szA9 : A9.tmps.size = 39 := by rw [← hA9]; exact (sz_put A8 17 (.int .i64 3)).trans szA8
  have HA9 := Lib.hid (show A8.put (some 17) (.int .i64 3) = A9 from hA9)
  clear hA9 szA8 d2 d15 d16
  have d17 := e17
  clear e17
  refine wpAnyH_take (i := 8) (v := .bool true) rfl (by kernel_rfl) (by kernel_rfl) (by kernel_rfl) (fun _ _ _ h => h) (.inl ⟨wanted_yes (j := 4) (d := 14) rfl rfl d14, fun w g => run_eql (b := 3) rfl d17 rfl w⟩) G2.out ?_
  refine act_letter (fun A10 hA10 => ?_)
  replace d1 : A10.eval (.tmp 1) = .pointer (some ⟨qf, 0, none⟩) := by rw [← hA10]; exact (ev_ne A9 (m := 18) (n := 1) (.bool true) (by decide)).trans d1
  replace d14 : A10.eval (.tmp 14) = .bool true := by rw [← hA10]; exact (ev_ne A9 (m := 18) (n := 14) (.bool true) (by decide)).trans d14
  have e18 : A10.eval (.tmp 18) = .bool true := by rw [← hA10]; exact ev_self A9 18 (.bool true) (by omega)
  have szA10 : A10.tmps.size = 39 := by rw [← hA10]; exact (sz_put A9 18 (.bool true)).trans szA9
  have HA10 := Lib.hid (show A9.put (some 18) (.bool true) = A10 from hA10)
  clear hA10 szA9 d17
  have d18 := e18
  clear e18
  refine wpAnyH_take (i := 9) (v := .bool true) rfl (by kernel_rfl) (by kernel_rfl) (by kernel_rfl) (fun _ _ _ h => h) (.inl ⟨rfl, fun w g => run_pickT rfl d14 d18 w⟩) G2.out ?_
  refine act_letter (fun A11 hA11 => ?_)
  replace d1 : A11.eval (.tmp 1) = .pointer (some ⟨qf, 0, none⟩) := by rw [← hA11]; exact (ev_ne A10 (m := 19) (n := 1) (.bool true) (by decide)).trans d1
  have e19 : A11.eval (.tmp 19) = .bool true := by rw [← hA11]; exact ev_self A10 19 (.bool true) (by omega)
  have szA11 : A11.tmps.size = 39 := by rw [← hA11]; exact (sz_put A10 19 (.bool true)).trans szA10
  have HA11 := Lib.hid (show A10.put (some 19) (.bool true) = A11 from hA11)
  clear hA11 szA10 d14 d18
  have d19 := e19
  clear e19
  refine wpAnyH_take (i := 10) (v := .bool true) rfl (by kernel_rfl) (by kernel_rfl) (by kernel_rfl) (fun _ _ _ h => h) (.inl ⟨rfl, fun w g => run_moveV rfl d19 w⟩) G2.out ?_
  refine act_letter (fun A12 hA12 => ?_)
  replace d1 : A12.eval (.tmp 1) = .pointer (some ⟨qf, 0, none⟩) := by rw [← hA12]; exact (ev_ne A11 (m := 20) (n := 1) (.bool true) (by decide)).trans d1
  have e20 : A12.eval (.tmp 20) = .bool true := by rw [← hA12]; exact ev_self A11 20 (.bool true) (by omega)
  have szA12 : A12.tmps.size = 39 := by rw [← hA12]; exact (sz_put A11 20 (.bool true)).trans szA11
  have HA12 := Lib.hid (show A11.put (some 20) (.bool true) = A12 from hA12)
  clear hA12 szA11 d19
  have d20 := e20
  clear e20
  refine wpAnyH_take (i := 11) (v := (exF qp).val) rfl (by kernel_rfl) (by kernel_rfl) (by kernel_rfl) (fun _ _ _ h => h) (.inl ⟨wanted_yes (j := 10) (d := 20) rfl rfl d20, fun w g => run_form (f := (exF qp)) rfl d1 (HF.out.grew g (by simp))⟩) G2.out ?_
  refine act_letter (fun A13 hA13 => ?_)
  replace d1 : A13.eval (.tmp 1) = .pointer (some ⟨qf, 0, none⟩) := by rw [← hA13]; exact (ev_ne A12 (m := 21) (n := 1) ((exF qp).val) (by decide)).trans d1
  replace d20 : A13.eval (.tmp 20) = .bool true := by rw [← hA13]; exact (ev_ne A12 (m := 21) (n := 20) ((exF qp).val) (by decide)).trans d20
  have e21 : A13.eval (.tmp 21) = (exF qp).val := by rw [← hA13]; exact ev_self A12 21 ((exF qp).val) (by omega)
  have szA13 : A13.tmps.size = 39 := by rw [← hA13]; exact (sz_put A12 21 ((exF qp).val)).trans szA12
  have HA13 := Lib.hid (show A12.put (some 21) ((exF qp).val) = A13 from hA13)
  clear hA13 szA12
  have d21 := e21
  clear e21
  refine wpAnyH_ready (rs := [12]) (by kernel_rfl) (by simp) ?_
  refine AllReadyH.cons rfl (fun K hK => ?_) AllReadyH.nil
  refine wp_callG (vs := #[.int .u64 5]) rfl (wanted_yes (j := 10) (d := 20) rfl rfl d20) enter_vnumber (by simp [Act.eval]) ((vnumber_any _ 5).mono ?_)
  rintro e x3 ⟨rfl, g3⟩
  refine ⟨_, rfl, hK.out _ _ (grew_trans G2.out g3) (fun _ => ?_)⟩
  clear hK K
  have G3 := Lib.hid (grew_trans G2.out g3)
  clear g3 G2
  refine act_letter (fun A14 hA14 => ?_)
  replace d1 : A14.eval (.tmp 1) = .pointer (some ⟨qf, 0, none⟩) := by rw [← hA14]; exact (ev_ne A13 (m := 22) (n := 1) ((Va.mk 5 none 0 [] none 0 []).val) (by decide)).trans d1
  replace d20 : A14.eval (.tmp 20) = .bool true := by rw [← hA14]; exact (ev_ne A13 (m := 22) (n := 20) ((Va.mk 5 none 0 [] none 0 []).val) (by decide)).trans d20
  replace d21 : A14.eval (.tmp 21) = (exF qp).val := by rw [← hA14]; exact (ev_ne A13 (m := 22) (n := 21) ((Va.mk 5 none 0 [] none 0 []).val) (by decide)).trans d21
  have e22 : A14.eval (.tmp 22) = (Va.mk 5 none 0 [] none 0 []).val := by rw [← hA14]; exact ev_self A13 22 ((Va.mk 5 none 0 [] none 0 []).val) (by omega)
  have szA14 : A14.tmps.size = 39 := by rw [← hA14]; exact (sz_put A13 22 ((Va.mk 5 none 0 [] none 0 []).val)).trans szA13
  have HA14 := Lib.hid (show A13.put (some 22) ((Va.mk 5 none 0 [] none 0 []).val) = A14 from hA14)
  clear hA14 szA13
  have d22 := e22
  clear e22
  refine wpAnyH_ready (rs := [13]) (by kernel_rfl) (by simp) ?_
  refine AllReadyH.cons rfl (fun K hK => ?_) AllReadyH.nil
  refine wp_callG (vs := #[.int .u64 6]) rfl (wanted_yes (j := 10) (d := 20) rfl rfl d20) enter_vnumber (by simp [Act.eval]) ((vnumber_any _ 6).mono ?_)
  rintro e x4 ⟨rfl, g4⟩
  refine ⟨_, rfl, hK.out _ _ (grew_trans G3.out g4) (fun _ => ?_)⟩
  clear hK K
  have G4 := Lib.hid (grew_trans G3.out g4)
  clear g4 G3
  refine act_letter (fun A15 hA15 => ?_)
  replace d1 : A15.eval (.tmp 1) = .pointer (some ⟨qf, 0, none⟩) := by rw [← hA15]; exact (ev_ne A14 (m := 23) (n := 1) ((Va.mk 6 none 0 [] none 0 []).val) (by decide)).trans d1
  replace d20 : A15.eval (.tmp 20) = .bool true := by rw [← hA15]; exact (ev_ne A14 (m := 23) (n := 20) ((Va.mk 6 none 0 [] none 0 []).val) (by decide)).trans d20
  replace d21 : A15.eval (.tmp 21) = (exF qp).val := by rw [← hA15]; exact (ev_ne A14 (m := 23) (n := 21) ((Va.mk 6 none 0 [] none 0 []).val) (by decide)).trans d21
  replace d22 : A15.eval (.tmp 22) = (Va.mk 5 none 0 [] none 0 []).val := by rw [← hA15]; exact (ev_ne A14 (m := 23) (n := 22) ((Va.mk 6 none 0 [] none 0 []).val) (by decide)).trans d22
  have e23 : A15.eval (.tmp 23) = (Va.mk 6 none 0 [] none 0 []).val := by rw [← hA15]; exact ev_self A14 23 ((Va.mk 6 none 0 [] none 0 []).val) (by omega)
  have szA15 : A15.tmps.size = 39 := by rw [← hA15]; exact (sz_put A14 23 ((Va.mk 6 none 0 [] none 0 []).val)).trans szA14
  have HA15 := Lib.hid (show A14.put (some 23) ((Va.mk 6 none 0 [] none 0 []).val) = A15 from hA15)
  clear hA15 szA14
  have d23 := e23
  clear e23
  refine wpAnyH_ready (rs := [14]) (by kernel_rfl) (by simp) ?_
  refine AllReadyH.cons rfl (fun K hK => ?_) AllReadyH.nil
  refine wp_callG (vs := #[.int .u64 7]) rfl (wanted_yes (j := 10) (d := 20) rfl rfl d20) enter_vnumber (by simp [Act.eval]) ((vnumber_any _ 7).mono ?_)
  rintro e x5 ⟨rfl, g5⟩
  refine ⟨_, rfl, hK.out _ _ (grew_trans G4.out g5) (fun _ => ?_)⟩
  clear hK K
  have G5 := Lib.hid (grew_trans G4.out g5)
  clear g5 G4
  refine act_letter (fun A16 hA16 => ?_)
  replace d1 : A16.eval (.tmp 1) = .pointer (some ⟨qf, 0, none⟩) := by rw [← hA16]; exact (ev_ne A15 (m := 24) (n := 1) ((Va.mk 7 none 0 [] none 0 []).val) (by decide)).trans d1
  replace d20 : A16.eval (.tmp 20) = .bool true := by rw [← hA16]; exact (ev_ne A15 (m := 24) (n := 20) ((Va.mk 7 none 0 [] none 0 []).val) (by decide)).trans d20
  replace d21 : A16.eval (.tmp 21) = (exF qp).val := by rw [← hA16]; exact (ev_ne A15 (m := 24) (n := 21) ((Va.mk 7 none 0 [] none 0 []).val) (by decide)).trans d21
  replace d22 : A16.eval (.tmp 22) = (Va.mk 5 none 0 [] none 0 []).val := by rw [← hA16]; exact (ev_ne A15 (m := 24) (n := 22) ((Va.mk 7 none 0 [] none 0 []).val) (by decide)).trans d22
  replace d23 : A16.eval (.tmp 23) = (Va.mk 6 none 0 [] none 0 []).val := by rw [← hA16]; exact (ev_ne A15 (m := 24) (n := 23) ((Va.mk 7 none 0 [] none 0 []).val) (by decide)).trans d23
  have e24 : A16.eval (.tmp 24) = (Va.mk 7 none 0 [] none 0 []).val := by rw [← hA16]; exact ev_self A15 24 ((Va.mk 7 none 0 [] none 0 []).val) (by omega)
  have szA16 : A16.tmps.size = 39 := by rw [← hA16]; exact (sz_put A15 24 ((Va.mk 7 none 0 [] none 0 []).val)).trans szA15
  have HA16 := Lib.hid (show A15.put (some 24) ((Va.mk 7 none 0 [] none 0 []).val) = A16 from hA16)
  clear hA16 szA15
  have d24 := e24
  clear e24
  refine wpAnyH_ready (rs := [15]) (by kernel_rfl) (by simp) ?_
  refine AllReadyH.cons rfl (fun K hK => ?_) AllReadyH.nil
  refine wp_vbuild3 (wanted_yes (j := 10) (d := 20) rfl rfl d20) rfl d22 d23 d24 (fun q6 y6 h6 g6 => hK.out _ _ (grew_trans G5.out g6) (fun _ => ?_))
  clear hK K
  have G6 := Lib.hid (grew_trans G5.out g6)
  have L6 := Lib.hid h6
  clear h6
  clear g6 G5
  refine act_letter (fun A17 hA17 => ?_)
  replace d1 : A17.eval (.tmp 1) = .pointer (some ⟨qf, 0, none⟩) := by rw [← hA17]; exact (ev_ne A16 (m := 25) (n := 1) (.slice (some ⟨q6, 0, none⟩) 3 3) (by decide)).trans d1
  replace d20 : A17.eval (.tmp 20) = .bool true := by rw [← hA17]; exact (ev_ne A16 (m := 25) (n := 20) (.slice (some ⟨q6, 0, none⟩) 3 3) (by decide)).trans d20
  replace d21 : A17.eval (.tmp 21) = (exF qp).val := by rw [← hA17]; exact (ev_ne A16 (m := 25) (n := 21) (.slice (some ⟨q6, 0, none⟩) 3 3) (by decide)).trans d21
  have e25 : A17.eval (.tmp 25) = .slice (some ⟨q6, 0, none⟩) 3 3 := by rw [← hA17]; exact ev_self A16 25 (.slice (some ⟨q6, 0, none⟩) 3 3) (by omega)
  have szA17 : A17.tmps.size = 39 := by rw [← hA17]; exact (sz_put A16 25 (.slice (some ⟨q6, 0, none⟩) 3 3)).trans szA16
  have HA17 := Lib.hid (show A16.put (some 25) (.slice (some ⟨q6, 0, none⟩) 3 3) = A17 from hA17)
  clear hA17 szA16 d22 d23 d24
  have d25 := e25
  clear e25
  refine wpAnyH_ready (rs := [16]) (by kernel_rfl) (by simp) ?_
  refine AllReadyH.cons rfl (fun K hK => ?_) AllReadyH.nil
  refine wp_callG (vs := #[.slice (some ⟨q6, 0, none⟩) 3 3]) rfl (wanted_yes (j := 10) (d := 20) rfl rfl d20) enter_vlist (by simp [d25]) ((vlist_any _ (some ⟨q6, 0, none⟩) 3 [(Va.mk 5 none 0 [] none 0 []), (Va.mk 6 none 0 [] none 0 []), (Va.mk 7 none 0 [] none 0 [])] L6.out (nums_in _ (xs := [5, 6, 7]) (by simp)) (by simp)).mono ?_)
  rintro e x7 ⟨B7, b7, rfl, h7, g7⟩
  refine ⟨_, rfl, hK.out _ _ (grew_trans G6.out g7) (fun _ => ?_)⟩
  clear hK K
  have G7 := Lib.hid (grew_trans G6.out g7)
  have X7 := Lib.hid (show (exV B7 b7 [5, 6, 7]).In x7 from h7)
  clear h7
  clear g7 G6
  refine act_letter (fun A18 hA18 => ?_)
  replace d1 : A18.eval (.tmp 1) = .pointer (some ⟨qf, 0, none⟩) := by rw [← hA18]; exact (ev_ne A17 (m := 26) (n := 1) ((exV B7 b7 [5, 6, 7]).val) (by decide)).trans d1
  replace d20 : A18.eval (.tmp 20) = .bool true := by rw [← hA18]; exact (ev_ne A17 (m := 26) (n := 20) ((exV B7 b7 [5, 6, 7]).val) (by decide)).trans d20
  replace d21 : A18.eval (.tmp 21) = (exF qp).val := by rw [← hA18]; exact (ev_ne A17 (m := 26) (n := 21) ((exV B7 b7 [5, 6, 7]).val) (by decide)).trans d21
  have e26 : A18.eval (.tmp 26) = (exV B7 b7 [5, 6, 7]).val := by rw [← hA18]; exact ev_self A17 26 ((exV B7 b7 [5, 6, 7]).val) (by omega)
  have szA18 : A18.tmps.size = 39 := by rw [← hA18]; exact (sz_put A17 26 ((exV B7 b7 [5, 6, 7]).val)).trans szA17
  have HA18 := Lib.hid (show A17.put (some 26) ((exV B7 b7 [5, 6, 7]).val) = A18 from hA18)
  clear hA18 szA17 d25
  have d26 := e26
  clear e26
  refine wpAnyH_ready (rs := [17]) (by kernel_rfl) (by simp) ?_
  refine AllReadyH.cons rfl (fun K hK => ?_) AllReadyH.nil
  refine wp_callG (vs := #[(exF qp).val, (exV B7 b7 [5, 6, 7]).val]) rfl (wanted_yes (j := 10) (d := 20) rfl rfl d20) enter_vfits (by simp [d21, d26]) ((fitsE _ (exF qp) (exV B7 b7 [5, 6, 7]) (HN.out.grew G7.out) X7.out (by rw [ex5_long])).mono ?_)
  rintro e x8 ⟨rfl, g8⟩
  refine ⟨_, rfl, hK.out _ _ (grew_trans G7.out g8) (fun _ => ?_)⟩
  clear hK K
  have G8 := Lib.hid (grew_trans G7.out g8)
  clear g8 G7
  refine act_letter (fun A19 hA19 => ?_)
  replace d1 : A19.eval (.tmp 1) = .pointer (some ⟨qf, 0, none⟩) := by rw [← hA19]; exact (ev_ne A18 (m := 27) (n := 1) (.int .i64 5) (by decide)).trans d1
  replace d20 : A19.eval (.tmp 20) = .bool true := by rw [← hA19]; exact (ev_ne A18 (m := 27) (n := 20) (.int .i64 5) (by decide)).trans d20
  have e27 : A19.eval (.tmp 27) = .int .i64 5 := by rw [← hA19]; exact ev_self A18 27 (.int .i64 5) (by omega)
  have szA19 : A19.tmps.size = 39 := by rw [← hA19]; exact (sz_put A18 27 (.int .i64 5)).trans szA18
  have HA19 := Lib.hid (show A18.put (some 27) (.int .i64 5) = A19 from hA19)
  clear hA19 szA18 d21 d26
  have d27 := e27
  clear e27
  refine wpAnyH_take (i := 18) (v := .bool true) rfl (by kernel_rfl) (by kernel_rfl) (by kernel_rfl) (fun _ _ _ h => h) (.inl ⟨wanted_yes (j := 10) (d := 20) rfl rfl d20, fun w g => run_eql (b := 5) rfl d27 rfl w⟩) G8.out ?_
  refine act_letter (fun A20 hA20 => ?_)
  replace d1 : A20.eval (.tmp 1) = .pointer (some ⟨qf, 0, none⟩) := by rw [← hA20]; exact (ev_ne A19 (m := 28) (n := 1) (.bool true) (by decide)).trans d1
  replace d20 : A20.eval (.tmp 20) = .bool true := by rw [← hA20]; exact (ev_ne A19 (m := 28) (n := 20) (.bool true) (by decide)).trans d20
  have e28 : A20.eval (.tmp 28) = .bool true := by rw [← hA20]; exact ev_self A19 28 (.bool true) (by omega)
  have szA20 : A20.tmps.size = 39 := by rw [← hA20]; exact (sz_put A19 28 (.bool true)).trans szA19
  have HA20 := Lib.hid (show A19.put (some 28) (.bool true) = A20 from hA20)
  clear hA20 szA19 d27
  have d28 := e28
  clear e28
  refine wpAnyH_take (i := 19) (v := .bool true) rfl (by kernel_rfl) (by kernel_rfl) (by kernel_rfl) (fun _ _ _ h => h) (.inl ⟨rfl, fun w g => run_pickT rfl d20 d28 w⟩) G8.out ?_
  refine act_letter (fun A21 hA21 => ?_)
  replace d1 : A21.eval (.tmp 1) = .pointer (some ⟨qf, 0, none⟩) := by rw [← hA21]; exact (ev_ne A20 (m := 29) (n := 1) (.bool true) (by decide)).trans d1
  have e29 : A21.eval (.tmp 29) = .bool true := by rw [← hA21]; exact ev_self A20 29 (.bool true) (by omega)
  have szA21 : A21.tmps.size = 39 := by rw [← hA21]; exact (sz_put A20 29 (.bool true)).trans szA20
  have HA21 := Lib.hid (show A20.put (some 29) (.bool true) = A21 from hA21)
  clear hA21 szA20 d20 d28
  have d29 := e29
  clear e29
  refine wpAnyH_take (i := 20) (v := .bool true) rfl (by kernel_rfl) (by kernel_rfl) (by kernel_rfl) (fun _ _ _ h => h) (.inl ⟨rfl, fun w g => run_moveV rfl d29 w⟩) G8.out ?_
  refine act_letter (fun A22 hA22 => ?_)
  replace d1 : A22.eval (.tmp 1) = .pointer (some ⟨qf, 0, none⟩) := by rw [← hA22]; exact (ev_ne A21 (m := 30) (n := 1) (.bool true) (by decide)).trans d1
  have e30 : A22.eval (.tmp 30) = .bool true := by rw [← hA22]; exact ev_self A21 30 (.bool true) (by omega)
  have szA22 : A22.tmps.size = 39 := by rw [← hA22]; exact (sz_put A21 30 (.bool true)).trans szA21
  have HA22 := Lib.hid (show A21.put (some 30) (.bool true) = A22 from hA22)
  clear hA22 szA21 d29
  have d30 := e30
  clear e30
  refine wpAnyH_take (i := 21) (v := (exF qp).val) rfl (by kernel_rfl) (by kernel_rfl) (by kernel_rfl) (fun _ _ _ h => h) (.inl ⟨wanted_yes (j := 20) (d := 30) rfl rfl d30, fun w g => run_form (f := (exF qp)) rfl d1 (HF.out.grew g (by simp))⟩) G8.out ?_
  refine act_letter (fun A23 hA23 => ?_)
  replace d30 : A23.eval (.tmp 30) = .bool true := by rw [← hA23]; exact (ev_ne A22 (m := 31) (n := 30) ((exF qp).val) (by decide)).trans d30
  have e31 : A23.eval (.tmp 31) = (exF qp).val := by rw [← hA23]; exact ev_self A22 31 ((exF qp).val) (by omega)
  have szA23 : A23.tmps.size = 39 := by rw [← hA23]; exact (sz_put A22 31 ((exF qp).val)).trans szA22
  have HA23 := Lib.hid (show A22.put (some 31) ((exF qp).val) = A23 from hA23)
  clear hA23 szA22 d1
  have d31 := e31
  clear e31
  refine wpAnyH_ready (rs := [22]) (by kernel_rfl) (by simp) ?_
  refine AllReadyH.cons rfl (fun K hK => ?_) AllReadyH.nil
  refine wp_callG (vs := #[.int .u64 5]) rfl (wanted_yes (j := 20) (d := 30) rfl rfl d30) enter_vnumber (by simp [Act.eval]) ((vnumber_any _ 5).mono ?_)
  rintro e x9 ⟨rfl, g9⟩
  refine ⟨_, rfl, hK.out _ _ (grew_trans G8.out g9) (fun _ => ?_)⟩
  clear hK K
  have G9 := Lib.hid (grew_trans G8.out g9)
  clear g9 G8
  refine act_letter (fun A24 hA24 => ?_)
  replace d30 : A24.eval (.tmp 30) = .bool true := by rw [← hA24]; exact (ev_ne A23 (m := 32) (n := 30) ((Va.mk 5 none 0 [] none 0 []).val) (by decide)).trans d30
  replace d31 : A24.eval (.tmp 31) = (exF qp).val := by rw [← hA24]; exact (ev_ne A23 (m := 32) (n := 31) ((Va.mk 5 none 0 [] none 0 []).val) (by decide)).trans d31
  have e32 : A24.eval (.tmp 32) = (Va.mk 5 none 0 [] none 0 []).val := by rw [← hA24]; exact ev_self A23 32 ((Va.mk 5 none 0 [] none 0 []).val) (by omega)
  have szA24 : A24.tmps.size = 39 := by rw [← hA24]; exact (sz_put A23 32 ((Va.mk 5 none 0 [] none 0 []).val)).trans szA23
  have HA24 := Lib.hid (show A23.put (some 32) ((Va.mk 5 none 0 [] none 0 []).val) = A24 from hA24)
  clear hA24 szA23
  have d32 := e32
  clear e32
  refine wpAnyH_ready (rs := [23]) (by kernel_rfl) (by simp) ?_
  refine AllReadyH.cons rfl (fun K hK => ?_) AllReadyH.nil
  refine wp_callG (vs := #[.int .u64 256]) rfl (wanted_yes (j := 20) (d := 30) rfl rfl d30) enter_vnumber (by simp [Act.eval]) ((vnumber_any _ 256).mono ?_)
  rintro e x10 ⟨rfl, g10⟩
  refine ⟨_, rfl, hK.out _ _ (grew_trans G9.out g10) (fun _ => ?_)⟩
  clear hK K
  have G10 := Lib.hid (grew_trans G9.out g10)
  clear g10 G9
  refine act_letter (fun A25 hA25 => ?_)
  replace d30 : A25.eval (.tmp 30) = .bool true := by rw [← hA25]; exact (ev_ne A24 (m := 33) (n := 30) ((Va.mk 256 none 0 [] none 0 []).val) (by decide)).trans d30
  replace d31 : A25.eval (.tmp 31) = (exF qp).val := by rw [← hA25]; exact (ev_ne A24 (m := 33) (n := 31) ((Va.mk 256 none 0 [] none 0 []).val) (by decide)).trans d31
  replace d32 : A25.eval (.tmp 32) = (Va.mk 5 none 0 [] none 0 []).val := by rw [← hA25]; exact (ev_ne A24 (m := 33) (n := 32) ((Va.mk 256 none 0 [] none 0 []).val) (by decide)).trans d32
  have e33 : A25.eval (.tmp 33) = (Va.mk 256 none 0 [] none 0 []).val := by rw [← hA25]; exact ev_self A24 33 ((Va.mk 256 none 0 [] none 0 []).val) (by omega)
  have szA25 : A25.tmps.size = 39 := by rw [← hA25]; exact (sz_put A24 33 ((Va.mk 256 none 0 [] none 0 []).val)).trans szA24
  have HA25 := Lib.hid (show A24.put (some 33) ((Va.mk 256 none 0 [] none 0 []).val) = A25 from hA25)
  clear hA25 szA24
  have d33 := e33
  clear e33
  refine wpAnyH_ready (rs := [24]) (by kernel_rfl) (by simp) ?_
  refine AllReadyH.cons rfl (fun K hK => ?_) AllReadyH.nil
  refine wp_vbuild2 (wanted_yes (j := 20) (d := 30) rfl rfl d30) rfl d32 d33 (fun q11 y11 h11 g11 => hK.out _ _ (grew_trans G10.out g11) (fun _ => ?_))
  clear hK K
  have G11 := Lib.hid (grew_trans G10.out g11)
  have L11 := Lib.hid h11
  clear h11
  clear g11 G10
  refine act_letter (fun A26 hA26 => ?_)
  replace d30 : A26.eval (.tmp 30) = .bool true := by rw [← hA26]; exact (ev_ne A25 (m := 34) (n := 30) (.slice (some ⟨q11, 0, none⟩) 2 2) (by decide)).trans d30
  replace d31 : A26.eval (.tmp 31) = (exF qp).val := by rw [← hA26]; exact (ev_ne A25 (m := 34) (n := 31) (.slice (some ⟨q11, 0, none⟩) 2 2) (by decide)).trans d31
  have e34 : A26.eval (.tmp 34) = .slice (some ⟨q11, 0, none⟩) 2 2 := by rw [← hA26]; exact ev_self A25 34 (.slice (some ⟨q11, 0, none⟩) 2 2) (by omega)
  have szA26 : A26.tmps.size = 39 := by rw [← hA26]; exact (sz_put A25 34 (.slice (some ⟨q11, 0, none⟩) 2 2)).trans szA25
  have HA26 := Lib.hid (show A25.put (some 34) (.slice (some ⟨q11, 0, none⟩) 2 2) = A26 from hA26)
  clear hA26 szA25 d32 d33
  have d34 := e34
  clear e34
  refine wpAnyH_ready (rs := [25]) (by kernel_rfl) (by simp) ?_
  refine AllReadyH.cons rfl (fun K hK => ?_) AllReadyH.nil
  refine wp_callG (vs := #[.slice (some ⟨q11, 0, none⟩) 2 2]) rfl (wanted_yes (j := 20) (d := 30) rfl rfl d30) enter_vlist (by simp [d34]) ((vlist_any _ (some ⟨q11, 0, none⟩) 2 [(Va.mk 5 none 0 [] none 0 []), (Va.mk 256 none 0 [] none 0 [])] L11.out (nums_in _ (xs := [5, 256]) (by simp)) (by simp)).mono ?_)
  rintro e x12 ⟨B12, b12, rfl, h12, g12⟩
  refine ⟨_, rfl, hK.out _ _ (grew_trans G11.out g12) (fun _ => ?_)⟩
  clear hK K
  have G12 := Lib.hid (grew_trans G11.out g12)
  have X12 := Lib.hid (show (exV B12 b12 [5, 256]).In x12 from h12)
  clear h12
  clear g12 G11
  refine act_letter (fun A27 hA27 => ?_)
  replace d30 : A27.eval (.tmp 30) = .bool true := by rw [← hA27]; exact (ev_ne A26 (m := 35) (n := 30) ((exV B12 b12 [5, 256]).val) (by decide)).trans d30
  replace d31 : A27.eval (.tmp 31) = (exF qp).val := by rw [← hA27]; exact (ev_ne A26 (m := 35) (n := 31) ((exV B12 b12 [5, 256]).val) (by decide)).trans d31
  have e35 : A27.eval (.tmp 35) = (exV B12 b12 [5, 256]).val := by rw [← hA27]; exact ev_self A26 35 ((exV B12 b12 [5, 256]).val) (by omega)
  have szA27 : A27.tmps.size = 39 := by rw [← hA27]; exact (sz_put A26 35 ((exV B12 b12 [5, 256]).val)).trans szA26
  have HA27 := Lib.hid (show A26.put (some 35) ((exV B12 b12 [5, 256]).val) = A27 from hA27)
  clear hA27 szA26 d34
  have d35 := e35
  clear e35
  refine wpAnyH_ready (rs := [26]) (by kernel_rfl) (by simp) ?_
  refine AllReadyH.cons rfl (fun K hK => ?_) AllReadyH.nil
  refine wp_callG (vs := #[(exF qp).val, (exV B12 b12 [5, 256]).val]) rfl (wanted_yes (j := 20) (d := 30) rfl rfl d30) enter_vfits (by simp [d31, d35]) ((fitsE _ (exF qp) (exV B12 b12 [5, 256]) (HN.out.grew G12.out) X12.out (by rw [ex5_big])).mono ?_)
  rintro e x13 ⟨rfl, g13⟩
  refine ⟨_, rfl, hK.out _ _ (grew_trans G12.out g13) (fun _ => ?_)⟩
  clear hK K
  have G13 := Lib.hid (grew_trans G12.out g13)
  clear g13 G12
  refine act_letter (fun A28 hA28 => ?_)
  replace d30 : A28.eval (.tmp 30) = .bool true := by rw [← hA28]; exact (ev_ne A27 (m := 36) (n := 30) (.int .i64 3) (by decide)).trans d30
  have e36 : A28.eval (.tmp 36) = .int .i64 3 := by rw [← hA28]; exact ev_self A27 36 (.int .i64 3) (by omega)
  have szA28 : A28.tmps.size = 39 := by rw [← hA28]; exact (sz_put A27 36 (.int .i64 3)).trans szA27
  have HA28 := Lib.hid (show A27.put (some 36) (.int .i64 3) = A28 from hA28)
  clear hA28 szA27 d31 d35
  have d36 := e36
  clear e36
  refine wpAnyH_take (i := 27) (v := .bool true) rfl (by kernel_rfl) (by kernel_rfl) (by kernel_rfl) (fun _ _ _ h => h) (.inl ⟨wanted_yes (j := 20) (d := 30) rfl rfl d30, fun w g => run_eql (b := 3) rfl d36 rfl w⟩) G13.out ?_
  refine act_letter (fun A29 hA29 => ?_)
  replace d30 : A29.eval (.tmp 30) = .bool true := by rw [← hA29]; exact (ev_ne A28 (m := 37) (n := 30) (.bool true) (by decide)).trans d30
  have e37 : A29.eval (.tmp 37) = .bool true := by rw [← hA29]; exact ev_self A28 37 (.bool true) (by omega)
  have szA29 : A29.tmps.size = 39 := by rw [← hA29]; exact (sz_put A28 37 (.bool true)).trans szA28
  have HA29 := Lib.hid (show A28.put (some 37) (.bool true) = A29 from hA29)
  clear hA29 szA28 d36
  have d37 := e37
  clear e37
  refine wpAnyH_take (i := 28) (v := .bool true) rfl (by kernel_rfl) (by kernel_rfl) (by kernel_rfl) (fun _ _ _ h => h) (.inl ⟨rfl, fun w g => run_pickT rfl d30 d37 w⟩) G13.out ?_
  refine act_letter (fun A30 hA30 => ?_)
  have e38 : A30.eval (.tmp 38) = .bool true := by rw [← hA30]; exact ev_self A29 38 (.bool true) (by omega)
  have szA30 : A30.tmps.size = 39 := by rw [← hA30]; exact (sz_put A29 38 (.bool true)).trans szA29
  have HA30 := Lib.hid (show A29.put (some 38) (.bool true) = A30 from hA30)
  clear hA30 szA29 d30 d37
  have d38 := e38
  clear e38
  refine wpAnyH_take (i := 29) (v := .bool true) rfl (by kernel_rfl) (by kernel_rfl) (by kernel_rfl) (fun _ _ _ h => h) (.inl ⟨rfl, fun w g => run_assignV rfl d38 w⟩) G13.out ?_
  refine act_letter (fun A31 hA31 => ?_)
  have e0 : A31.eval (.tmp 0) = .bool true := by rw [← hA31]; exact ev_self A30 0 (.bool true) (by omega)
  have szA31 : A31.tmps.size = 39 := by rw [← hA31]; exact (sz_put A30 0 (.bool true)).trans szA30
  have HA31 := Lib.hid (show A30.put (some 0) (.bool true) = A31 from hA31)
  clear hA31 szA30 d38
  have d0 := e0
  clear e0
  have HGZ := Lib.hid (grew_trans HG.out G13.out)
  refine wpAnyH_done (by kernel_rfl) ?_ _
  rw [← HA31.out, ← HA30.out, ← HA29.out, ← HA28.out, ← HA27.out, ← HA26.out, ← HA25.out, ← HA24.out, ← HA23.out, ← HA22.out, ← HA21.out, ← HA20.out, ← HA19.out, ← HA18.out, ← HA17.out, ← HA16.out, ← HA15.out, ← HA14.out, ← HA13.out, ← HA12.out, ← HA11.out, ← HA10.out, ← HA9.out, ← HA8.out, ← HA7.out, ← HA6.out, ← HA5.out, ← HA4.out, ← HA3.out, ← HA2.out, ← HA1.out]
  clear HA2 HA3 HA4 HA5 HA6 HA7 HA8 HA9 HA10 HA11 HA12 HA13 HA14 HA15 HA16 HA17 HA18 HA19 HA20 HA21 HA22 HA23 HA24 HA25 HA26 HA27 HA28 HA29 HA30 HA31 HA1 d0 szA31
  simp only [Act.put, List.setIfInBounds_toArray, List.set_cons_zero, List.set_cons_succ]
  go_wp2_with fail
  go_ret
  exact ⟨rfl, HGZ.out⟩
end Go.Proofs.Ytmdmfinpcbedcaa

