/- Sizes of values: all; Fits, Size. -/
import Derived.Test.YtmdmfinpcbedcaaVu
import Derived.Test.YtmdmfinpcbedcaaHm
namespace Go.Proofs.Ytmdmfinpcbedcaa
open Go.RowKit Va

theorem inn_mem {k s l h t : Int} {A : Option Addr} {c : Nat} {ps : List Fo} (hk : k = 2 ∨ k = 3) {p : Fo} (hp : p ∈ ps) : p ∈ Fo.inn (.mk k s l h t A c ps) := by
  rw [Fo.inn, if_pos hk]; exact hp

theorem size_any (f : Fo) : ∀ (w : World) (q : Nat) (v : Va), f.In w → v.In w → Kinds w q → f.wrg = 0 →
    Calls Try.prog 37 #[.map (some q), f.val, v.val] w fun e w' => e = .returned (two (fit f v)) ∧ Grew w w' none := by
  induction f using Fo.ind with
  | H k s l h t A c ps ih =>
  intro w q v hf hv hk h0
  obtain ⟨ha, hp, _⟩ := wrg_zero h0
  have hc : ∀ p ∈ ps, (k = 2 ∨ k = 3) → ∀ u ∈ v.ls, Part w q p u := fun p hpm hk2 u hu w' g' => ih p hpm w' q u ((hf.parts p hpm).grew g') ((hv.parts u hu).grew g') (hk.grew g') (hp p (inn_mem hk2 hpm))
  rcases alone_kind ha with rfl | rfl | rfl | rfl | rfl | rfl
  · exact size_k0 w q s l h t A c ps v hf hv hk ha
  · exact size_k1 w q s l h t A c ps v hf hv hk ha
  · exact size_k2 w q s l h t A c ps v hf hv hk ha (fun p hpm u hu => hc p hpm (.inl rfl) u hu)
  · exact size_k3 w q s l h t A c ps v hf hv hk ha (fun p hpm u hu => hc p hpm (.inr rfl) u hu)
  · exact size_k4 w q s l h t A c ps v hf hv hk ha
  · exact size_k5 w q s l h t A c ps v hf hv hk ha

section
variable {ρ : Operand → Value} {o : Oper}
theorem run_value {x : Operand} {q : Nat} {v : Va} (ho : o.op = .load 26 x) (hx : ρ x = .pointer (some ⟨q, 0, none⟩)) {w : World} (hc : Whole w q v.cells 26) : (execOp ρ o).run Try.prog w = .ok (.value v.val) w := by
  obtain ⟨c0, c1, c2⟩ := hc.three
  simp [execOp, ho, hx, go_sem, c0, c1, c2]
  rfl
theorem run_extract0 {x : Operand} {r : Int × Int} (ho : o.op = .extract x 0) (hx : ρ x = two r) (w : World) : (execOp ρ o).run Try.prog w = .ok (.value (.int .i64 r.1)) w := by
  simp [execOp, ho, hx, go_sem, two]
theorem run_extract1 {x : Operand} {r : Int × Int} (ho : o.op = .extract x 1) (hx : ρ x = two r) (w : World) : (execOp ρ o).run Try.prog w = .ok (.value (.int .i64 r.2)) w := by
  simp [execOp, ho, hx, go_sem, two]
theorem run_assignV {x : Operand} {v : Value} (ho : o.op = .assign x) (hx : ρ x = v) (w : World) : (execOp ρ o).run Try.prog w = .ok (.value v) w := by
  simp [execOp, ho, hx, go_sem]
end
theorem enter_kinds : ∀ args w, (callFunc 36 args).run Try.prog w = .ok (.enter 36 args) w := fun _ _ => by kernel_rfl
theorem enter_size : ∀ args w, (callFunc 37 args).run Try.prog w = .ok (.enter 37 args) w := fun _ _ => by kernel_rfl

theorem meas_ok {f : Fo} {v : Va} (h : f.chk = 0) : meas f v = fit f v := by rw [meas, if_pos h]
theorem meas_no {f : Fo} {v : Va} (h : ¬ f.chk = 0) : meas f v = (0, f.chk) := by rw [meas, if_neg h]

set_option maxRecDepth 100000 in
set_option maxHeartbeats 1000000 in
theorem measure_any (w : World) (f : Fo) (v : Va) (hf : f.In w) (hv : v.In w) :
    Calls Try.prog 30 #[f.val, v.val] w fun e w' => e = .returned (two (meas f v)) ∧ Grew w w' none := by
  have HCk := Lib.hid (fun (w1 : World) (g : Grew w w1 none) => check_any w1 f (hf.grew g))
  have HS := Lib.hid (fun (w1 : World) (q : Nat) (g : Grew w w1 none) (hk : Kinds w1 q) (h0 : f.wrg = 0) => size_any f w1 q v (hf.grew g) (hv.grew g) hk h0)
  clear hf hv
  have hz := fun (h : f.chk = 0) => (chk_zero h).2
  have hm1 := fun (h : f.chk = 0) => meas_ok (v := v) h
  have hm2 := fun (h : ¬ f.chk = 0) => meas_no (v := v) h
  rw [val_eq, vval_eq] at *
  generalize meas f v = M at *
  generalize fit f v = Y at *
  have HZ := Lib.hid hz
  have HM1 := Lib.hid hm1
  have HM2 := Lib.hid hm2
  clear hz hm1 hm2
  go_enter Try.func30, Try.ntmps30
  go_wp2_with fail
  have hw2 := Whole.new (w.alloc (.cells #[.int .i64 f.k, .int .i64 f.s, .int .i64 f.l, .int .i64 f.h, .int .i64 f.t, .slice f.A f.ps.length f.c] 31)) #[.int .u64 v.n, .slice v.B v.bs.length v.d, .slice v.A v.ls.length v.c] 26
  have hw1 := (Whole.new w #[.int .i64 f.k, .int .i64 f.s, .int .i64 f.l, .int .i64 f.h, .int .i64 f.t, .slice f.A f.ps.length f.c] 31).grew (grew_alloc (grew_refl _ none) (.cells #[.int .u64 v.n, .slice v.B v.bs.length v.d, .slice v.A v.ls.length v.c] 26)) (by simp)
  have hg2 := grew_alloc (grew_alloc (grew_refl w none) (.cells #[.int .i64 f.k, .int .i64 f.s, .int .i64 f.l, .int .i64 f.h, .int .i64 f.t, .slice f.A f.ps.length f.c] 31)) (.cells #[.int .u64 v.n, .slice v.B v.bs.length v.d, .slice v.A v.ls.length v.c] 26)
  have hsz : (w.alloc (.cells #[.int .i64 f.k, .int .i64 f.s, .int .i64 f.l, .int .i64 f.h, .int .i64 f.t, .slice f.A f.ps.length f.c] 31)).heap.size = w.heap.size + 1 := by simp
  rw [hsz] at hw2
  clear hsz
  generalize (w.alloc (.cells #[.int .i64 f.k, .int .i64 f.s, .int .i64 f.l, .int .i64 f.h, .int .i64 f.t, .slice f.A f.ps.length f.c] 31)).alloc (.cells #[.int .u64 v.n, .slice v.B v.bs.length v.d, .slice v.A v.ls.length v.c] 26) = W2 at *
  generalize w.heap.size + 1 = qv at *
  generalize w.heap.size = qf at *
  have HW1 := Lib.hid hw1
  have HW2 := Lib.hid hw2
  have HG := Lib.hid hg2
  clear hw1 hw2 hg2
  refine (HCk.out W2 HG.out).mono ?_
  rintro e w3 ⟨rfl, g3⟩
  have HW3 := Lib.hid (HW1.out.grew g3 (by simp))
  have HV3 := Lib.hid (HW2.out.grew g3 (by simp))
  have HG3 := Lib.hid (grew_trans HG.out g3)
  clear HW1 HW2 HG g3 HCk
  by_cases hchk : f.chk = 0
  · have H0 := Lib.hid (HZ.out hchk)
    have HM := Lib.hid (HM1.out hchk)
    rw [hchk]
    clear hchk HZ HM1 HM2
    go_wp2_with fail
    refine act_letterC (fun A1 hA1 => ?_)
    have hA2 : A1.eval (.tmp 2) = .pointer (some ⟨qf, 0, none⟩) := by rw [← hA1]; rfl
    have hA3 : A1.eval (.tmp 3) = .pointer (some ⟨qv, 0, none⟩) := by rw [← hA1]; rfl
    have hsz : A1.tmps.size = 18 := by rw [← hA1]; rfl
    have HA1 := Lib.hid hA1
    clear hA1
    have G0 := Lib.hid (grew_drew (grew_refl w3 none))
    refine wp_region_held (S := fun w' => Grew w3 w' none) (by kernel_rfl) ?_
    change wpAnyH _ _ _ _ _ _ _ _ (World.drew w3)
    refine wpAnyH_take (i := 1) (v := f.val) rfl (by kernel_rfl) (by kernel_rfl) (by kernel_rfl) (fun _ _ _ h => h) (yi rfl (fun w g => run_form (f := f) rfl hA2 (HW3.out.grew g (by simp)))) G0.out ?_
    refine wpAnyH_take (i := 2) (v := v.val) rfl (by kernel_rfl) (by kernel_rfl) (by kernel_rfl) (fun _ _ _ h => h) (yi rfl (fun w g => run_value (v := v) rfl (by exact (ev_ne A1 (m := 13) (n := 3) f.val (by decide)).trans hA3) (HV3.out.grew g (by simp)))) G0.out ?_
    refine act_letter (fun A2 hA2 => ?_)
    have e13 : A2.eval (.tmp 13) = f.val := by rw [← hA2]; exact (ev_ne _ (m := 14) (n := 13) v.val (by decide)).trans (ev_self A1 13 f.val (by omega))
    have e14 : A2.eval (.tmp 14) = v.val := by rw [← hA2]; exact ev_self _ 14 v.val (by have := sz_put A1 13 f.val; exact (by omega : 14 < (A1.put (some 13) f.val).tmps.size))
    have hsz2 : A2.tmps.size = 18 := by rw [← hA2]; exact ((sz_put _ 14 v.val).trans (sz_put A1 13 f.val)).trans hsz
    have HA2 := Lib.hid (show (A1.put (some 13) f.val).put (some 14) v.val = A2 from hA2)
    clear hA2 hA3 hsz
    refine wpAnyH_ready (rs := [0]) (by kernel_rfl) (by simp) ?_
    refine AllReadyH.cons rfl (fun K hK => ?_) AllReadyH.nil
    refine wp_callH (vs := #[]) rfl rfl enter_kinds (by simp) ((kinds_any _).mono ?_)
    rintro e w4 ⟨q, rfl, hk4, g4⟩
    refine ⟨_, rfl, hK.out _ _ (grew_trans G0.out g4) (fun _ => ?_)⟩
    clear hK K
    refine act_letter (fun A3 hA3 => ?_)
    have d12 : A3.eval (.tmp 12) = .map (some q) := by rw [← hA3]; exact ev_self A2 12 _ (by omega)
    have d13 : A3.eval (.tmp 13) = f.val := by rw [← hA3]; exact (ev_ne A2 (m := 12) (n := 13) _ (by decide)).trans e13
    have d14 : A3.eval (.tmp 14) = v.val := by rw [← hA3]; exact (ev_ne A2 (m := 12) (n := 14) _ (by decide)).trans e14
    have hsz3 : A3.tmps.size = 18 := by rw [← hA3]; exact (sz_put A2 12 _).trans hsz2
    have HA3 := Lib.hid (show A2.put (some 12) (.map (some q)) = A3 from hA3)
    have HG4 := Lib.hid (grew_trans G0.out g4)
    have HK4 := Lib.hid hk4
    clear hA3 e13 e14 hsz2 G0 g4 hk4
    refine wpAnyH_ready (rs := [3]) (by kernel_rfl) (by simp) ?_
    refine AllReadyH.cons rfl (fun K hK => ?_) AllReadyH.nil
    refine wp_callH (vs := #[.map (some q), f.val, v.val]) rfl rfl enter_size (by simp [d12, d13, d14]) ((HS.out w4 q (grew_trans HG3.out HG4.out) HK4.out H0.out).mono ?_)
    rintro e w5 ⟨rfl, g5⟩
    refine ⟨_, rfl, hK.out _ _ (grew_trans HG4.out g5) (fun _ => ?_)⟩
    clear hK K
    refine act_letter (fun A4 hA4 => ?_)
    have d15 : A4.eval (.tmp 15) = two Y := by rw [← hA4]; exact ev_self A3 15 _ (by omega)
    have hsz4 : A4.tmps.size = 18 := by rw [← hA4]; exact (sz_put A3 15 _).trans hsz3
    have HA4 := Lib.hid (show A3.put (some 15) (two Y) = A4 from hA4)
    have G5 := Lib.hid (grew_trans HG4.out g5)
    clear hA4 d12 d13 d14 hsz3 HG4 g5
    refine wpAnyH_take (i := 4) (v := .int .i64 Y.1) rfl (by kernel_rfl) (by kernel_rfl) (by kernel_rfl) (fun _ _ _ h => h) (yi rfl (fun w _ => run_extract0 rfl d15 w)) G5.out ?_
    refine wpAnyH_take (i := 5) (v := .int .i64 Y.2) rfl (by kernel_rfl) (by kernel_rfl) (by kernel_rfl) (fun _ _ _ h => h) (yi rfl (fun w _ => run_extract1 rfl (by exact (ev_ne A4 (m := 16) (n := 15) _ (by decide)).trans d15) w)) G5.out ?_
    refine act_letter (fun A5 hA5 => ?_)
    have d16 : A5.eval (.tmp 16) = .int .i64 Y.1 := by rw [← hA5]; exact (ev_ne _ (m := 17) (n := 16) (Value.int .i64 Y.2) (by decide)).trans (ev_self A4 16 _ (by omega))
    have d17 : A5.eval (.tmp 17) = .int .i64 Y.2 := by rw [← hA5]; exact ev_self _ 17 _ (by have := sz_put A4 16 (.int .i64 Y.1); exact (by omega : 17 < (A4.put (some 16) (.int .i64 Y.1)).tmps.size))
    have HA5 := Lib.hid (show (A4.put (some 16) (.int .i64 Y.1)).put (some 17) (.int .i64 Y.2) = A5 from hA5)
    clear hA5 d15 hsz4
    refine wpAnyH_take (i := 6) (v := .int .i64 Y.1) rfl (by kernel_rfl) (by kernel_rfl) (by kernel_rfl) (fun _ _ _ h => h) (yi rfl (fun w _ => run_assignV rfl d16 w)) G5.out ?_
    refine wpAnyH_take (i := 7) (v := .int .i64 Y.2) rfl (by kernel_rfl) (by kernel_rfl) (by kernel_rfl) (fun _ _ _ h => h) (yi rfl (fun w _ => run_assignV rfl (by exact (ev_ne A5 (m := 4) (n := 17) _ (by decide)).trans d17) w)) G5.out ?_
    refine act_letter (fun A6 hA6 => ?_)
    have HA6 := Lib.hid (show (A5.put (some 4) (.int .i64 Y.1)).put (some 5) (.int .i64 Y.2) = A6 from hA6)
    clear hA6
    refine wpAnyH_done (by kernel_rfl) ?_ _
    rw [← HA6.out, ← HA5.out, ← HA4.out, ← HA3.out, ← HA2.out, ← HA1.out]
    have HG5 := Lib.hid (grew_trans HG3.out G5.out)
    clear HA1 HA2 HA3 HA4 HA5 HA6 G5 d16 d17 HS HW3 HV3 HG3 H0 HK4
    simp only [Act.put, List.setIfInBounds_toArray, List.set_cons_zero, List.set_cons_succ]
    go_wp2_with fail
    go_ret2
    exact ⟨by rw [HM.out]; rfl, HG5.out⟩
  · have HM := Lib.hid (HM2.out hchk)
    have hb : (f.chk != 0) = true := by simpa using hchk
    generalize f.chk = K at *
    clear hchk HZ HM1 HM2
    go_wp2_with fail
    go_ret2
    exact ⟨by rw [HM.out]; rfl, HG3.out⟩

theorem fits_any (w : World) (f : Fo) (v : Va) (hf : f.In w) (hv : v.In w) :
    Calls Try.prog 19 #[f.val, v.val] w fun e w' => e = .returned (.int .i64 (meas f v).2) ∧ Grew w w' none := by
  have HC := Lib.hid (fun (w1 : World) (g : Grew w w1 none) => measure_any w1 f v (hf.grew g) (hv.grew g))
  clear hf hv
  rw [val_eq, vval_eq] at *
  generalize meas f v = M at *
  go_enter Try.func19, Try.ntmps19
  go_wp2_with fail
  refine (HC.out _ (grew_alloc (grew_alloc (grew_refl _ _) _) _)).mono ?_
  rintro e w1 ⟨rfl, g1⟩
  unfold two
  go_wp2_with fail
  go_ret
  exact ⟨rfl, grew_trans (grew_alloc (grew_alloc (grew_refl _ _) _) _) g1⟩
theorem sizes_any (w : World) (f : Fo) (v : Va) (hf : f.In w) (hv : v.In w) :
    Calls Try.prog 18 #[f.val, v.val] w fun e w' => e = .returned (.int .i64 (meas f v).1) ∧ Grew w w' none := by
  have HC := Lib.hid (fun (w1 : World) (g : Grew w w1 none) => measure_any w1 f v (hf.grew g) (hv.grew g))
  clear hf hv
  rw [val_eq, vval_eq] at *
  generalize meas f v = M at *
  go_enter Try.func18, Try.ntmps18
  go_wp2_with fail
  refine (HC.out _ (grew_alloc (grew_alloc (grew_refl _ _) _) _)).mono ?_
  rintro e w1 ⟨rfl, g1⟩
  unfold two
  go_wp2_with fail
  go_ret
  exact ⟨rfl, grew_trans (grew_alloc (grew_alloc (grew_refl _ _) _) _) g1⟩
end Go.Proofs.Ytmdmfinpcbedcaa

