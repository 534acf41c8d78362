/- Sizes of values: all; Fits, Size. -/
import Derived.Test.YtibbeodcheefaaaQ13
import Derived.Test.YtibbeodcheefaaaQ12
import Derived.Laws.Strings
import Derived.Test.YtibbeodcheefaaaQ11
import Derived.Test.YtibbeodcheefaaaQ4
namespace Go.Proofs.Ytibbeodcheefaaa
open Go.RowKit Va

set_option maxRecDepth 100000 in
theorem inn_mem {k s l h t : Int} {A : Option Addr} {c : Nat} {ps : List Fo} (hk : k = 2 ∨ k = 3) {p : Fo} (hp : p ∈ ps) : p ∈ Fo.inn (.mk k s l h t A c ps) := by
  rw [Fo.inn, if_pos hk]; exact hp

set_option maxRecDepth 100000 in
theorem size_any (f : Fo) : ∀ (w : World) (q : Nat) (v : Va), f.In w → v.In w → Kinds w q → f.wrg = 0 →
    Calls Try.prog 62 #[.map (some q), f.val, v.val] w fun e w' => e = .returned (two (fit f v)) ∧ Grew w w' none := by
  induction f using Fo.ind with
  | H k s l h t A c ps ih =>
  intro w q v hf hv hk h0
  obtain ⟨ha, hp, _⟩ := wrg_zero h0
  have hc : ∀ p ∈ ps, (k = 2 ∨ k = 3) → ∀ u ∈ v.ls, Part w q p u := fun p hpm hk2 u hu w' g' => ih p hpm w' q u ((hf.parts p hpm).grew g') ((hv.parts u hu).grew g') (hk.grew g') (hp p (inn_mem hk2 hpm))
  rcases alone_kind ha with rfl | rfl | rfl | rfl | rfl | rfl
  · exact size_k0 w q s l h t A c ps v hf hv hk ha
  · exact size_k1 w q s l h t A c ps v hf hv hk ha
  · exact size_k2 w q s l h t A c ps v hf hv hk ha (fun p hpm u hu => hc p hpm (.inl rfl) u hu)
  · exact size_k3 w q s l h t A c ps v hf hv hk ha (fun p hpm u hu => hc p hpm (.inr rfl) u hu)
  · exact size_k4 w q s l h t A c ps v hf hv hk ha
  · exact size_k5 w q s l h t A c ps v hf hv hk ha

section
variable {ρ : Operand → Value} {o : Oper}
set_option maxRecDepth 100000 in
theorem run_value {x : Operand} {q : Nat} {v : Va} (ho : o.op = .load 29 x) (hx : ρ x = .pointer (some ⟨q, 0, none⟩)) {w : World} (hc : Whole w q v.cells 29) : (execOp ρ o).run Try.prog w = .ok (.value v.val) w := by
  obtain ⟨c0, c1, c2⟩ := hc.three
  simp [execOp, ho, hx, go_sem, c0, c1, c2]
  rfl
set_option maxRecDepth 100000 in
theorem run_extract0 {x : Operand} {r : Int × Int} (ho : o.op = .extract x 0) (hx : ρ x = two r) (w : World) : (execOp ρ o).run Try.prog w = .ok (.value (.int .i64 r.1)) w := by
  simp [execOp, ho, hx, go_sem, two]
set_option maxRecDepth 100000 in
theorem run_extract1 {x : Operand} {r : Int × Int} (ho : o.op = .extract x 1) (hx : ρ x = two r) (w : World) : (execOp ρ o).run Try.prog w = .ok (.value (.int .i64 r.2)) w := by
  simp [execOp, ho, hx, go_sem, two]
set_option maxRecDepth 100000 in
theorem run_assignV {x : Operand} {v : Value} (ho : o.op = .assign x) (hx : ρ x = v) (w : World) : (execOp ρ o).run Try.prog w = .ok (.value v) w := by
  simp [execOp, ho, hx, go_sem]
end
set_option maxRecDepth 100000 in
theorem enter_kinds : ∀ args w, (callFunc 61 args).run Try.prog w = .ok (.enter 61 args) w := fun _ _ => by kernel_rfl
set_option maxRecDepth 100000 in
theorem enter_size : ∀ args w, (callFunc 62 args).run Try.prog w = .ok (.enter 62 args) w := fun _ _ => by kernel_rfl

set_option maxRecDepth 100000 in
theorem meas_ok {f : Fo} {v : Va} (h : f.chk = 0) : meas f v = fit f v := by rw [meas, if_pos h]
set_option maxRecDepth 100000 in
theorem meas_no {f : Fo} {v : Va} (h : ¬ f.chk = 0) : meas f v = (0, f.chk) := by rw [meas, if_neg h]

set_option maxRecDepth 100000 in
set_option maxHeartbeats 1000000 in
theorem measure_any (w : World) (f : Fo) (v : Va) (hf : f.In w) (hv : v.In w) :
    Calls Try.prog 51 #[f.val, v.val] w fun e w' => e = .returned (two (meas f v)) ∧ Grew w w' none := by
  have HCk := Lib.hid (fun (w1 : World) (g : Grew w w1 none) => check_any w1 f (hf.grew g))
  have HS := Lib.hid (fun (w1 : World) (q : Nat) (g : Grew w w1 none) (hk : Kinds w1 q) (h0 : f.wrg = 0) => size_any f w1 q v (hf.grew g) (hv.grew g) hk h0)
  clear hf hv
  have hz := fun (h : f.chk = 0) => (chk_zero h).2
  have hm1 := fun (h : f.chk = 0) => meas_ok (v := v) h
  have hm2 := fun (h : ¬ f.chk = 0) => meas_no (v := v) h
  rw [val_eq, vval_eq] at *
  generalize meas f v = M at *
  generalize fit f v = Y at *
  have HZ := Lib.hid hz
  have HM1 := Lib.hid hm1
  have HM2 := Lib.hid hm2
  clear hz hm1 hm2
  go_enter Try.func51, Try.ntmps51
  go_wp2_with fail
  have hw2 := Whole.new (w.alloc (.cells #[.int .i64 f.k, .int .i64 f.s, .int .i64 f.l, .int .i64 f.h, .int .i64 f.t, .slice f.A f.ps.length f.c] 24)) #[.int .u64 v.n, .slice v.B v.bs.length v.d, .slice v.A v.ls.length v.c] 29
  have hw1 := (Whole.new w #[.int .i64 f.k, .int .i64 f.s, .int .i64 f.l, .int .i64 f.h, .int .i64 f.t, .slice f.A f.ps.length f.c] 24).grew (grew_alloc (grew_refl _ none) (.cells #[.int .u64 v.n, .slice v.B v.bs.length v.d, .slice v.A v.ls.length v.c] 29)) (by simp)
  have hg2 := grew_alloc (grew_alloc (grew_refl w none) (.cells #[.int .i64 f.k, .int .i64 f.s, .int .i64 f.l, .int .i64 f.h, .int .i64 f.t, .slice f.A f.ps.length f.c] 24)) (.cells #[.int .u64 v.n, .slice v.B v.bs.length v.d, .slice v.A v.ls.length v.c] 29)
  have hsz : (w.alloc (.cells #[.int .i64 f.k, .int .i64 f.s, .int .i64 f.l, .int .i64 f.h, .int .i64 f.t, .slice f.A f.ps.length f.c] 24)).heap.size = w.heap.size + 1 := by simp
  rw [hsz] at hw2
  clear hsz
  generalize (w.alloc (.cells #[.int .i64 f.k, .int .i64 f.s, .int .i64 f.l, .int .i64 f.h, .int .i64 f.t, .slice f.A f.ps.length f.c] 24)).alloc (.cells #[.int .u64 v.n, .slice v.B v.bs.length v.d, .slice v.A v.ls.length v.c] 29) = W2 at *
  generalize w.heap.size + 1 = qv at *
  generalize w.heap.size = qf at *
  have HW1 := Lib.hid hw1
  have HW2 := Lib.hid hw2
  have HG := Lib.hid hg2
  clear hw1 hw2 hg2
  refine (HCk.out W2 HG.out).mono ?_
  rintro e w3 ⟨rfl, g3⟩
  have HW3 := Lib.hid (HW1.out.grew g3 (by simp))
  have HV3 := Lib.hid (HW2.out.grew g3 (by simp))
  have HG3 := Lib.hid (grew_trans HG.out g3)
  clear HW1 HW2 HG g3 HCk
  by_cases hchk : f.chk = 0
  · have H0 := Lib.hid (HZ.out hchk)
    have HM := Lib.hid (HM1.out hchk)
    rw [hchk]
    clear hchk HZ HM1 HM2
    go_wp2_with fail
    refine act_letterC (fun A1 hA1 => ?_)
    have hA2 : A1.eval (.tmp 2) = .pointer (some ⟨qf, 0, none⟩) := by rw [← hA1]; rfl
    have hA3 : A1.eval (.tmp 3) = .pointer (some ⟨qv, 0, none⟩) := by rw [← hA1]; rfl
    have hsz : A1.tmps.size = 18 := by rw [← hA1]; rfl
    have HA1 := Lib.hid hA1
    clear hA1
    have G0 := Lib.hid (grew_drew (grew_refl w3 none))
    refine wp_region_held (S := fun w' => Grew w3 w' none) (by kernel_rfl) ?_
    change wpAnyH _ _ _ _ _ _ _ _ (World.drew w3)
    refine wpAnyH_take (i := 1) (v := f.val) rfl (by kernel_rfl) (by kernel_rfl) (by kernel_rfl) (fun _ _ _ h => h) (yi rfl (fun w g => run_form (f := f) rfl hA2 (HW3.out.grew g (by simp)))) G0.out ?_
    refine wpAnyH_take (i := 2) (v := v.val) rfl (by kernel_rfl) (by kernel_rfl) (by kernel_rfl) (fun _ _ _ h => h) (yi rfl (fun w g => run_value (v := v) rfl (by exact (ev_ne A1 (m := 13) (n := 3) f.val (by decide)).trans hA3) (HV3.out.grew g (by simp)))) G0.out ?_
    refine act_letter (fun A2 hA2 => ?_)
    have e13 : A2.eval (.tmp 13) = f.val := by rw [← hA2]; exact (ev_ne _ (m := 14) (n := 13) v.val (by decide)).trans (ev_self A1 13 f.val (by omega))
    have e14 : A2.eval (.tmp 14) = v.val := by rw [← hA2]; exact ev_self _ 14 v.val (by have := sz_put A1 13 f.val; exact (by omega : 14 < (A1.put (some 13) f.val).tmps.size))
    have hsz2 : A2.tmps.size = 18 := by rw [← hA2]; exact ((sz_put _ 14 v.val).trans (sz_put A1 13 f.val)).trans hsz
    have HA2 := Lib.hid (show (A1.put (some 13) f.val).put (some 14) v.val = A2 from hA2)
    clear hA2 hA3 hsz
    refine wpAnyH_ready (rs := [0]) (by kernel_rfl) (by simp) ?_
    refine AllReadyH.cons rfl (fun K hK => ?_) AllReadyH.nil
    refine wp_callH (vs := #[]) rfl rfl enter_kinds (by simp) ((kinds_any _).mono ?_)
    rintro e w4 ⟨q, rfl, hk4, g4⟩
    refine ⟨_, rfl, hK.out _ _ (grew_trans G0.out g4) (fun _ => ?_)⟩
    clear hK K
    refine act_letter (fun A3 hA3 => ?_)
    have d12 : A3.eval (.tmp 12) = .map (some q) := by rw [← hA3]; exact ev_self A2 12 _ (by omega)
    have d13 : A3.eval (.tmp 13) = f.val := by rw [← hA3]; exact (ev_ne A2 (m := 12) (n := 13) _ (by decide)).trans e13
    have d14 : A3.eval (.tmp 14) = v.val := by rw [← hA3]; exact (ev_ne A2 (m := 12) (n := 14) _ (by decide)).trans e14
    have hsz3 : A3.tmps.size = 18 := by rw [← hA3]; exact (sz_put A2 12 _).trans hsz2
    have HA3 := Lib.hid (show A2.put (some 12) (.map (some q)) = A3 from hA3)
    have HG4 := Lib.hid (grew_trans G0.out g4)
    have HK4 := Lib.hid hk4
    clear hA3 e13 e14 hsz2 G0 g4 hk4
    refine wpAnyH_ready (rs := [3]) (by kernel_rfl) (by simp) ?_
    refine AllReadyH.cons rfl (fun K hK => ?_) AllReadyH.nil
    refine wp_callH (vs := #[.map (some q), f.val, v.val]) rfl rfl enter_size (by simp [d12, d13, d14]) ((HS.out w4 q (grew_trans HG3.out HG4.out) HK4.out H0.out).mono ?_)
    rintro e w5 ⟨rfl, g5⟩
    refine ⟨_, rfl, hK.out _ _ (grew_trans HG4.out g5) (fun _ => ?_)⟩
    clear hK K
    refine act_letter (fun A4 hA4 => ?_)
    have d15 : A4.eval (.tmp 15) = two Y := by rw [← hA4]; exact ev_self A3 15 _ (by omega)
    have hsz4 : A4.tmps.size = 18 := by rw [← hA4]; exact (sz_put A3 15 _).trans hsz3
    have HA4 := Lib.hid (show A3.put (some 15) (two Y) = A4 from hA4)
    have G5 := Lib.hid (grew_trans HG4.out g5)
    clear hA4 d12 d13 d14 hsz3 HG4 g5
    refine wpAnyH_take (i := 4) (v := .int .i64 Y.1) rfl (by kernel_rfl) (by kernel_rfl) (by kernel_rfl) (fun _ _ _ h => h) (yi rfl (fun w _ => run_extract0 rfl d15 w)) G5.out ?_
    refine wpAnyH_take (i := 5) (v := .int .i64 Y.2) rfl (by kernel_rfl) (by kernel_rfl) (by kernel_rfl) (fun _ _ _ h => h) (yi rfl (fun w _ => run_extract1 rfl (by exact (ev_ne A4 (m := 16) (n := 15) _ (by decide)).trans d15) w)) G5.out ?_
    refine act_letter (fun A5 hA5 => ?_)
    have d16 : A5.eval (.tmp 16) = .int .i64 Y.1 := by rw [← hA5]; exact (ev_ne _ (m := 17) (n := 16) (Value.int .i64 Y.2) (by decide)).trans (ev_self A4 16 _ (by omega))
    have d17 : A5.eval (.tmp 17) = .int .i64 Y.2 := by rw [← hA5]; exact ev_self _ 17 _ (by have := sz_put A4 16 (.int .i64 Y.1); exact (by omega : 17 < (A4.put (some 16) (.int .i64 Y.1)).tmps.size))
    have HA5 := Lib.hid (show (A4.put (some 16) (.int .i64 Y.1)).put (some 17) (.int .i64 Y.2) = A5 from hA5)
    clear hA5 d15 hsz4
    refine wpAnyH_take (i := 6) (v := .int .i64 Y.1) rfl (by kernel_rfl) (by kernel_rfl) (by kernel_rfl) (fun _ _ _ h => h) (yi rfl (fun w _ => run_assignV rfl d16 w)) G5.out ?_
    refine wpAnyH_take (i := 7) (v := .int .i64 Y.2) rfl (by kernel_rfl) (by kernel_rfl) (by kernel_rfl) (fun _ _ _ h => h) (yi rfl (fun w _ => run_assignV rfl (by exact (ev_ne A5 (m := 4) (n := 17) _ (by decide)).trans d17) w)) G5.out ?_
    refine act_letter (fun A6 hA6 => ?_)
    have HA6 := Lib.hid (show (A5.put (some 4) (.int .i64 Y.1)).put (some 5) (.int .i64 Y.2) = A6 from hA6)
    clear hA6
    refine wpAnyH_done (by kernel_rfl) ?_ _
    rw [← HA6.out, ← HA5.out, ← HA4.out, ← HA3.out, ← HA2.out, ← HA1.out]
    have HG5 := Lib.hid (grew_trans HG3.out G5.out)
    clear HA1 HA2 HA3 HA4 HA5 HA6 G5 d16 d17 HS HW3 HV3 HG3 H0 HK4
    simp only [Act.put, List.setIfInBounds_toArray, List.set_cons_zero, List.set_cons_succ]
    go_wp2_with fail
    go_ret2
    exact ⟨by rw [HM.out]; rfl, HG5.out⟩
  · have HM := Lib.hid (HM2.out hchk)
    have hb : (f.chk != 0) = true := by simpa using hchk
    generalize f.chk = K at *
    clear hchk HZ HM1 HM2
    go_wp2_with fail
    go_ret2
    exact ⟨by rw [HM.out]; rfl, HG3.out⟩

set_option maxRecDepth 100000 in
theorem fits_any (w : World) (f : Fo) (v : Va) (hf : f.In w) (hv : v.In w) :
    Calls Try.prog 32 #[f.val, v.val] w fun e w' => e = .returned (.int .i64 (meas f v).2) ∧ Grew w w' none := by
  have HC := Lib.hid (fun (w1 : World) (g : Grew w w1 none) => measure_any w1 f v (hf.grew g) (hv.grew g))
  clear hf hv
  rw [val_eq, vval_eq] at *
  generalize meas f v = M at *
  go_enter Try.func32, Try.ntmps32
  go_wp2_with fail
  refine (HC.out _ (grew_alloc (grew_alloc (grew_refl _ _) _) _)).mono ?_
  rintro e w1 ⟨rfl, g1⟩
  unfold two
  go_wp2_with fail
  go_ret
  exact ⟨rfl, grew_trans (grew_alloc (grew_alloc (grew_refl _ _) _) _) g1⟩
set_option maxRecDepth 100000 in
theorem sizes_any (w : World) (f : Fo) (v : Va) (hf : f.In w) (hv : v.In w) :
    Calls Try.prog 33 #[f.val, v.val] w fun e w' => e = .returned (.int .i64 (meas f v).1) ∧ Grew w w' none := by
  have HC := Lib.hid (fun (w1 : World) (g : Grew w w1 none) => measure_any w1 f v (hf.grew g) (hv.grew g))
  clear hf hv
  rw [val_eq, vval_eq] at *
  generalize meas f v = M at *
  go_enter Try.func33, Try.ntmps33
  go_wp2_with fail
  refine (HC.out _ (grew_alloc (grew_alloc (grew_refl _ _) _) _)).mono ?_
  rintro e w1 ⟨rfl, g1⟩
  unfold two
  go_wp2_with fail
  go_ret
  exact ⟨rfl, grew_trans (grew_alloc (grew_alloc (grew_refl _ _) _) _) g1⟩
end Go.Proofs.Ytibbeodcheefaaa


/- Writing: Append, Write. -/
namespace Go.Proofs.Ytibbeodcheefaaa
open Go.RowKit Va

/-- A copy into a row, told by a frame. -/
theorem wpList_copy_fr {P : Program} {w : World} {ops : Array Oper} {rest : List Oper} {o : Oper} {a : Act} {Q : Exit → Act → World → Prop} (hgd : o.guard = none) (d s : Operand) (dT sT : TypeId)
    (ho : o.op = .call { callee := .builtin .copy, args := #[d, s], argTypes := #[dT, sT] }) (elem : TypeId) (hu : P.underlying dT = some (.slice elem)) (hsz : (P.info? elem).map (·.size) = some 1)
    (dp sp : Option Addr) (dLen dCap sLen sCap : Nat) (hd : a.eval d = .slice dp dLen dCap) (hs : a.eval s = .slice sp sLen sCap)
    (g off : Nat) (cur : List Value) (t : TypeId) (hg : w.heap[g]? = some (.cells cur.toArray t (0, 0))) (cs : List Value) (hn : cs.length = Nat.min sLen dLen)
    (hpos : 0 < cs.length → dp = some ⟨g, off, none⟩ ∧ ∃ ad, sp = some ad ∧ ∀ j v, cs[j]? = some v → w.cell? (ad.add j) = some v)
    (hfit : off + cs.length ≤ cur.length) (h1 : ∀ v ∈ cs, v.oneCell' = true)
    (h : ∀ w', Hid (w'.heap[g]? = some (.cells (splice cur off cs).toArray t (0, 0))) → Hid (Fr w w' (fun i => i = g)) → wpList P ops Q rest (a.put o.dst (goInt cs.length)) w') :
    wpList P ops Q (o :: rest) a w := by
  by_cases h0 : cs.length = 0
  · obtain rfl : cs = [] := List.eq_nil_of_length_eq_zero h0
    refine wpList_copy_nothing hgd d s dT sT ho elem hu hsz dp sp dLen dCap sLen sCap hd hs (by simpa using hn.symm) ?_
    exact h w (show _ = _ by simpa [splice] using hg) (Lib.hid (Fr.refl _ _))
  · obtain ⟨rfl, ad, rfl, hsrc⟩ := hpos (by omega)
    refine wpList_copy_own hgd d s dT sT ho elem hu hsz g off dLen dCap ad sLen sCap hd hs cur.toArray t hg cs hn hsrc (by simpa using hfit) h1 ?_
    exact h _ (show _ = _ by simpa [splice] using setRow_heap w g _ _ t _ hg) (Lib.hid (fr_setRow _ _ _))

theorem make_bytes (m n : Nat) (hm : m + n ≤ 100000000) (W : World) : (Instr.makeSlice 26 (.int .i64 (m : Int)) (.int .i64 ((m : Int) + n))).run Try.prog W = .ok (.slice (some ⟨W.heap.size, 0, none⟩) m (m + n)) (W.alloc (.cells (madeCells #[.int .u8 0] (m + n)) 5)) := by
  obtain ⟨i, hi, hz⟩ := Option.map_eq_some_iff.1 info_u8
  simp only [Prod.mk.injEq] at hz
  obtain ⟨hz0, hz1, hz2⟩ := hz
  have := run_make (P := Try.prog) W 26 5 i _ Try.underlying26 hi hz0 .i64 .i64 (m : Int) ((m : Int) + n) (by omega) (by omega) (by rw [hz2]; omega) (by omega)
  rw [hz1, Nat.mul_one, Int.toNat_natCast, show ((m : Int) + n).toNat = m + n by omega] at this
  exact this
theorem size_u8' : (Try.prog.info? 5).map (·.size) = some 1 := by kernel_rfl

set_option maxRecDepth 100000 in
set_option maxHeartbeats 1000000 in
/-- Of what doesn't fit. -/
theorem append_no (w : World) (f : Fo) (hf : f.In w) (v : Va) (hv : v.In w) (hn : (meas f v).2 ≠ 0) (b : Value) :
    Calls Try.prog 19 #[b, f.val, v.val] w fun e w' => e = .returned (.tuple #[.slice none 0 0, .int .i64 (meas f v).2]) ∧ Grew w w' none := by
  obtain ⟨g1, k0, k1, ks⟩ := two_new w #[.int .i64 f.k, .int .i64 f.s, .int .i64 f.l, .int .i64 f.h, .int .i64 f.t, .slice f.A f.ps.length f.c] 24 #[.int .u64 v.n, .slice v.B v.bs.length v.d, .slice v.A v.ls.length v.c] 29
  have hc := fits_any _ f v (hf.grew g1) (hv.grew g1)
  rw [val_eq, vval_eq] at *
  have HC := Lib.hid hc
  have G1 := Lib.hid g1
  clear hc g1 k0 k1 ks hf hv
  generalize (meas f v).2 = E at *
  go_enter Try.func19, Try.ntmps19
  go_wp2_with fail
  refine HC.out.mono ?_
  rintro e w1 ⟨rfl, g2⟩
  have G2 := Lib.hid g2
  clear g2 HC
  go_wp2_with fail
  go_ret2
  exact ⟨rfl, grew_trans G1.out G2.out⟩

/-- An owned row out of a block. -/
theorem own_of {w : World} {g n c : Nat} {cs : List Value} {xs : List UInt8} (h : w.heap[g]? = some (.cells cs.toArray 5 (0, 0))) (hn : xs.length = n) (hc : cs.length = c) (hnc : n ≤ c) (hm : c ≤ 100000000) (ht : cs.take n = cellsOf xs) :
    w.ownsRow 0 5 1 (.slice (some ⟨g, 0, none⟩) n c) n (cellsOf xs) :=
  ⟨by rw [cellsOf_length]; omega, .inr ⟨g, c, cs.toArray, rfl, Nat.zero_le _, h, hnc, by unfold maxLen; omega, by simp [hc], by rw [Nat.mul_one]; exact ht⟩⟩

set_option maxRecDepth 100000 in
set_option maxHeartbeats 2000000 in
theorem append_ok (w : World) (f : Fo) (hf : f.In w) (v : Va) (hv : v.In w) (A : Option Addr) (bs : List UInt8) (cb : Nat) (hb : Byt w w.heap.size A bs) (hw : f.wrg = 0) (n : Int) (hn : fit f v = (n, 0)) (hm : meas f v = (n, 0)) (hfit : bs.length + (Rd.wr f v).length ≤ 10000000) :
    Calls Try.prog 19 #[.slice A bs.length cb, f.val, v.val] w fun e w' => ∃ vb, e = .returned (.tuple #[vb, .int .i64 0]) ∧ w'.ownsRow 0 5 1 vb (bs ++ Rd.wr f v).length (cellsOf (bs ++ Rd.wr f v)) ∧ (∀ g, vb.ownBlock = some g → w.heap.size ≤ g) ∧ Grew w w' none := by
  obtain ⟨g1, k0, k1, ks⟩ := two_new w #[.int .i64 f.k, .int .i64 f.s, .int .i64 f.l, .int .i64 f.h, .int .i64 f.t, .slice f.A f.ps.length f.c] 24 #[.int .u64 v.n, .slice v.B v.bs.length v.d, .slice v.A v.ls.length v.c] 29
  have hlen := Rd.wr_len f hw v n hn (by omega)
  have hcF := fun (W : World) (g : Grew w W none) => fits_any W f v (hf.grew g) (hv.grew g)
  have hcS := fun (W : World) (g : Grew w W none) => sizes_any W f v (hf.grew g) (hv.grew g)
  have hcO := fun (W : World) (F : Nat → Prop) (q : Nat) (g : Grew w W none) (hF : ∀ i, F i → w.heap.size ≤ i) (h : Ob W F q bs) => ous_any f hw w W v n F q bs hf hv g hF h hn hfit
  rw [val_eq, vval_eq] at *
  simp only [hm] at hcF hcS
  have HF := Lib.hid hcF
  have HS := Lib.hid hcS
  have HO := Lib.hid hcO
  have G1 := Lib.hid g1
  have K0 := Lib.hid k0
  have K1 := Lib.hid k1
  have KS := Lib.hid ks
  have HB := Lib.hid hb
  clear hcF hcS hcO g1 k0 k1 ks hf hv hm hn hb hw
  generalize Rd.wr f v = Z at *
  subst hlen
  have hz : IntKind.i64.wrap ((bs.length : Int) + Z.length) = (bs.length : Int) + Z.length := IntWalk.i64_in _ (by omega)
  have hmk := make_bytes bs.length Z.length (by omega)
  go_enter Try.func19, Try.ntmps19
  go_wp2_with fail
  refine (HF.out _ G1.out).mono ?_
  rintro e w1 ⟨rfl, g2⟩
  obtain ⟨a0, a1, a2, a3, a4, a5⟩ := (K0.out.grew g2 (by simp)).six
  obtain ⟨c0, c1, c2⟩ := (K1.out.grew g2 (by simp)).three
  have GA := Lib.hid (grew_trans G1.out g2)
  have G2 := Lib.hid g2
  clear g2 HF
  go_wp2_with fail
  refine (HS.out _ GA.out).mono ?_
  rintro e w2 ⟨rfl, g3⟩
  have K0' := Lib.hid ((K0.out.grew G2.out (by simp)).grew g3 (by simp))
  have K1' := Lib.hid ((K1.out.grew G2.out (by simp)).grew g3 (by simp))
  have GB := Lib.hid (grew_trans GA.out g3)
  clear g3 HS a0 a1 a2 a3 a4 a5 c0 c1 c2 K0 K1 G2 GA
  go_upto_region 5 with (fail)
  obtain ⟨g4, m0, m1, ms⟩ := two_new w2 (madeCells #[.int .u8 0] (bs.length + Z.length)) 5 #[.slice (some ⟨w2.heap.size, 0, none⟩) bs.length (bs.length + Z.length)] 26
  have m10 := m1.cell 0
  simp only [List.getElem?_toArray, List.getElem?_cons_zero] at m10
  have K0'' := Lib.hid (K0'.out.grew g4 (by simp))
  have K1'' := Lib.hid (K1'.out.grew g4 (by simp))
  have GC := Lib.hid (grew_trans GB.out g4)
  have M0 := Lib.hid m0
  have M1 := Lib.hid m1
  have MS := Lib.hid ms
  have S2 := Lib.hid (show w.heap.size + 2 ≤ w2.heap.size by have := K1'.out.lt; omega)
  have HB2 := Lib.hid ((HB.out.grew GC.out (fun _ h => by cases h)).byf)
  clear g4 m0 m1 ms K0' K1' HB hmk
  generalize (w2.alloc (.cells (madeCells #[.int .u8 0] (bs.length + Z.length)) 5)).alloc (.cells #[.slice (some ⟨w2.heap.size, 0, none⟩) bs.length (bs.length + Z.length)] 26) = W3 at *
  generalize hq : w2.heap.size = q at *
  clear hq GB
  go_wp2_with (with_reducible refine wpList_copy_fr (o := ⟨some 28, _, _, _, _, _⟩) rfl (.tmp 26) (.tmp 27) 26 26 rfl 5 Try.underlying26 size_u8' (some ⟨q, 0, none⟩) A bs.length (bs.length + Z.length) bs.length cb rfl rfl q 0 (List.replicate (bs.length + Z.length) (.int .u8 0)) 5 ?hg (cellsOf bs) ?hn ?hpos ?hfit ?h1 ?K)
  case hg => rw [← toList_madeCells_one, Array.toArray_toList]; exact M0.out
  case hn => rw [cellsOf_length]; simp
  case hpos => exact HB2.out.src
  case hfit => rw [cellsOf_length]; simp
  case h1 => exact cellsOf_one _
  case K =>
    intro w4 h4 f4
    have k0 := K0''.out.fr f4.out (by have := S2.out; omega)
    have k1 := K1''.out.fr f4.out (by have := S2.out; omega)
    have m1 := M1.out.fr f4.out (by omega)
    obtain ⟨a0, a1, a2, a3, a4, a5⟩ := k0.six
    obtain ⟨c0, c1, c2⟩ := k1.three
    have hg4 : Grew w w4 none := grew_fr GC.out f4.out (fun i hi => by have := S2.out; omega)
    have hob : Ob w4 (fun i => i = q ∨ i = q + 1) (q + 1) bs := by
      refine ⟨_, m1, own_of h4.out rfl (by rw [length_splice _ _ _ (by rw [cellsOf_length]; simp)]; simp) (by omega) (by omega) ?_, .inr rfl, ?_, ?_⟩
      · rw [splice, List.take_zero, List.nil_append]
        exact List.take_left' (cellsOf_length _)
      · intro g hg
        cases hg
        exact .inl rfl
      · have h1 := m1.lt
        rintro i (rfl | rfl) <;> omega
    have GD := Lib.hid hg4
    have HOB := Lib.hid hob
    have HC := Lib.hid (HO.out w4 _ (q + 1) hg4 (fun i hi => by have := S2.out; omega) hob)
    clear k0 k1 m1 h4 f4 hg4 hob m10
    go_wp2_with fail
    refine HC.out.mono ?_
    rintro e w5 ⟨rfl, F5, o5, fr5, n5⟩
    obtain ⟨vb, y1, y2, y3, y4, y5⟩ := o5
    have y10 := y1.cell 0
    simp only [List.getElem?_toArray, List.getElem?_cons_zero] at y10
    have HR := Lib.hid (show w5.ownsRow 0 5 1 vb (bs ++ Z).length (cellsOf (bs ++ Z)) ∧ (∀ g, vb.ownBlock = some g → w.heap.size ≤ g) ∧ Grew w w5 none from
      ⟨y2, fun g hg => by
        have h1 := GD.out.size
        have h2 := S2.out
        rcases n5 g (y4 g hg) with h | h <;> omega, grew_fr GD.out fr5 (fun i hi => by have := S2.out; omega)⟩)
    clear y1 y2 y3 y4 y5 fr5 n5 HC HO a0 a1 a2 a3 a4 a5 c0 c1 c2
    generalize hY : bs ++ Z = Y at HR
    have HY := Lib.hid hY
    clear hY
    obtain ⟨A', c', rfl, _⟩ := own_form HR.out.1
    go_wp2_with fail
    go_ret2
    rw [HY.out]
    exact ⟨_, rfl, HR.out⟩

set_option maxRecDepth 100000 in
set_option maxHeartbeats 1000000 in
theorem write_no (w : World) (f : Fo) (hf : f.In w) (v : Va) (hv : v.In w) (hn : (meas f v).2 ≠ 0) :
    Calls Try.prog 10 #[f.val, v.val] w fun e w' => e = .returned (.tuple #[.slice none 0 0, .int .i64 (meas f v).2]) ∧ Grew w w' none := by
  obtain ⟨g1, k0, k1, ks⟩ := two_new w #[.int .i64 f.k, .int .i64 f.s, .int .i64 f.l, .int .i64 f.h, .int .i64 f.t, .slice f.A f.ps.length f.c] 24 #[.int .u64 v.n, .slice v.B v.bs.length v.d, .slice v.A v.ls.length v.c] 29
  have hc := append_no _ f (hf.grew g1) v (hv.grew g1) hn (.slice none 0 0)
  rw [val_eq, vval_eq] at *
  have HC := Lib.hid hc
  have G1 := Lib.hid g1
  clear hc g1 k0 k1 ks hf hv
  generalize (meas f v).2 = E at *
  go_enter Try.func10, Try.ntmps10
  go_wp2_with fail
  refine HC.out.mono ?_
  rintro e w1 ⟨rfl, g2⟩
  have G2 := Lib.hid g2
  clear g2 HC
  go_wp2_with fail
  go_ret2
  exact ⟨rfl, grew_trans G1.out G2.out⟩

set_option maxRecDepth 100000 in
set_option maxHeartbeats 1000000 in
theorem write_ok (w : World) (f : Fo) (hf : f.In w) (v : Va) (hv : v.In w) (hw : f.wrg = 0) (n : Int) (hn : fit f v = (n, 0)) (hm : meas f v = (n, 0)) (hfit : (Rd.wr f v).length ≤ 10000000) :
    Calls Try.prog 10 #[f.val, v.val] w fun e w' => ∃ vb, e = .returned (.tuple #[vb, .int .i64 0]) ∧ w'.ownsRow 0 5 1 vb (Rd.wr f v).length (cellsOf (Rd.wr f v)) ∧ (∀ g, vb.ownBlock = some g → w.heap.size ≤ g) ∧ Grew w w' none := by
  obtain ⟨g1, k0, k1, ks⟩ := two_new w #[.int .i64 f.k, .int .i64 f.s, .int .i64 f.l, .int .i64 f.h, .int .i64 f.t, .slice f.A f.ps.length f.c] 24 #[.int .u64 v.n, .slice v.B v.bs.length v.d, .slice v.A v.ls.length v.c] 29
  have hc := append_ok _ f (hf.grew g1) v (hv.grew g1) none [] 0 (fun h => by simp at h) hw n hn hm (by simpa using hfit)
  rw [List.nil_append] at hc
  rw [val_eq, vval_eq] at *
  have HC := Lib.hid hc
  have G1 := Lib.hid g1
  clear hc g1 k0 k1 ks hf hv hw hn hm hfit
  generalize Rd.wr f v = Z at *
  go_enter Try.func10, Try.ntmps10
  go_wp2_with fail
  refine HC.out.mono ?_
  rintro e w1 ⟨vb, rfl, y1, y2, y3⟩
  have HR := Lib.hid (show w1.ownsRow 0 5 1 vb Z.length (cellsOf Z) ∧ (∀ g, vb.ownBlock = some g → w.heap.size ≤ g) ∧ Grew w w1 none from ⟨y1, fun g hg => Nat.le_trans G1.out.size (y2 g hg), grew_trans G1.out y3⟩)
  clear y1 y2 y3 HC
  go_wp2_with fail
  go_ret2
  exact ⟨_, rfl, HR.out⟩
end Go.Proofs.Ytibbeodcheefaaa


/- The document's example of what is written. -/
namespace Go.Proofs.Ytibbeodcheefaaa
open Go.RowKit Va

theorem five_new (w : World) (c0 c1 c2 c3 c4 : Array Value) (t0 t1 t2 t3 t4 : TypeId) (W : World) (hW : W = ((((w.alloc (.cells c0 t0)).alloc (.cells c1 t1)).alloc (.cells c2 t2)).alloc (.cells c3 t3)).alloc (.cells c4 t4)) :
    Grew w W none ∧ Whole W w.heap.size c0 t0 ∧ Whole W (w.heap.size + 1) c1 t1 ∧ Whole W (w.heap.size + 2) c2 t2 ∧ Whole W (w.heap.size + 3) c3 t3 ∧ Whole W (w.heap.size + 4) c4 t4 := by
  subst hW
  obtain ⟨g1, k0, k1, k2, ks⟩ := three_new w c0 t0 c1 t1 c2 t2
  obtain ⟨g2, k3, k4, ks'⟩ := two_new (((w.alloc (.cells c0 t0)).alloc (.cells c1 t1)).alloc (.cells c2 t2)) c3 t3 c4 t4
  rw [ks] at k3 k4
  exact ⟨grew_trans g1 g2, k0.grew g2 (by simp), k1.grew g2 (by simp), k2.grew g2 (by simp), k3, k4⟩

def exF (a b : Addr) : Fo := .mk 3 0 0 0 0 (some b) 2 [.mk 0 2 0 0 0 none 0 [], .mk 2 1 0 9 1 (some a) 1 [.mk 0 1 0 0 0 none 0 []]]
def exV (a b : Addr) : Va := .mk 0 none 0 [] (some b) 2 [.mk 258 none 0 [] none 0 [], .mk 0 none 0 [] (some a) 2 [.mk 5 none 0 [] none 0 [], .mk 6 none 0 [] none 0 []]]
theorem exF_wrg (a b : Addr) : (exF a b).wrg = 0 := rfl
theorem exF_chk (a b : Addr) : (exF a b).chk = 0 := rfl
theorem ex_fit (a b c d : Addr) : fit (exF a b) (exV c d) = (5, 0) := by kernel_rfl
theorem ex_wr (a b c d : Addr) : Rd.wr (exF a b) (exV c d) = [1, 2, 2, 5, 6] := rfl

set_option maxRecDepth 100000 in
set_option maxHeartbeats 2000000 in
theorem alive7_any (w : World) : Calls Try.prog 8 #[] w fun e w' => e = .returned (.bool true) ∧ Grew w w' none := by
  have HN := Lib.hid (five_new w #[.int .i64 0, .int .i64 1, .int .i64 0, .int .i64 0, .int .i64 0, .slice none 0 0] #[.int .i64 0, .int .i64 2, .int .i64 0, .int .i64 0, .int .i64 0, .slice none 0 0, .int .i64 2, .int .i64 1, .int .i64 0, .int .i64 9, .int .i64 1, .slice (some ⟨w.heap.size, 0, none⟩) 1 1]
    #[.int .i64 3, .int .i64 0, .int .i64 0, .int .i64 0, .int .i64 0, .slice (some ⟨w.heap.size + 1, 0, none⟩) 2 2] #[.int .u64 5, .slice none 0 0, .slice none 0 0, .int .u64 6, .slice none 0 0, .slice none 0 0] #[.int .u64 258, .slice none 0 0, .slice none 0 0, .int .u64 0, .slice none 0 0, .slice (some ⟨w.heap.size + 3, 0, none⟩) 2 2] 24 24 24 29 29)
  go_enter Try.func8, Try.ntmps8
  go_wp2_with fail
  obtain ⟨g, k0, k1, k2, k3, k4⟩ := HN.out _ rfl
  have hf : (exF ⟨w.heap.size, 0, none⟩ ⟨w.heap.size + 1, 0, none⟩).In _ := .mk (by simp) (by simp) (Fo.Lie.whole k1 rfl) (fun p hp => by
    simp only [List.mem_cons, List.not_mem_nil, or_false] at hp
    rcases hp with rfl | rfl
    · exact .mk (by decide) (by decide) (fun h => by simp at h) (fun p hp => by simp at hp)
    · exact .mk (by simp) (by simp) (Fo.Lie.whole k0 rfl) (fun p hp => by
        simp only [List.mem_cons, List.not_mem_nil, or_false] at hp
        subst hp
        exact .mk (by decide) (by decide) (fun h => by simp at h) (fun p hp => by simp at hp)))
  have hN : ∀ (W : World) (x : Int), 0 ≤ x ∧ x ≤ 18446744073709551615 → (Va.mk x none 0 [] none 0 []).In W := fun W x h => .mk h (fun h => by simp at h) (by decide) (by decide) (by decide) (fun h => by simp at h) (fun p hp => by simp at hp)
  have hv : (exV ⟨w.heap.size + 3, 0, none⟩ ⟨w.heap.size + 4, 0, none⟩).In _ := .mk (by decide) (fun h => by simp at h) (by simp) (by simp) (by simp) (Va.Lie.whole k4 rfl) (fun p hp => by
    simp only [List.mem_cons, List.not_mem_nil, or_false] at hp
    rcases hp with rfl | rfl
    · exact hN _ _ (by decide)
    · exact .mk (by decide) (fun h => by simp at h) (by simp) (by simp) (by simp) (Va.Lie.whole k3 rfl) (fun p hp => by
        simp only [List.mem_cons, List.not_mem_nil, or_false] at hp
        rcases hp with rfl | rfl
        · exact hN _ _ (by decide)
        · exact hN _ _ (by decide)))
  have hc := write_ok _ _ hf _ hv (exF_wrg _ _) 5 (ex_fit _ _ _ _) (by rw [meas, exF_chk, if_pos rfl, ex_fit]) (by rw [ex_wr]; decide)
  rw [ex_wr] at hc
  have HC := Lib.hid hc
  have HG := Lib.hid g
  clear HN g k0 k1 k2 k3 k4 hf hv hN hc
  refine HC.out.mono ?_
  rintro e w1 ⟨vb, rfl, y1, y2, y3⟩
  obtain ⟨A, c, rfl, _, hb⟩ := byt_of_own y1
  have cv := conv_txt w1 Try.underlying26 Try.underlying5 Try.underlying9 hb rfl c
  have HR := Lib.hid (grew_trans HG.out y3)
  clear y1 y2 y3 HC HG hb
  have ht : (txt [1, 2, 2, 5, 6]).toList = [1, 2, 2, 5, 6] := by rw [ByteArray.toList_eq]; rfl
  simp only [List.length_cons, List.length_nil] at *
  go_wp2_with fail
  go_ret
  exact ⟨rfl, HR.out⟩
end Go.Proofs.Ytibbeodcheefaaa


/- How many values there are, and bytes in them: the document's Count and Bytes; Great. -/
namespace Go.Proofs.Ytibbeodcheefaaa
open Go.RowKit Va

set_option maxHeartbeats 1000000 in
theorem vcount_any (v : Va) : ∀ (m : Int) (w : World), 0 ≤ m → m ≤ 1099511627776 → v.In w →
    Calls Try.prog 21 #[v.val, .int .i64 m] w fun e w' => e = .returned (.int .i64 (min (v.cnt : Int) (m + 1))) ∧ Grew w w' none := by
  induction v using Va.ind with
  | H n B d bs A c ls ih =>
  intro m w h0 h1 hin
  have hlist := hin.list
  simp only [Va.A, Va.ls, Va.c] at hlist
  have hz := hlist.2.2
  have IH := Lib.hid ih
  have HL := Lib.hid hlist.1
  have HM := Lib.hid hin.parts
  have HD := Lib.hid (show cnt (.mk n B d bs A c ls) = cnts ls + 1 by rw [cnt])
  generalize cnt (.mk n B d bs A c ls) = D at *
  clear ih hlist hin
  change Hid (∀ p ∈ ls, In w p) at HM
  change Calls Try.prog 21 #[.agg #[.int .u64 n, .slice B bs.length d, .slice A ls.length c], .int .i64 m] w _
  have HR := Lib.hid (show Grew w (w.alloc (.cells #[.int .u64 n, .slice B bs.length d, .slice A ls.length c] 29)) none ∧ Whole (w.alloc (.cells #[.int .u64 n, .slice B bs.length d, .slice A ls.length c] 29)) w.heap.size #[.int .u64 n, .slice B bs.length d, .slice A ls.length c] 29 ∧ (1 : Int) = min (cnts (ls.take 0) + 1 : Int) (m + 1) from ⟨grew_alloc (grew_refl _ _) _, Whole.new _ _ _, by simp [cnts]; omega⟩)
  go_enter Try.func21, Try.ntmps21
  go_wp2_with fail
  generalize w.alloc (.cells #[.int .u64 n, .slice B bs.length d, .slice A ls.length c] 29) = W0 at *
  generalize w.heap.size = q at *
  go_loopw [6, 5] (fun i y wr => ∃ (j : Nat) (x : Int), j ≤ ls.length ∧ i = .int .i64 j ∧ y = .int .i64 x ∧ 1 ≤ x ∧ x ≤ m + 1 ∧ Hid (Grew w wr none ∧ Whole wr q #[.int .u64 n, .slice B bs.length d, .slice A ls.length c] 29 ∧ x = min (cnts (ls.take j) + 1 : Int) (m + 1))) (fun i _ _ => ls.length - (intOf i).toNat)
  case atStart => exact ⟨0, 1, Nat.zero_le _, rfl, rfl, by omega, by omega, HR⟩
  case round =>
    obtain ⟨j, x, hj, rfl, rfl, x0, x1, R⟩ := hrel
    obtain ⟨c0, c1, c2⟩ := R.out.2.1.three
    by_cases hlt : j < ls.length
    · by_cases hm : x ≤ m
      · obtain ⟨b, o, p, rfl, hp, hpm, d0, d1, d2⟩ := (HL.out.grew R.out.1).at hlt
        have HP := Lib.hid (show ls[j]? = some p ∧ p ∈ ls from ⟨hp, hpm⟩)
        clear hp hpm
        go_wp2_with fail
        refine (IH.out p HP.out.2 (m - x) _ (by omega) (by omega) ((HM.out p HP.out.2).grew R.out.1)).mono ?_
        rintro e w2 ⟨rfl, g2⟩
        have hcp := cnt_pos p
        have key := cnts_take HP.out.1
        have hr := R.out.2.2
        have HG := Lib.hid (show Grew w w2 none ∧ Whole w2 q _ _ from ⟨grew_trans R.out.1 g2, R.out.2.1.grew g2 (by simp)⟩)
        generalize hy : min (cnt p : Int) (m - x + 1) = y at *
        clear c0 c1 c2 d0 d1 d2 g2
        have y1 : x + y ≤ m + 1 := by omega
        have y0 : 0 ≤ y := by omega
        have HR2 := Lib.hid (show Grew w w2 none ∧ Whole w2 q #[.int .u64 n, .slice B bs.length d, .slice (some ⟨b, o, none⟩) ls.length c] 29 ∧ x + y = min (cnts (ls.take (j + 1)) + 1 : Int) (m + 1) from ⟨HG.out.1, HG.out.2, by rw [key]; omega⟩)
        clear hy key hr R hcp HG
        go_wp2_with fail
        go_roundw
        case rel => exact ⟨j + 1, x + y, by omega, by go_num, rfl, by omega, by omega, HR2⟩
        case measure => simp [intOf]; omega
      · have HE := Lib.hid (show x = min (D : Int) (m + 1) by
          have h3 := R.out.2.2
          have := HD.out
          have := cnts_take_le ls j
          omega)
        have HG := Lib.hid R.out.1
        clear R
        go_wp2_with fail
        go_ret
        exact ⟨by rw [HE.out]; rfl, HG.out⟩
    · have HE := Lib.hid (show x = min (D : Int) (m + 1) by
        have h3 := R.out.2.2
        have : j = ls.length := by omega
        rw [this, List.take_length] at h3
        have := HD.out
        omega)
      have HG := Lib.hid R.out.1
      clear R
      go_wp2_with fail
      go_ret
      exact ⟨by rw [HE.out]; rfl, HG.out⟩

/-- Some number from 0 on, not too great. -/
def SomeUp (M : Int) (w : World) (e : Ending) (w' : World) : Prop := ∃ r : Int, e = .returned (.int .i64 r) ∧ 0 ≤ r ∧ r ≤ M ∧ Grew w w' none

set_option maxHeartbeats 1000000 in
theorem vbyt_any (v : Va) : ∀ (m : Int) (w : World), 0 ≤ m → m ≤ 1099511627776 → v.In w →
    Calls Try.prog 22 #[v.val, .int .i64 m] w (SomeUp (m + 140737488355328) w) := by
  induction v using Va.ind with
  | H n B d bs A c ls ih =>
  intro m w h0 h1 hin
  have hlist := hin.list
  have hbs := hin.bytes.2.2
  simp only [Va.A, Va.ls, Va.c, Va.bs] at hlist hbs
  have hz := hlist.2.2
  have IH := Lib.hid ih
  have HL := Lib.hid hlist.1
  have HM := Lib.hid hin.parts
  clear ih hlist hin
  change Hid (∀ p ∈ ls, In w p) at HM
  change Calls Try.prog 22 #[.agg #[.int .u64 n, .slice B bs.length d, .slice A ls.length c], .int .i64 m] w _
  have HR := Lib.hid (show Grew w (w.alloc (.cells #[.int .u64 n, .slice B bs.length d, .slice A ls.length c] 29)) none ∧ Whole (w.alloc (.cells #[.int .u64 n, .slice B bs.length d, .slice A ls.length c] 29)) w.heap.size #[.int .u64 n, .slice B bs.length d, .slice A ls.length c] 29 from ⟨grew_alloc (grew_refl _ _) _, Whole.new _ _ _⟩)
  go_enter Try.func22, Try.ntmps22
  go_wp2_with fail
  generalize w.alloc (.cells #[.int .u64 n, .slice B bs.length d, .slice A ls.length c] 29) = W0 at *
  generalize w.heap.size = q at *
  go_loopw [6, 5] (fun i y wr => ∃ (j : Nat) (x : Int), j ≤ ls.length ∧ i = .int .i64 j ∧ y = .int .i64 x ∧ 0 ≤ x ∧ x ≤ m + 140737488355328 ∧ Hid (Grew w wr none ∧ Whole wr q #[.int .u64 n, .slice B bs.length d, .slice A ls.length c] 29)) (fun i _ _ => ls.length - (intOf i).toNat)
  case atStart => exact ⟨0, bs.length, Nat.zero_le _, rfl, rfl, by omega, by omega, HR⟩
  case round =>
    obtain ⟨j, x, hj, rfl, rfl, x0, x1, R⟩ := hrel
    obtain ⟨c0, c1, c2⟩ := R.out.2.three
    by_cases hlt : j < ls.length
    · by_cases hm : x ≤ m
      · obtain ⟨b, o, p, rfl, hp, hpm, d0, d1, d2⟩ := (HL.out.grew R.out.1).at hlt
        have HP := Lib.hid (show ls[j]? = some p ∧ p ∈ ls from ⟨hp, hpm⟩)
        clear hp hpm
        go_wp2_with fail
        refine (IH.out p HP.out.2 (m - x) _ (by omega) (by omega) ((HM.out p HP.out.2).grew R.out.1)).mono ?_
        rintro e w2 ⟨y, rfl, y0, y1, g2⟩
        have HR2 := Lib.hid (show Grew w w2 none ∧ Whole w2 q #[.int .u64 n, .slice B bs.length d, .slice (some ⟨b, o, none⟩) ls.length c] 29 from ⟨grew_trans R.out.1 g2, R.out.2.grew g2 (by simp)⟩)
        clear c0 c1 c2 d0 d1 d2 g2 R
        go_wp2_with fail
        go_roundw
        case rel => exact ⟨j + 1, x + y, by omega, by go_num, rfl, by omega, by omega, HR2⟩
        case measure => simp [intOf]; omega
      · have HG := Lib.hid R.out.1
        clear R
        go_wp2_with fail
        go_ret
        exact ⟨x, rfl, x0, x1, HG.out⟩
    · have HG := Lib.hid R.out.1
      clear R
      go_wp2_with fail
      go_ret
      exact ⟨x, rfl, x0, x1, HG.out⟩

set_option maxHeartbeats 1000000 in
/-- Great: 0 or 1. -/
theorem vgreat_any (w : World) (f : Fo) (A : Option Addr) (c : Nat) (ls : List Va) (hf : f.In w) (hl : Va.Lie w A ls) (hp : ∀ v ∈ ls, v.In w) (hz : ls.length ≤ 2513169434916) :
    Calls Try.prog 9 #[f.val, .slice A ls.length c] w (SomeUp 1 w) := by
  have HF := Lib.hid hf
  have HL := Lib.hid hl
  have HP := Lib.hid hp
  clear hf hl hp
  change Calls Try.prog 9 #[.agg #[.int .i64 f.k, .int .i64 f.s, .int .i64 f.l, .int .i64 f.h, .int .i64 f.t, .slice f.A f.ps.length f.c], .slice A ls.length c] w _
  go_enter Try.func9, Try.ntmps9
  go_wp2_with fail
  refine (count_any f 500 _ (by omega) (by omega) (HF.out.grew (grew_alloc (grew_refl _ _) _))).mono ?_
  rintro e w1 ⟨rfl, g1⟩
  have HG1 := Lib.hid (grew_trans (grew_alloc (grew_refl w none) _) g1)
  clear g1
  have hc0 : (0 : Int) ≤ min (f.cnt : Int) (500 + 1) := by omega
  generalize min (f.cnt : Int) (500 + 1) = C at *
  by_cases hC : 500 < C
  · go_wp2_with fail
    go_ret
    exact ⟨1, rfl, by omega, by omega, HG1.out⟩
  · go_wp2_with fail
    go_loopw [12] (fun i wr => ∃ (j : Nat), j ≤ ls.length ∧ i = .int .i64 j ∧ Hid (Grew w wr none)) (fun i _ => ls.length - (intOf i).toNat)
    case atStart => exact ⟨0, Nat.zero_le _, rfl, HG1⟩
    case round =>
      obtain ⟨j, hj, rfl, R⟩ := hrel
      by_cases hlt : j < ls.length
      · obtain ⟨b, o, v, rfl, hv, hvm, d0, d1, d2⟩ := (HL.out.grew R.out).at hlt
        have HV := Lib.hid (HP.out v hvm)
        clear hv hvm
        go_wp2_with fail
        have hw := Whole.new wr #[.int .u64 v.n, .slice v.B v.bs.length v.d, .slice v.A v.ls.length v.c] 29
        have hg := grew_alloc R.out (.cells #[.int .u64 v.n, .slice v.B v.bs.length v.d, .slice v.A v.ls.length v.c] 29)
        clear d0 d1 d2 R
        generalize wr.alloc (.cells #[.int .u64 v.n, .slice v.B v.bs.length v.d, .slice v.A v.ls.length v.c] 29) = W1 at *
        generalize wr.heap.size = qv at *
        have HW := Lib.hid hw
        have HG := Lib.hid hg
        clear hw hg
        refine (vcount_any v 2000 _ (by omega) (by omega) (HV.out.grew HG.out)).mono ?_
        rintro e w2 ⟨rfl, g2⟩
        have hc1 : (0 : Int) ≤ min (v.cnt : Int) (2000 + 1) := by omega
        obtain ⟨d0, d1, d2⟩ := (HW.out.grew g2 (by simp)).three
        have HG2 := Lib.hid (grew_trans HG.out g2)
        clear g2
        generalize min (v.cnt : Int) (2000 + 1) = D at *
        by_cases hD : 2000 < D
        · go_wp2_with fail
          go_ret
          exact ⟨1, rfl, by omega, by omega, HG2.out⟩
        · go_wp2_with fail
          refine (vbyt_any v 20000 _ (by omega) (by omega) (HV.out.grew HG2.out)).mono ?_
          rintro e w3 ⟨y, rfl, y0, y1, g3⟩
          have HG3 := Lib.hid (grew_trans HG2.out g3)
          clear g3 d0 d1 d2
          by_cases hY : 20000 < y
          · go_wp2_with fail
            go_ret
            exact ⟨1, rfl, by omega, by omega, HG3.out⟩
          · go_wp2_with fail
            go_roundw
            case rel => exact ⟨j + 1, by omega, by go_num, HG3⟩
            case measure => simp [intOf]; omega
      · have HG := Lib.hid R.out
        clear R
        go_wp2_with fail
        go_ret
        exact ⟨0, rfl, by omega, by omega, HG.out⟩
end Go.Proofs.Ytibbeodcheefaaa


/- What is too great: of what isn't, how many values and bytes there are at most. -/
namespace Go.Proofs.Ytibbeodcheefaaa
open Go.RowKit Va

/-- So many bytes in all, if the number told is no more than that. -/
def ByLe (b : Nat) (m : Int) (w : World) (e : Ending) (w' : World) : Prop := ∃ r : Int, e = .returned (.int .i64 r) ∧ 0 ≤ r ∧ r ≤ m + 140737488355328 ∧ (r ≤ m → r = b) ∧ Grew w w' none

set_option maxRecDepth 100000 in
set_option maxHeartbeats 1000000 in
theorem vbyt_le (v : Va) : ∀ (m : Int) (w : World), 0 ≤ m → m ≤ 1099511627776 → v.In w →
    Calls Try.prog 22 #[v.val, .int .i64 m] w (ByLe v.byt m w) := by
  induction v using Va.ind with
  | H n B d bs A c ls ih =>
  intro m w h0 h1 hin
  have hlist := hin.list
  have hbs := hin.bytes.2.2
  simp only [Va.A, Va.ls, Va.c, Va.bs] at hlist hbs
  have hz := hlist.2.2
  have IH := Lib.hid ih
  have HL := Lib.hid hlist.1
  have HM := Lib.hid hin.parts
  have HD := Lib.hid (show byt (.mk n B d bs A c ls) = bs.length + byts ls by rw [byt])
  generalize byt (.mk n B d bs A c ls) = D at *
  clear ih hlist hin
  change Hid (∀ p ∈ ls, In w p) at HM
  change Calls Try.prog 22 #[.agg #[.int .u64 n, .slice B bs.length d, .slice A ls.length c], .int .i64 m] w _
  have HR := Lib.hid (show Grew w (w.alloc (.cells #[.int .u64 n, .slice B bs.length d, .slice A ls.length c] 29)) none ∧ Whole (w.alloc (.cells #[.int .u64 n, .slice B bs.length d, .slice A ls.length c] 29)) w.heap.size #[.int .u64 n, .slice B bs.length d, .slice A ls.length c] 29 ∧ ((bs.length : Int) ≤ m → (bs.length : Int) = bs.length + byts (ls.take 0)) from ⟨grew_alloc (grew_refl _ _) _, Whole.new _ _ _, fun _ => by simp [byts]⟩)
  go_enter Try.func22, Try.ntmps22
  go_wp2_with fail
  generalize w.alloc (.cells #[.int .u64 n, .slice B bs.length d, .slice A ls.length c] 29) = W0 at *
  generalize w.heap.size = q at *
  go_loopw [6, 5] (fun i y wr => ∃ (j : Nat) (x : Int), j ≤ ls.length ∧ i = .int .i64 j ∧ y = .int .i64 x ∧ 0 ≤ x ∧ x ≤ m + 140737488355328 ∧ Hid (Grew w wr none ∧ Whole wr q #[.int .u64 n, .slice B bs.length d, .slice A ls.length c] 29 ∧ (x ≤ m → x = bs.length + byts (ls.take j)))) (fun i _ _ => ls.length - (intOf i).toNat)
  case atStart => exact ⟨0, bs.length, Nat.zero_le _, rfl, rfl, by omega, by omega, HR⟩
  case round =>
    obtain ⟨j, x, hj, rfl, rfl, x0, x1, R⟩ := hrel
    obtain ⟨c0, c1, c2⟩ := R.out.2.1.three
    by_cases hlt : j < ls.length
    · by_cases hm : x ≤ m
      · obtain ⟨b, o, p, rfl, hp, hpm, d0, d1, d2⟩ := (HL.out.grew R.out.1).at hlt
        have HP := Lib.hid (show ls[j]? = some p ∧ p ∈ ls from ⟨hp, hpm⟩)
        clear hp hpm
        go_wp2_with fail
        refine (IH.out p HP.out.2 (m - x) _ (by omega) (by omega) ((HM.out p HP.out.2).grew R.out.1)).mono ?_
        rintro e w2 ⟨y, rfl, y0, y1, ye, g2⟩
        have key := byts_take HP.out.1
        have HR2 := Lib.hid (show Grew w w2 none ∧ Whole w2 q #[.int .u64 n, .slice B bs.length d, .slice (some ⟨b, o, none⟩) ls.length c] 29 ∧ (x + y ≤ m → x + y = bs.length + byts (ls.take (j + 1))) from ⟨grew_trans R.out.1 g2, R.out.2.1.grew g2 (by simp), fun hD => by
          have e1 := R.out.2.2 hm
          have e3 := ye (by omega)
          omega⟩)
        clear c0 c1 c2 d0 d1 d2 g2 R ye key
        go_wp2_with fail
        go_roundw
        case rel => exact ⟨j + 1, x + y, by omega, by go_num, rfl, by omega, by omega, HR2⟩
        case measure => simp [intOf]; omega
      · have HG := Lib.hid R.out.1
        clear R
        go_wp2_with fail
        go_ret
        exact ⟨x, rfl, x0, x1, fun h => absurd h (by omega), HG.out⟩
    · have HE := Lib.hid (show x ≤ m → x = D by
        intro hD
        have e1 := R.out.2.2 hD
        have e2 := HD.out
        rw [show j = ls.length by omega, List.take_length] at e1
        omega)
      have HG := Lib.hid R.out.1
      clear R
      go_wp2_with fail
      go_ret
      exact ⟨x, rfl, x0, x1, HE.out, HG.out⟩

/-- Great: 0 or 1; 0 of what is small alone. -/
def GrUp (f : Fo) (ls : List Va) (w : World) (e : Ending) (w' : World) : Prop := ∃ r : Int, e = .returned (.int .i64 r) ∧ 0 ≤ r ∧ r ≤ 1 ∧ (r = 0 → f.cnt ≤ 500 ∧ ∀ v ∈ ls, v.cnt ≤ 2000 ∧ v.byt ≤ 20000) ∧ Grew w w' none

set_option maxRecDepth 100000 in
set_option maxHeartbeats 1000000 in
theorem vgreat_up (w : World) (f : Fo) (A : Option Addr) (c : Nat) (ls : List Va) (hf : f.In w) (hl : Va.Lie w A ls) (hp : ∀ v ∈ ls, v.In w) (hz : ls.length ≤ 2513169434916) :
    Calls Try.prog 9 #[f.val, .slice A ls.length c] w (GrUp f ls w) := by
  have HF := Lib.hid hf
  have HL := Lib.hid hl
  have HP := Lib.hid hp
  clear hf hl hp
  change Calls Try.prog 9 #[.agg #[.int .i64 f.k, .int .i64 f.s, .int .i64 f.l, .int .i64 f.h, .int .i64 f.t, .slice f.A f.ps.length f.c], .slice A ls.length c] w _
  go_enter Try.func9, Try.ntmps9
  go_wp2_with fail
  refine (count_any f 500 _ (by omega) (by omega) (HF.out.grew (grew_alloc (grew_refl _ _) _))).mono ?_
  rintro e w1 ⟨rfl, g1⟩
  have HG1 := Lib.hid (grew_trans (grew_alloc (grew_refl w none) _) g1)
  clear g1
  have hc0 : (0 : Int) ≤ min (f.cnt : Int) (500 + 1) := by omega
  have HC0 := Lib.hid (show min (f.cnt : Int) (500 + 1) ≤ 500 → f.cnt ≤ 500 by omega)
  generalize min (f.cnt : Int) (500 + 1) = C at *
  by_cases hC : 500 < C
  · go_wp2_with fail
    go_ret
    exact ⟨1, rfl, by omega, by omega, fun h => by omega, HG1.out⟩
  · have HC := Lib.hid (HC0.out (by omega))
    go_wp2_with fail
    go_loopw [12] (fun i wr => ∃ (j : Nat), j ≤ ls.length ∧ i = .int .i64 j ∧ Hid (Grew w wr none ∧ ∀ v ∈ ls.take j, v.cnt ≤ 2000 ∧ v.byt ≤ 20000)) (fun i _ => ls.length - (intOf i).toNat)
    case atStart => exact ⟨0, Nat.zero_le _, rfl, Lib.hid ⟨HG1.out, fun v hv => by simp at hv⟩⟩
    case round =>
      obtain ⟨j, hj, rfl, R⟩ := hrel
      by_cases hlt : j < ls.length
      · obtain ⟨b, o, v, rfl, hv, hvm, d0, d1, d2⟩ := (HL.out.grew R.out.1).at hlt
        have HV := Lib.hid (HP.out v hvm)
        have HJ := Lib.hid hv
        clear hv hvm
        go_wp2_with fail
        have hw := Whole.new wr #[.int .u64 v.n, .slice v.B v.bs.length v.d, .slice v.A v.ls.length v.c] 29
        have hg := grew_alloc R.out.1 (.cells #[.int .u64 v.n, .slice v.B v.bs.length v.d, .slice v.A v.ls.length v.c] 29)
        have HT := Lib.hid R.out.2
        clear d0 d1 d2 R
        generalize wr.alloc (.cells #[.int .u64 v.n, .slice v.B v.bs.length v.d, .slice v.A v.ls.length v.c] 29) = W1 at *
        generalize wr.heap.size = qv at *
        have HW := Lib.hid hw
        have HG := Lib.hid hg
        clear hw hg
        refine (vcount_any v 2000 _ (by omega) (by omega) (HV.out.grew HG.out)).mono ?_
        rintro e w2 ⟨rfl, g2⟩
        have hc1 : (0 : Int) ≤ min (v.cnt : Int) (2000 + 1) := by omega
        have HC1 := Lib.hid (show min (v.cnt : Int) (2000 + 1) ≤ 2000 → v.cnt ≤ 2000 by omega)
        obtain ⟨d0, d1, d2⟩ := (HW.out.grew g2 (by simp)).three
        have HG2 := Lib.hid (grew_trans HG.out g2)
        clear g2
        generalize min (v.cnt : Int) (2000 + 1) = D at *
        by_cases hD : 2000 < D
        · go_wp2_with fail
          go_ret
          exact ⟨1, rfl, by omega, by omega, fun h => by omega, HG2.out⟩
        · have HC2 := Lib.hid (HC1.out (by omega))
          go_wp2_with fail
          refine (vbyt_le v 20000 _ (by omega) (by omega) (HV.out.grew HG2.out)).mono ?_
          rintro e w3 ⟨y, rfl, y0, y1, ye, g3⟩
          have HG3 := Lib.hid (grew_trans HG2.out g3)
          have HYE := Lib.hid ye
          clear g3 d0 d1 d2 ye
          by_cases hY : 20000 < y
          · go_wp2_with fail
            go_ret
            exact ⟨1, rfl, by omega, by omega, fun h => by omega, HG3.out⟩
          · have HB := Lib.hid (show v.byt ≤ 20000 by have := HYE.out (by omega); omega)
            go_wp2_with fail
            go_roundw
            case rel =>
              refine ⟨j + 1, by omega, by go_num, Lib.hid ⟨HG3.out, fun u hu => ?_⟩⟩
              rw [take_succ' HJ.out] at hu
              rcases List.mem_append.1 hu with hu | hu
              · exact HT.out u hu
              · rw [List.mem_singleton] at hu
                subst hu
                exact ⟨HC2.out, HB.out⟩
            case measure => simp [intOf]; omega
      · have HG := Lib.hid R.out.1
        have HT := Lib.hid (show ∀ v ∈ ls, v.cnt ≤ 2000 ∧ v.byt ≤ 20000 by
          have := R.out.2
          rw [show j = ls.length by omega, List.take_length] at this
          exact this)
        clear R
        go_wp2_with fail
        go_ret
        exact ⟨0, rfl, by omega, by omega, fun _ => ⟨HC.out, HT.out⟩, HG.out⟩
end Go.Proofs.Ytibbeodcheefaaa

