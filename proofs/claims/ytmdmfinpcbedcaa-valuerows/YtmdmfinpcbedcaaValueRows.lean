/- Values that fit forms fit, as a row, the row of these, with all their sizes together, and one less doesn't: for every forms and values the law returns true. No condition. -/
import Derived.Test.YtmdmfinpcbedcaaVal
import Derived.Test.YtmdmfinpcbedcaaVg
import Derived.Test.YtmdmfinpcbedcaaOv
import Derived.Deep.Cut
namespace Go.Proofs.Ytmdmfinpcbedcaa
open Go.ChangeShapes Go.WideShapes Go.ChangeAt Go.RowKit Va

section
variable {ρ : Operand → Value} {o : Oper}
theorem run_sliceF {x y : Operand} {A : Option Addr} {l c m : Nat} (ho : o.op = .slice 29 x none (some y) none) (hx : ρ x = .slice A l c) (hy : ρ y = .int .i64 (m : Int)) (hm : m ≤ c) (w : World) : (execOp ρ o).run Try.prog w = .ok (.value (.slice A m c)) w := by
  have hm' : (m : Int) ≤ (c : Int) := by omega
  simp [execOp, ho, go_sem, hx, hy, hm]
theorem run_sliceV {x y : Operand} {A : Option Addr} {l c m : Nat} (ho : o.op = .slice 24 x none (some y) none) (hx : ρ x = .slice A l c) (hy : ρ y = .int .i64 (m : Int)) (hm : m ≤ c) (w : World) : (execOp ρ o).run Try.prog w = .ok (.value (.slice A m c)) w := by
  have hm' : (m : Int) ≤ (c : Int) := by omega
  simp [execOp, ho, go_sem, hx, hy, hm]
theorem run_subOne {x y : Operand} {t u : TypeId} {a : Nat} (ho : o.op = .binOp .sub t x y u) (hx : ρ x = .int .i64 (a : Int)) (hy : ρ y = .int .i64 1) (h0 : 1 ≤ a) (h1 : a ≤ 8) (w : World) : (execOp ρ o).run Try.prog w = .ok (.value (.int .i64 ((a - 1 : Nat) : Int))) w := by
  have e : IntKind.i64.wrap ((a : Int) - 1) = ((a - 1 : Nat) : Int) := by rw [IntWalk.i64_left, IntWalk.wrap64_in _ (by omega)]; omega
  simp [execOp, ho, go_sem, hx, hy, e]
end

/-- A row's list fits by its values, one by one. -/
theorem row_meas {A : Option Addr} {c : Nat} {ps : List Fo} {A' : Option Addr} {c' : Nat} {us : List Va} (hc : Fo.chk (.mk 3 0 0 0 0 A c ps) = 0) (hl : us.length = ps.length) : meas (.mk 3 0 0 0 0 A c ps) (.mk 0 none 0 [] A' c' us) = tot 0 (pair (fits ps) us) := by
  rw [meas_ok hc]
  have he : fit (.mk 3 0 0 0 0 A c ps) (.mk 0 none 0 [] A' c' us) = if us.length = ps.length then tot 0 (pair (fits ps) us) else (0, 15) := by rw [fit]; rfl
  rw [he, if_pos hl]
theorem row_short {A : Option Addr} {c : Nat} {ps : List Fo} {A' : Option Addr} {c' : Nat} {us : List Va} (hc : Fo.chk (.mk 3 0 0 0 0 A c ps) = 0) (hl : us.length ≠ ps.length) : meas (.mk 3 0 0 0 0 A c ps) (.mk 0 none 0 [] A' c' us) = (0, 15) := by
  rw [meas_ok hc]
  have he : fit (.mk 3 0 0 0 0 A c ps) (.mk 0 none 0 [] A' c' us) = if us.length = ps.length then tot 0 (pair (fits ps) us) else (0, 15) := by rw [fit]; rfl
  rw [he, if_neg hl]
/-- A right row's parts are right. -/
theorem row_parts {A : Option Addr} {c : Nat} {ps : List Fo} (hc : Fo.chk (.mk 3 0 0 0 0 A c ps) = 0) : ∀ p ∈ ps, p.chk = 0 := by
  intro p hp
  obtain ⟨hd, hw⟩ := chk_zero hc
  have hq := (wrg_zero hw).2.1 p (inn_mem (.inr rfl) hp)
  have hdp : Fo.dep (.mk 3 0 0 0 0 A c ps) = Fo.deps ps + 1 := by rw [Fo.dep, if_pos (by omega)]
  have hdl : p.dep ≤ Fo.deps ps := Fo.deps_le.1 (Nat.le_refl _) p hp
  unfold Fo.chk
  rw [if_neg (by omega), hq]

/-- What holds ahead of each round: of the sizes so far, and the first error. -/
def RowInv (T : Int × Int) (rs : List (Int × Int)) (j : Nat) (sum first : Int) : Prop := (first = 0 → tot sum (rs.drop j) = T) ∧ (first ≠ 0 → T = (0, first))
theorem RowInv.step {T : Int × Int} {rs : List (Int × Int)} {j : Nat} {sum first : Int} (h : RowInv T rs j sum first) {r : Int × Int} (hr : rs[j]? = some r) : RowInv T rs (j + 1) (Fo.plus sum r.1) (if first = 0 then r.2 else first) := by
  by_cases hf : first = 0
  · rw [if_pos hf]
    have h1 := h.1 hf
    rw [dropL hr, tot] at h1
    by_cases h2 : r.2 = 0
    · rw [if_pos h2] at h1
      exact ⟨fun _ => h1, fun hn => absurd h2 hn⟩
    · rw [if_neg h2] at h1
      exact ⟨fun hn => absurd hn h2, fun _ => h1.symm⟩
  · rw [if_neg hf]
    exact ⟨fun hn => absurd hn hf, fun _ => h.2 hf⟩

set_option maxRecDepth 100000 in
set_option maxHeartbeats 4000000 in
theorem valueRows_walk (w : World) (A : Option Addr) (c : Nat) (fs : List Fo) (hfl : fs.length ≤ c) (hfm : c ≤ 2199023255488) (hf : Fo.Lie w A fs) (hfp : ∀ p ∈ fs, p.In w)
    (B : Option Addr) (d : Nat) (vs : List Va) (hvl : vs.length ≤ d) (_hvm : d ≤ 2513169434843) (hv : Va.Lie w B vs) (hvp : ∀ p ∈ vs, p.In w) :
    Calls Try.prog 6 #[.slice A fs.length c, .slice B vs.length d] w fun e w' => e = .returned (.bool true) ∧ Below w.heap.size w w' := by
  obtain ⟨L, hL, hLf, hLv, hL8⟩ : ∃ L : Nat, (if (8 : Int) < (if vs.length < fs.length then (vs.length : Int) else (fs.length : Int)) then (8 : Int) else (if vs.length < fs.length then (vs.length : Int) else (fs.length : Int))) = (L : Int) ∧ L ≤ fs.length ∧ L ≤ vs.length ∧ L ≤ 8 := by
    by_cases h : vs.length < fs.length
    · by_cases h8 : 8 < vs.length
      · exact ⟨8, by rw [if_pos h, if_pos (by omega)]; rfl, by omega, by omega, by omega⟩
      · exact ⟨vs.length, by rw [if_pos h, if_neg (by omega)], by omega, by omega, by omega⟩
    · by_cases h8 : 8 < fs.length
      · exact ⟨8, by rw [if_neg h, if_pos (by omega)]; rfl, by omega, by omega, by omega⟩
      · exact ⟨fs.length, by rw [if_neg h, if_neg (by omega)], by omega, by omega, by omega⟩
  have HLL := Lib.hid hL
  clear hL
  obtain ⟨ps, hps⟩ : ∃ ps, ps = fs.take L := ⟨_, rfl⟩
  obtain ⟨us, hus⟩ : ∃ us, us = vs.take L := ⟨_, rfl⟩
  have hpl : ps.length = L := by rw [hps, List.length_take]; omega
  have hul : us.length = L := by rw [hus, List.length_take]; omega
  have HFL := Lib.hid (show Fo.Lie w A ps by rw [hps]; exact hf.take L)
  have HFP := Lib.hid (show ∀ p ∈ ps, p.In w by rw [hps]; exact fun p hp => hfp p (List.mem_of_mem_take hp))
  have HVL := Lib.hid (show Va.Lie w B us by rw [hus]; exact hv.take L)
  have HVP := Lib.hid (show ∀ p ∈ us, p.In w by rw [hus]; exact fun p hp => hvp p (List.mem_of_mem_take hp))
  have HRI := Lib.hid (fun w' (g : Grew w w' none) => (show Fo.In w' (Fo.mk 3 0 0 0 0 A c ps) from .mk (by omega) (by omega) (HFL.out.grew g) (fun p hp => (HFP.out p hp).grew g)))
  have hrv : ((Fo.mk 3 0 0 0 0 A c ps)).val = .agg #[.int .i64 3, .int .i64 0, .int .i64 0, .int .i64 0, .int .i64 0, .slice A L c] := by rw [val_eq]; simp only [Fo.k, Fo.s, Fo.l, Fo.h, Fo.t, Fo.A, Fo.c, Fo.ps, hpl]
  have HRV := Lib.hid hrv
  have CG := Lib.hid (fun w' (g : Grew w w' none) => (show Calls Try.prog 10 #[.agg #[.int .i64 3, .int .i64 0, .int .i64 0, .int .i64 0, .int .i64 0, .slice A L c], .slice B L d] w' (SomeUp 1 w') from by
    have h := vgreat_any w' (Fo.mk 3 0 0 0 0 A c ps) B d us (HRI.out w' g) (HVL.out.grew g) (fun v hv => (HVP.out v hv).grew g) (by omega)
    rw [HRV.out, hul] at h
    exact h))
  have CC := Lib.hid (fun w' (g : Grew w w' none) => (show Calls Try.prog 22 #[.agg #[.int .i64 3, .int .i64 0, .int .i64 0, .int .i64 0, .int .i64 0, .slice A L c]] w' (fun e w'' => e = .returned (.int .i64 (Fo.chk (Fo.mk 3 0 0 0 0 A c ps))) ∧ Grew w' w'' none) from by
    have h := rchk_any w' (Fo.mk 3 0 0 0 0 A c ps) (HRI.out w' g)
    rw [HRV.out] at h
    exact h))
  have CL := Lib.hid (fun w' (g : Grew w w' none) => (show Calls Try.prog 17 #[.slice B L d] w' (fun e w'' => ∃ A' c', e = .returned (.agg #[.int .u64 0, .slice none 0 0, .slice A' L c']) ∧ (Va.mk 0 none 0 [] A' c' us).In w'' ∧ Grew w' w'' none) from by
    have h := vlist_any w' B d us (HVL.out.grew g) (fun v hv => (HVP.out v hv).grew g) (by omega)
    rw [hul] at h
    refine h.mono ?_
    rintro e w'' ⟨A', c', rfl, h1, h2⟩
    exact ⟨A', c', by rw [vval_eq]; simp only [Va.n, Va.B, Va.d, Va.bs, Va.A, Va.c, Va.ls, List.length_nil, hul], h1, h2⟩))
  have CS := Lib.hid (fun w' (g : Grew w w' none) => (show Calls Try.prog 17 #[.slice B (L - 1) d] w' (fun e w'' => ∃ A' c', e = .returned (Va.mk 0 none 0 [] A' c' (us.take (L - 1))).val ∧ (Va.mk 0 none 0 [] A' c' (us.take (L - 1))).In w'' ∧ Grew w' w'' none) from by
    have hsl : (us.take (L - 1)).length = L - 1 := by rw [List.length_take]; omega
    have h := vlist_any w' B d (us.take (L - 1)) ((HVL.out.grew g).take _) (fun v hv => (HVP.out v (List.mem_of_mem_take hv)).grew g) (by omega)
    rw [hsl] at h
    exact h))
  have HUL := Lib.hid hul
  have HPL := Lib.hid hpl
  clear hps hus hf hfp hv hvp hrv
  go_enter Try.func6, Try.ntmps6
  go_upto_region 2 with (fail)
  rw [HLL.out]
  clear HLL
  refine act_letterC (fun A1 hA1 => ?_)
  have d0 : A1.eval (.tmp 0) = .slice A fs.length c := by rw [← hA1]; rfl
  have d1 : A1.eval (.tmp 1) = .slice B vs.length d := by rw [← hA1]; rfl
  have d5 : A1.eval (.tmp 5) = .int .i64 (L : Int) := by rw [← hA1]; rfl
  have szA1 : A1.tmps.size = 103 := by rw [← hA1]; rfl
  have HA1 := Lib.hid hA1
  clear hA1
  have G0 := Lib.hid (grew_drew (grew_refl w none))
  refine wp_region_held (S := fun w' => Grew w w' none) (by kernel_rfl) ?_
  change wpAnyH _ _ _ _ _ _ _ _ (World.drew w)
  refine wpAnyH_take (i := 0) (v := .slice A fs.length c) rfl (by kernel_rfl) (by kernel_rfl) (by kernel_rfl) (fun _ _ _ h => h) (.inl ⟨rfl, fun w g => run_moveV rfl d0 w⟩) G0.out ?_
  refine act_letter (fun A2 hA2 => ?_)
  replace d0 : A2.eval (.tmp 0) = .slice A fs.length c := by rw [← hA2]; exact (ev_ne A1 (m := 18) (n := 0) (.slice A fs.length c) (by decide)).trans d0
  replace d1 : A2.eval (.tmp 1) = .slice B vs.length d := by rw [← hA2]; exact (ev_ne A1 (m := 18) (n := 1) (.slice A fs.length c) (by decide)).trans d1
  replace d5 : A2.eval (.tmp 5) = .int .i64 (L : Int) := by rw [← hA2]; exact (ev_ne A1 (m := 18) (n := 5) (.slice A fs.length c) (by decide)).trans d5
  have e18 : A2.eval (.tmp 18) = .slice A fs.length c := by rw [← hA2]; exact ev_self A1 18 (.slice A fs.length c) (by omega)
  have szA2 : A2.tmps.size = 103 := by rw [← hA2]; exact (sz_put A1 18 (.slice A fs.length c)).trans szA1
  have HA2 := Lib.hid (show A1.put (some 18) (.slice A fs.length c) = A2 from hA2)
  clear hA2 szA1
  have d18 := e18
  clear e18
  refine wpAnyH_take (i := 1) (v := .int .i64 (L : Int)) rfl (by kernel_rfl) (by kernel_rfl) (by kernel_rfl) (fun _ _ _ h => h) (.inl ⟨rfl, fun w g => run_moveV rfl d5 w⟩) G0.out ?_
  refine act_letter (fun A3 hA3 => ?_)
  replace d0 : A3.eval (.tmp 0) = .slice A fs.length c := by rw [← hA3]; exact (ev_ne A2 (m := 19) (n := 0) (.int .i64 (L : Int)) (by decide)).trans d0
  replace d1 : A3.eval (.tmp 1) = .slice B vs.length d := by rw [← hA3]; exact (ev_ne A2 (m := 19) (n := 1) (.int .i64 (L : Int)) (by decide)).trans d1
  replace d5 : A3.eval (.tmp 5) = .int .i64 (L : Int) := by rw [← hA3]; exact (ev_ne A2 (m := 19) (n := 5) (.int .i64 (L : Int)) (by decide)).trans d5
  replace d18 : A3.eval (.tmp 18) = .slice A fs.length c := by rw [← hA3]; exact (ev_ne A2 (m := 19) (n := 18) (.int .i64 (L : Int)) (by decide)).trans d18
  have e19 : A3.eval (.tmp 19) = .int .i64 (L : Int) := by rw [← hA3]; exact ev_self A2 19 (.int .i64 (L : Int)) (by omega)
  have szA3 : A3.tmps.size = 103 := by rw [← hA3]; exact (sz_put A2 19 (.int .i64 (L : Int))).trans szA2
  have HA3 := Lib.hid (show A2.put (some 19) (.int .i64 (L : Int)) = A3 from hA3)
  clear hA3 szA2
  have d19 := e19
  clear e19
  refine wpAnyH_take (i := 2) (v := .slice A L c) rfl (by kernel_rfl) (by kernel_rfl) (by kernel_rfl) (fun _ _ _ h => h) (.inl ⟨rfl, fun w g => run_sliceF rfl d18 d19 (by omega) w⟩) G0.out ?_
  refine act_letter (fun A4 hA4 => ?_)
  replace d0 : A4.eval (.tmp 0) = .slice A fs.length c := by rw [← hA4]; exact (ev_ne A3 (m := 20) (n := 0) (.slice A L c) (by decide)).trans d0
  replace d1 : A4.eval (.tmp 1) = .slice B vs.length d := by rw [← hA4]; exact (ev_ne A3 (m := 20) (n := 1) (.slice A L c) (by decide)).trans d1
  replace d5 : A4.eval (.tmp 5) = .int .i64 (L : Int) := by rw [← hA4]; exact (ev_ne A3 (m := 20) (n := 5) (.slice A L c) (by decide)).trans d5
  have e20 : A4.eval (.tmp 20) = .slice A L c := by rw [← hA4]; exact ev_self A3 20 (.slice A L c) (by omega)
  have szA4 : A4.tmps.size = 103 := by rw [← hA4]; exact (sz_put A3 20 (.slice A L c)).trans szA3
  have HA4 := Lib.hid (show A3.put (some 20) (.slice A L c) = A4 from hA4)
  clear hA4 szA3 d18 d19
  have d20 := e20
  clear e20
  refine wpAnyH_take (i := 3) (v := .slice B vs.length d) rfl (by kernel_rfl) (by kernel_rfl) (by kernel_rfl) (fun _ _ _ h => h) (.inl ⟨rfl, fun w g => run_moveV rfl d1 w⟩) G0.out ?_
  refine act_letter (fun A5 hA5 => ?_)
  replace d0 : A5.eval (.tmp 0) = .slice A fs.length c := by rw [← hA5]; exact (ev_ne A4 (m := 21) (n := 0) (.slice B vs.length d) (by decide)).trans d0
  replace d1 : A5.eval (.tmp 1) = .slice B vs.length d := by rw [← hA5]; exact (ev_ne A4 (m := 21) (n := 1) (.slice B vs.length d) (by decide)).trans d1
  replace d5 : A5.eval (.tmp 5) = .int .i64 (L : Int) := by rw [← hA5]; exact (ev_ne A4 (m := 21) (n := 5) (.slice B vs.length d) (by decide)).trans d5
  replace d20 : A5.eval (.tmp 20) = .slice A L c := by rw [← hA5]; exact (ev_ne A4 (m := 21) (n := 20) (.slice B vs.length d) (by decide)).trans d20
  have e21 : A5.eval (.tmp 21) = .slice B vs.length d := by rw [← hA5]; exact ev_self A4 21 (.slice B vs.length d) (by omega)
  have szA5 : A5.tmps.size = 103 := by rw [← hA5]; exact (sz_put A4 21 (.slice B vs.length d)).trans szA4
  have HA5 := Lib.hid (show A4.put (some 21) (.slice B vs.length d) = A5 from hA5)
  clear hA5 szA4
  have d21 := e21
  clear e21
  refine wpAnyH_take (i := 4) (v := .int .i64 (L : Int)) rfl (by kernel_rfl) (by kernel_rfl) (by kernel_rfl) (fun _ _ _ h => h) (.inl ⟨rfl, fun w g => run_moveV rfl d5 w⟩) G0.out ?_
  refine act_letter (fun A6 hA6 => ?_)
  replace d0 : A6.eval (.tmp 0) = .slice A fs.length c := by rw [← hA6]; exact (ev_ne A5 (m := 22) (n := 0) (.int .i64 (L : Int)) (by decide)).trans d0
  replace d1 : A6.eval (.tmp 1) = .slice B vs.length d := by rw [← hA6]; exact (ev_ne A5 (m := 22) (n := 1) (.int .i64 (L : Int)) (by decide)).trans d1
  replace d5 : A6.eval (.tmp 5) = .int .i64 (L : Int) := by rw [← hA6]; exact (ev_ne A5 (m := 22) (n := 5) (.int .i64 (L : Int)) (by decide)).trans d5
  replace d20 : A6.eval (.tmp 20) = .slice A L c := by rw [← hA6]; exact (ev_ne A5 (m := 22) (n := 20) (.int .i64 (L : Int)) (by decide)).trans d20
  replace d21 : A6.eval (.tmp 21) = .slice B vs.length d := by rw [← hA6]; exact (ev_ne A5 (m := 22) (n := 21) (.int .i64 (L : Int)) (by decide)).trans d21
  have e22 : A6.eval (.tmp 22) = .int .i64 (L : Int) := by rw [← hA6]; exact ev_self A5 22 (.int .i64 (L : Int)) (by omega)
  have szA6 : A6.tmps.size = 103 := by rw [← hA6]; exact (sz_put A5 22 (.int .i64 (L : Int))).trans szA5
  have HA6 := Lib.hid (show A5.put (some 22) (.int .i64 (L : Int)) = A6 from hA6)
  clear hA6 szA5
  have d22 := e22
  clear e22
  refine wpAnyH_take (i := 5) (v := .slice B L d) rfl (by kernel_rfl) (by kernel_rfl) (by kernel_rfl) (fun _ _ _ h => h) (.inl ⟨rfl, fun w g => run_sliceV rfl d21 d22 (by omega) w⟩) G0.out ?_
  refine act_letter (fun A7 hA7 => ?_)
  replace d0 : A7.eval (.tmp 0) = .slice A fs.length c := by rw [← hA7]; exact (ev_ne A6 (m := 23) (n := 0) (.slice B L d) (by decide)).trans d0
  replace d1 : A7.eval (.tmp 1) = .slice B vs.length d := by rw [← hA7]; exact (ev_ne A6 (m := 23) (n := 1) (.slice B L d) (by decide)).trans d1
  replace d5 : A7.eval (.tmp 5) = .int .i64 (L : Int) := by rw [← hA7]; exact (ev_ne A6 (m := 23) (n := 5) (.slice B L d) (by decide)).trans d5
  replace d20 : A7.eval (.tmp 20) = .slice A L c := by rw [← hA7]; exact (ev_ne A6 (m := 23) (n := 20) (.slice B L d) (by decide)).trans d20
  have e23 : A7.eval (.tmp 23) = .slice B L d := by rw [← hA7]; exact ev_self A6 23 (.slice B L d) (by omega)
  have szA7 : A7.tmps.size = 103 := by rw [← hA7]; exact (sz_put A6 23 (.slice B L d)).trans szA6
  have HA7 := Lib.hid (show A6.put (some 23) (.slice B L d) = A7 from hA7)
  clear hA7 szA6 d21 d22
  have d23 := e23
  clear e23
  refine wpAnyH_take (i := 6) (v := .slice A L c) rfl (by kernel_rfl) (by kernel_rfl) (by kernel_rfl) (fun _ _ _ h => h) (.inl ⟨rfl, fun w g => run_assignV rfl d20 w⟩) G0.out ?_
  refine act_letter (fun A8 hA8 => ?_)
  replace d1 : A8.eval (.tmp 1) = .slice B vs.length d := by rw [← hA8]; exact (ev_ne A7 (m := 0) (n := 1) (.slice A L c) (by decide)).trans d1
  replace d5 : A8.eval (.tmp 5) = .int .i64 (L : Int) := by rw [← hA8]; exact (ev_ne A7 (m := 0) (n := 5) (.slice A L c) (by decide)).trans d5
  replace d23 : A8.eval (.tmp 23) = .slice B L d := by rw [← hA8]; exact (ev_ne A7 (m := 0) (n := 23) (.slice A L c) (by decide)).trans d23
  have e0 : A8.eval (.tmp 0) = .slice A L c := by rw [← hA8]; exact ev_self A7 0 (.slice A L c) (by omega)
  have szA8 : A8.tmps.size = 103 := by rw [← hA8]; exact (sz_put A7 0 (.slice A L c)).trans szA7
  have HA8 := Lib.hid (show A7.put (some 0) (.slice A L c) = A8 from hA8)
  clear hA8 szA7 d0 d20
  have d0 := e0
  clear e0
  refine wpAnyH_take (i := 7) (v := .slice B L d) rfl (by kernel_rfl) (by kernel_rfl) (by kernel_rfl) (fun _ _ _ h => h) (.inl ⟨rfl, fun w g => run_assignV rfl d23 w⟩) G0.out ?_
  refine act_letter (fun A9 hA9 => ?_)
  replace d5 : A9.eval (.tmp 5) = .int .i64 (L : Int) := by rw [← hA9]; exact (ev_ne A8 (m := 1) (n := 5) (.slice B L d) (by decide)).trans d5
  replace d0 : A9.eval (.tmp 0) = .slice A L c := by rw [← hA9]; exact (ev_ne A8 (m := 1) (n := 0) (.slice B L d) (by decide)).trans d0
  have e1 : A9.eval (.tmp 1) = .slice B L d := by rw [← hA9]; exact ev_self A8 1 (.slice B L d) (by omega)
  have szA9 : A9.tmps.size = 103 := by rw [← hA9]; exact (sz_put A8 1 (.slice B L d)).trans szA8
  have HA9 := Lib.hid (show A8.put (some 1) (.slice B L d) = A9 from hA9)
  clear hA9 szA8 d1 d23
  have d1 := e1
  clear e1
  refine wpAnyH_done (by kernel_rfl) ?_ _
  rw [← HA9.out, ← HA8.out, ← HA7.out, ← HA6.out, ← HA5.out, ← HA4.out, ← HA3.out, ← HA2.out, ← HA1.out]
  clear HA2 HA3 HA4 HA5 HA6 HA7 HA8 HA9 HA1 d5 d0 d1 szA9
  simp only [Act.put, List.setIfInBounds_toArray, List.set_cons_zero, List.set_cons_succ]
  generalize w.drew = w0 at *
  go_wp2_with fail
  have hw := Whole.new w0 #[.int .i64 3, .int .i64 0, .int .i64 0, .int .i64 0, .int .i64 0, .slice A L c] 31
  have hg := grew_alloc G0.out (.cells #[.int .i64 3, .int .i64 0, .int .i64 0, .int .i64 0, .int .i64 0, .slice A L c] 31)
  generalize w0.alloc (.cells #[.int .i64 3, .int .i64 0, .int .i64 0, .int .i64 0, .int .i64 0, .slice A L c] 31) = W1 at *
  generalize w0.heap.size = q6 at *
  have HW1 := Lib.hid hw
  have HG1 := Lib.hid hg
  clear hw hg G0
  refine (alive5_any W1).mono ?_
  rintro e w2 ⟨rfl, g2⟩
  have HW2 := Lib.hid (HW1.out.grew g2 (by simp))
  have HG2 := Lib.hid (grew_trans HG1.out g2)
  clear g2 HW1 HG1
  obtain ⟨c0, c1, c2, c3, c4, c5⟩ := HW2.out.six
  go_wp2_with fail
  refine (CG.out w2 HG2.out).mono ?_
  rintro e w3 ⟨r, rfl, r0, r1, g3⟩
  have HW3 := Lib.hid (HW2.out.grew g3 (by simp))
  have HG3 := Lib.hid (grew_trans HG2.out g3)
  clear g3 HW2 HG2 c0 c1 c2 c3 c4 c5
  obtain ⟨c0, c1, c2, c3, c4, c5⟩ := HW3.out.six
  by_cases hr : 0 < r
  · clear c0 c1 c2 c3 c4 c5
    go_wp2_with fail
    refine (alive5_any w3).mono ?_
    rintro e w4 ⟨rfl, g4⟩
    go_wp2_with fail
    go_ret
    exact ⟨rfl, grew_below (grew_trans HG3.out g4) (Nat.le_refl _) (fun _ h => by cases h)⟩
  · go_wp2_with fail
    refine (CC.out w3 HG3.out).mono ?_
    rintro e w4 ⟨rfl, g4⟩
    have HW4 := Lib.hid (HW3.out.grew g4 (by simp))
    have HG4 := Lib.hid (grew_trans HG3.out g4)
    clear g4 HW3 HG3 c0 c1 c2 c3 c4 c5
    by_cases hck : Fo.chk (Fo.mk 3 0 0 0 0 A c ps) = 0
    · have HCK := Lib.hid hck
      rw [hck]
      clear hck
      have HPC := Lib.hid (row_parts HCK.out)
      have HR := Lib.hid (show Grew w w4 none ∧ Whole w4 q6 #[.int .i64 3, .int .i64 0, .int .i64 0, .int .i64 0, .int .i64 0, .slice A L c] 31 ∧ RowInv (tot 0 (pair (fits ps) us)) (pair (fits ps) us) 0 0 0 from ⟨HG4.out, HW4.out, fun _ => rfl, fun h => absurd rfl h⟩)
      have HPA := Lib.hid (fun (j : Nat) (p : Fo) (v : Va) (h1 : ps[j]? = some p) (h2 : us[j]? = some v) => pair_at h1 h2)
      have HPN := Lib.hid (show (pair (fits ps) us).length = L by rw [pair_length (by rw [hul, hpl]), hpl])
      have HRM := Lib.hid (fun (A' : Option Addr) (c' : Nat) => row_meas (A := A) (c := c) (A' := A') (c' := c') (us := us) HCK.out (by rw [hul, hpl]))
      have HRS := Lib.hid (fun (A' : Option Addr) (c' : Nat) (h : 1 ≤ L) => row_short (A := A) (c := c) (A' := A') (c' := c') (us := us.take (L - 1)) HCK.out (by rw [hpl, List.length_take]; omega))
      clear hul hpl
      generalize pair (fits ps) us = RS at *
      generalize tot 0 RS = T at *
      go_wp2_with fail
      clear HW4 HG4
      go_loopw [42, 7, 8] (fun i a b wr => ∃ (j : Nat) (x y : Int), j ≤ L ∧ i = .int .i64 j ∧ a = .int .i64 x ∧ b = .int .i64 y ∧ Hid (Grew w wr none ∧ Whole wr q6 #[.int .i64 3, .int .i64 0, .int .i64 0, .int .i64 0, .int .i64 0, .slice A L c] 31 ∧ RowInv T RS j x y)) (fun i _ _ _ => L - (intOf i).toNat)
      case atStart => exact ⟨0, 0, 0, Nat.zero_le _, rfl, rfl, rfl, HR⟩
      case round =>
        obtain ⟨j, x, y, hj, rfl, rfl, rfl, R⟩ := hrel
        by_cases hlt : j < L
        · obtain ⟨b1, o1, p, rfl, hp, hpm, c0, c1, c2, c3, c4, c5⟩ := (HFL.out.grew R.out.1).at (i := j) (by rw [HPL.out]; exact hlt)
          go_upto_region 10 with (fail)
          have hw := Whole.new wr #[.int .i64 p.k, .int .i64 p.s, .int .i64 p.l, .int .i64 p.h, .int .i64 p.t, .slice p.A p.ps.length p.c] 31
          have hg := grew_alloc R.out.1 (.cells #[.int .i64 p.k, .int .i64 p.s, .int .i64 p.l, .int .i64 p.h, .int .i64 p.t, .slice p.A p.ps.length p.c] 31)
          have hq := R.out.2.1.grew (grew_alloc (grew_refl wr none) (.cells #[.int .i64 p.k, .int .i64 p.s, .int .i64 p.l, .int .i64 p.h, .int .i64 p.t, .slice p.A p.ps.length p.c] 31)) (by simp)
          have hiv := R.out.2.2
          clear R c0 c1 c2 c3 c4 c5
          generalize wr.alloc (.cells #[.int .i64 p.k, .int .i64 p.s, .int .i64 p.l, .int .i64 p.h, .int .i64 p.t, .slice p.A p.ps.length p.c] 31) = W1 at *
          generalize wr.heap.size = q10 at *
          obtain ⟨b2, o2, v, rfl, hv, hvm, e0, e1, e2⟩ := (HVL.out.grew hg).at (i := j) (by rw [HUL.out]; exact hlt)
          have hst := hiv.step (HPA.out j p v hp hv)
          have hm : meas p v = fit p v := meas_ok (HPC.out p hpm)
          have CF := Lib.hid (fun w' (g : Grew w w' none) => fits_any w' p v ((HFP.out p hpm).grew g) ((HVP.out v hvm).grew g))
          have CZ := Lib.hid (fun w' (g : Grew w w' none) => sizes_any w' p v ((HFP.out p hpm).grew g) ((HVP.out v hvm).grew g))
          rw [hm] at CF CZ
          rw [val_eq, vval_eq] at CF CZ
          clear hm
          generalize fit p v = F at *
          obtain ⟨n1, n2⟩ := F
          obtain ⟨d0, d1, d2, d3, d4, d5⟩ := hw.six
          have f0 := fun z => pad_cell d0 z
          have f1 := fun z => pad_cell d1 z
          have f2 := fun z => pad_cell d2 z
          have f3 := fun z => pad_cell d3 z
          have f4 := fun z => pad_cell d4 z
          have f5 := fun z => pad_cell d5 z
          have k0 := fun z => pad_cell e0 z
          have k1 := fun z => pad_cell e1 z
          have k2 := fun z => pad_cell e2 z
          have i0 : (0 : Int) ≤ (j : Int) := by omega
          have i1 : (j : Int) < (L : Int) := by omega
          have HST := Lib.hid hst
          have HC := Lib.hid (show _ ∧ _ ∧ _ from ⟨e0, e1, e2⟩)
          have HWG := Lib.hid (show Grew w W1 none ∧ Whole W1 q6 _ _ ∧ Whole W1 q10 _ _ from ⟨hg, hq, hw⟩)
          clear hst hiv hw hg hq hp hpm hv hvm d0 d1 d2 d3 d4 d5 e0 e1 e2
          have CFp := Lib.hid (fun z => CF.out (World.pad W1 z) (grew_trans HWG.out.1 (grew_pad W1 z)))
          refine wp_region_pad (by kernel_rfl) (by kernel_rfl) ?_
          repeat (go_big_quiet_step ((go_at_call 19; exact pad_call (CFp.out _))))
          refine wpQuiet_nil ?_
          rintro _ ⟨z1, rfl⟩
          clear f0 f1 f2 f3 f4 f5 k0 k1 k2 CFp CF
          have HWG2 := Lib.hid (show Grew w (World.pad W1 z1) none ∧ Whole (World.pad W1 z1) q6 #[.int .i64 3, .int .i64 0, .int .i64 0, .int .i64 0, .int .i64 0, .slice (some ⟨b1, o1, none⟩) L c] 31 ∧ Whole (World.pad W1 z1) q10 #[.int .i64 p.k, .int .i64 p.s, .int .i64 p.l, .int .i64 p.h, .int .i64 p.t, .slice p.A p.ps.length p.c] 31 from ⟨grew_trans HWG.out.1 (grew_pad W1 z1), HWG.out.2.1.grew (grew_pad W1 z1) (by simp), HWG.out.2.2.grew (grew_pad W1 z1) (by simp)⟩)
          have HC2 := Lib.hid (show _ ∧ _ ∧ _ from ⟨(grew_pad W1 z1).cell HC.out.1 (by simp), (grew_pad W1 z1).cell HC.out.2.1 (by simp), (grew_pad W1 z1).cell HC.out.2.2 (by simp)⟩)
          clear HWG HC
          generalize World.pad W1 z1 = W2 at *
          obtain ⟨Y, hY⟩ : ∃ Y : Int, Y = if y = 0 then n2 else y := ⟨_, rfl⟩
          rw [← hY] at HST
          have key : (y = 0 ∧ Y = n2) ∨ ((y == 0) = false ∧ Y = y) := by
            by_cases h : y = 0
            · exact .inl ⟨h, by rw [hY, if_pos h]⟩
            · exact .inr ⟨by simpa using h, by rw [hY, if_neg h]⟩
          clear hY
          have CZp := Lib.hid (fun z => CZ.out (World.pad W2 z) (grew_trans HWG2.out.1 (grew_pad W2 z)))
          obtain ⟨d0, d1, d2, d3, d4, d5⟩ := HWG2.out.2.2.six
          obtain ⟨e0, e1, e2⟩ := HC2.out
          rcases key with ⟨rfl, rfl⟩ | ⟨hyb, rfl⟩
          · go_upto_region 13 with (fail)
            have f0 := fun z => pad_cell d0 z
            have f1 := fun z => pad_cell d1 z
            have f2 := fun z => pad_cell d2 z
            have f3 := fun z => pad_cell d3 z
            have f4 := fun z => pad_cell d4 z
            have f5 := fun z => pad_cell d5 z
            have k0 := fun z => pad_cell e0 z
            have k1 := fun z => pad_cell e1 z
            have k2 := fun z => pad_cell e2 z
            clear d0 d1 d2 d3 d4 d5 e0 e1 e2
            refine wp_region_pad (by kernel_rfl) (by kernel_rfl) ?_
            repeat (go_big_quiet_step ((go_at_call 18; exact pad_call (CZp.out _))))
            refine wpQuiet_nil ?_
            rintro _ ⟨z2, rfl⟩
            clear f0 f1 f2 f3 f4 f5 k0 k1 k2 CZp CZ
            have HR2 := Lib.hid (show Grew w (World.pad W2 z2) none ∧ Whole (World.pad W2 z2) q6 #[.int .i64 3, .int .i64 0, .int .i64 0, .int .i64 0, .int .i64 0, .slice (some ⟨b1, o1, none⟩) L c] 31 ∧ RowInv T RS (j + 1) (Fo.plus x n1) _ from ⟨grew_trans HWG2.out.1 (grew_pad W2 z2), HWG2.out.2.1.grew (grew_pad W2 z2) (by simp), HST.out⟩)
            clear HWG2 HST HC2
            generalize World.pad W2 z2 = W3 at *
            go_wp2_with fail
            go_roundw
            case rel => exact ⟨j + 1, Fo.plus x n1, _, by omega, by go_num, rfl, rfl, HR2⟩
            case measure => simp [intOf]; omega
          · go_upto_region 13 with (fail)
            have f0 := fun z => pad_cell d0 z
            have f1 := fun z => pad_cell d1 z
            have f2 := fun z => pad_cell d2 z
            have f3 := fun z => pad_cell d3 z
            have f4 := fun z => pad_cell d4 z
            have f5 := fun z => pad_cell d5 z
            have k0 := fun z => pad_cell e0 z
            have k1 := fun z => pad_cell e1 z
            have k2 := fun z => pad_cell e2 z
            clear d0 d1 d2 d3 d4 d5 e0 e1 e2
            refine wp_region_pad (by kernel_rfl) (by kernel_rfl) ?_
            repeat (go_big_quiet_step ((go_at_call 18; exact pad_call (CZp.out _))))
            refine wpQuiet_nil ?_
            rintro _ ⟨z2, rfl⟩
            clear f0 f1 f2 f3 f4 f5 k0 k1 k2 CZp CZ
            have HR2 := Lib.hid (show Grew w (World.pad W2 z2) none ∧ Whole (World.pad W2 z2) q6 #[.int .i64 3, .int .i64 0, .int .i64 0, .int .i64 0, .int .i64 0, .slice (some ⟨b1, o1, none⟩) L c] 31 ∧ RowInv T RS (j + 1) (Fo.plus x n1) _ from ⟨grew_trans HWG2.out.1 (grew_pad W2 z2), HWG2.out.2.1.grew (grew_pad W2 z2) (by simp), HST.out⟩)
            clear HWG2 HST HC2
            generalize World.pad W2 z2 = W3 at *
            go_wp2_with fail
            go_roundw
            case rel => exact ⟨j + 1, Fo.plus x n1, _, by omega, by go_num, rfl, rfl, HR2⟩
            case measure => simp [intOf]; omega
        · obtain rfl : L = j := by omega
          have HIV := Lib.hid R.out.2.2
          have HG := Lib.hid R.out.1
          have HW := Lib.hid R.out.2.1
          clear R
          have key : (y = 0 ∧ T = (x, 0)) ∨ ((y == 0) = false ∧ T = (0, y)) := by
            by_cases h : y = 0
            · have h1 := HIV.out.1 h
              rw [← HPN.out, List.drop_length, tot] at h1
              exact .inl ⟨h, h1.symm⟩
            · exact .inr ⟨by simpa using h, HIV.out.2 h⟩
          have hcl : ((Fo.mk 3 0 0 0 0 A c ps)).cells = #[.int .i64 3, .int .i64 0, .int .i64 0, .int .i64 0, .int .i64 0, .slice A L c] := by simp only [Fo.cells, Fo.k, Fo.s, Fo.l, Fo.h, Fo.t, Fo.A, Fo.c, Fo.ps, HPL.out]
          have HCL := Lib.hid hcl
          clear HIV hcl
          go_wp2_with fail
          refine (CL.out wr HG.out).mono ?_
          rintro e w5 ⟨A', c', rfl, i5, g5⟩
          have I5 := Lib.hid i5
          have HW5 := Lib.hid (HW.out.grew g5 (by simp))
          have HG5 := Lib.hid (grew_trans HG.out g5)
          clear i5 g5 HW HG CL
          go_upto_region 16 with (fail)
          have hw := Whole.new w5 #[.int .u64 0, .slice none 0 0, .slice A' L c'] 26
          have hg := grew_alloc (grew_refl w5 none) (.cells #[.int .u64 0, .slice none 0 0, .slice A' L c'] 26)
          generalize w5.alloc (.cells #[.int .u64 0, .slice none 0 0, .slice A' L c'] 26) = W6 at *
          generalize w5.heap.size = q12 at *
          have HV6 := Lib.hid hw
          have HW6 := Lib.hid (HW5.out.grew hg (by simp))
          have HG6 := Lib.hid (grew_trans HG5.out hg)
          have I6 := Lib.hid (I5.out.grew hg)
          clear hw hg HW5 HG5 I5
          have hvv : (Va.mk 0 none 0 [] A' c' us).val = .agg #[.int .u64 0, .slice none 0 0, .slice A' L c'] := by rw [vval_eq]; simp only [Va.n, Va.B, Va.d, Va.bs, Va.A, Va.c, Va.ls, List.length_nil, HUL.out]
          have CTF := Lib.hid (fun w' (g : Grew w w' none) (i : (Va.mk 0 none 0 [] A' c' us).In w') => fits_any w' (Fo.mk 3 0 0 0 0 A c ps) (.mk 0 none 0 [] A' c' us) (HRI.out w' g) i)
          have CTS := Lib.hid (fun w' (g : Grew w w' none) (i : (Va.mk 0 none 0 [] A' c' us).In w') => sizes_any w' (Fo.mk 3 0 0 0 0 A c ps) (.mk 0 none 0 [] A' c' us) (HRI.out w' g) i)
          rw [HRM.out, HRV.out, hvv] at CTF CTS
          clear hvv HRM
          obtain ⟨c0, c1, c2, c3, c4, c5⟩ := HW6.out.six
          obtain ⟨v0, v1, v2⟩ := HV6.out.three
          rcases key with ⟨rfl, rfl⟩ | ⟨hyb, rfl⟩
          · go_wp2_with fail
            refine (CTF.out W6 HG6.out I6.out).mono ?_
            rintro e w7 ⟨rfl, g7⟩
            have HW7 := Lib.hid (HW6.out.grew g7 (by simp))
            have HG7 := Lib.hid (grew_trans HG6.out g7)
            have I7 := Lib.hid (I6.out.grew g7)
            have HV7 := Lib.hid (HV6.out.grew g7 (by simp))
            clear g7 HW6 HG6 I6 HV6 c0 c1 c2 c3 c4 c5 v0 v1 v2 CTF
            obtain ⟨c0, c1, c2, c3, c4, c5⟩ := HW7.out.six
            obtain ⟨v0, v1, v2⟩ := HV7.out.three
            go_wp2_with fail
            refine (CTS.out w7 HG7.out I7.out).mono ?_
            rintro e wz ⟨rfl, g8⟩
            have HWz := Lib.hid (HW7.out.grew g8 (by simp))
            have HGz := Lib.hid (grew_trans HG7.out g8)
            clear g8 HW7 HG7 I7 HV7 c0 c1 c2 c3 c4 c5 v0 v1 v2 CTS
            have HWR := Lib.hid (show Whole wz q6 ((Fo.mk 3 0 0 0 0 A c ps)).cells 31 from by rw [HCL.out]; exact HWz.out)
            clear HWz HCL
            by_cases hL0 : L = 0
            · subst hL0
              go_wp2_with fail
              go_ret
              exact ⟨rfl, grew_below HGz.out (Nat.le_refl _) (fun _ h => by cases h)⟩
            · have hL1 : 1 ≤ L := by omega
              have hLb : ((L : Int) == 0) = false := by simp; omega
              go_upto_region 20 with (fail)
              clear hLb
              refine act_letterC (fun A1 hA1 => ?_)
              have d1 : A1.eval (.tmp 1) = .slice B L d := by rw [← hA1]; rfl
              have d5 : A1.eval (.tmp 5) = .int .i64 (L : Int) := by rw [← hA1]; rfl
              have d6 : A1.eval (.tmp 6) = .pointer (some ⟨q6, 0, none⟩) := by rw [← hA1]; rfl
              have szA1 : A1.tmps.size = 103 := by rw [← hA1]; rfl
              have HA1 := Lib.hid hA1
              clear hA1
              have G0 := Lib.hid (grew_drew (grew_refl wz none))
              refine wp_region_held (S := fun w' => Grew wz w' none) (by kernel_rfl) ?_
              change wpAnyH _ _ _ _ _ _ _ _ (World.drew wz)
              refine wpAnyH_take (i := 0) (v := ((Fo.mk 3 0 0 0 0 A c ps)).val) rfl (by kernel_rfl) (by kernel_rfl) (by kernel_rfl) (fun _ _ _ h => h) (.inl ⟨rfl, fun w g => run_form (f := ((Fo.mk 3 0 0 0 0 A c ps))) rfl d6 (HWR.out.grew g (by simp))⟩) G0.out ?_
              refine act_letter (fun A2 hA2 => ?_)
              replace d1 : A2.eval (.tmp 1) = .slice B L d := by rw [← hA2]; exact (ev_ne A1 (m := 85) (n := 1) (((Fo.mk 3 0 0 0 0 A c ps)).val) (by decide)).trans d1
              replace d5 : A2.eval (.tmp 5) = .int .i64 (L : Int) := by rw [← hA2]; exact (ev_ne A1 (m := 85) (n := 5) (((Fo.mk 3 0 0 0 0 A c ps)).val) (by decide)).trans d5
              replace d6 : A2.eval (.tmp 6) = .pointer (some ⟨q6, 0, none⟩) := by rw [← hA2]; exact (ev_ne A1 (m := 85) (n := 6) (((Fo.mk 3 0 0 0 0 A c ps)).val) (by decide)).trans d6
              have e85 : A2.eval (.tmp 85) = ((Fo.mk 3 0 0 0 0 A c ps)).val := by rw [← hA2]; exact ev_self A1 85 (((Fo.mk 3 0 0 0 0 A c ps)).val) (by omega)
              have szA2 : A2.tmps.size = 103 := by rw [← hA2]; exact (sz_put A1 85 (((Fo.mk 3 0 0 0 0 A c ps)).val)).trans szA1
              have HA2 := Lib.hid (show A1.put (some 85) (((Fo.mk 3 0 0 0 0 A c ps)).val) = A2 from hA2)
              clear hA2 szA1
              have d85 := e85
              clear e85
              refine wpAnyH_take (i := 1) (v := .slice B L d) rfl (by kernel_rfl) (by kernel_rfl) (by kernel_rfl) (fun _ _ _ h => h) (.inl ⟨rfl, fun w g => run_moveV rfl d1 w⟩) G0.out ?_
              refine act_letter (fun A3 hA3 => ?_)
              replace d1 : A3.eval (.tmp 1) = .slice B L d := by rw [← hA3]; exact (ev_ne A2 (m := 86) (n := 1) (.slice B L d) (by decide)).trans d1
              replace d5 : A3.eval (.tmp 5) = .int .i64 (L : Int) := by rw [← hA3]; exact (ev_ne A2 (m := 86) (n := 5) (.slice B L d) (by decide)).trans d5
              replace d6 : A3.eval (.tmp 6) = .pointer (some ⟨q6, 0, none⟩) := by rw [← hA3]; exact (ev_ne A2 (m := 86) (n := 6) (.slice B L d) (by decide)).trans d6
              replace d85 : A3.eval (.tmp 85) = ((Fo.mk 3 0 0 0 0 A c ps)).val := by rw [← hA3]; exact (ev_ne A2 (m := 86) (n := 85) (.slice B L d) (by decide)).trans d85
              have e86 : A3.eval (.tmp 86) = .slice B L d := by rw [← hA3]; exact ev_self A2 86 (.slice B L d) (by omega)
              have szA3 : A3.tmps.size = 103 := by rw [← hA3]; exact (sz_put A2 86 (.slice B L d)).trans szA2
              have HA3 := Lib.hid (show A2.put (some 86) (.slice B L d) = A3 from hA3)
              clear hA3 szA2
              have d86 := e86
              clear e86
              refine wpAnyH_take (i := 2) (v := .int .i64 (L : Int)) rfl (by kernel_rfl) (by kernel_rfl) (by kernel_rfl) (fun _ _ _ h => h) (.inl ⟨rfl, fun w g => run_moveV rfl d5 w⟩) G0.out ?_
              refine act_letter (fun A4 hA4 => ?_)
              replace d1 : A4.eval (.tmp 1) = .slice B L d := by rw [← hA4]; exact (ev_ne A3 (m := 87) (n := 1) (.int .i64 (L : Int)) (by decide)).trans d1
              replace d5 : A4.eval (.tmp 5) = .int .i64 (L : Int) := by rw [← hA4]; exact (ev_ne A3 (m := 87) (n := 5) (.int .i64 (L : Int)) (by decide)).trans d5
              replace d6 : A4.eval (.tmp 6) = .pointer (some ⟨q6, 0, none⟩) := by rw [← hA4]; exact (ev_ne A3 (m := 87) (n := 6) (.int .i64 (L : Int)) (by decide)).trans d6
              replace d85 : A4.eval (.tmp 85) = ((Fo.mk 3 0 0 0 0 A c ps)).val := by rw [← hA4]; exact (ev_ne A3 (m := 87) (n := 85) (.int .i64 (L : Int)) (by decide)).trans d85
              replace d86 : A4.eval (.tmp 86) = .slice B L d := by rw [← hA4]; exact (ev_ne A3 (m := 87) (n := 86) (.int .i64 (L : Int)) (by decide)).trans d86
              have e87 : A4.eval (.tmp 87) = .int .i64 (L : Int) := by rw [← hA4]; exact ev_self A3 87 (.int .i64 (L : Int)) (by omega)
              have szA4 : A4.tmps.size = 103 := by rw [← hA4]; exact (sz_put A3 87 (.int .i64 (L : Int))).trans szA3
              have HA4 := Lib.hid (show A3.put (some 87) (.int .i64 (L : Int)) = A4 from hA4)
              clear hA4 szA3
              have d87 := e87
              clear e87
              refine wpAnyH_take (i := 3) (v := .int .i64 ((L - 1 : Nat) : Int)) rfl (by kernel_rfl) (by kernel_rfl) (by kernel_rfl) (fun _ _ _ h => h) (.inl ⟨rfl, fun w g => run_subOne rfl d87 rfl hL1 (by omega) w⟩) G0.out ?_
              refine act_letter (fun A5 hA5 => ?_)
              replace d1 : A5.eval (.tmp 1) = .slice B L d := by rw [← hA5]; exact (ev_ne A4 (m := 88) (n := 1) (.int .i64 ((L - 1 : Nat) : Int)) (by decide)).trans d1
              replace d5 : A5.eval (.tmp 5) = .int .i64 (L : Int) := by rw [← hA5]; exact (ev_ne A4 (m := 88) (n := 5) (.int .i64 ((L - 1 : Nat) : Int)) (by decide)).trans d5
              replace d6 : A5.eval (.tmp 6) = .pointer (some ⟨q6, 0, none⟩) := by rw [← hA5]; exact (ev_ne A4 (m := 88) (n := 6) (.int .i64 ((L - 1 : Nat) : Int)) (by decide)).trans d6
              replace d85 : A5.eval (.tmp 85) = ((Fo.mk 3 0 0 0 0 A c ps)).val := by rw [← hA5]; exact (ev_ne A4 (m := 88) (n := 85) (.int .i64 ((L - 1 : Nat) : Int)) (by decide)).trans d85
              replace d86 : A5.eval (.tmp 86) = .slice B L d := by rw [← hA5]; exact (ev_ne A4 (m := 88) (n := 86) (.int .i64 ((L - 1 : Nat) : Int)) (by decide)).trans d86
              have e88 : A5.eval (.tmp 88) = .int .i64 ((L - 1 : Nat) : Int) := by rw [← hA5]; exact ev_self A4 88 (.int .i64 ((L - 1 : Nat) : Int)) (by omega)
              have szA5 : A5.tmps.size = 103 := by rw [← hA5]; exact (sz_put A4 88 (.int .i64 ((L - 1 : Nat) : Int))).trans szA4
              have HA5 := Lib.hid (show A4.put (some 88) (.int .i64 ((L - 1 : Nat) : Int)) = A5 from hA5)
              clear hA5 szA4 d87
              have d88 := e88
              clear e88
              refine wpAnyH_take (i := 4) (v := .slice B (L - 1) d) rfl (by kernel_rfl) (by kernel_rfl) (by kernel_rfl) (fun _ _ _ h => h) (.inl ⟨rfl, fun w g => run_sliceV rfl d86 d88 (by omega) w⟩) G0.out ?_
              refine act_letter (fun A6 hA6 => ?_)
              replace d1 : A6.eval (.tmp 1) = .slice B L d := by rw [← hA6]; exact (ev_ne A5 (m := 89) (n := 1) (.slice B (L - 1) d) (by decide)).trans d1
              replace d5 : A6.eval (.tmp 5) = .int .i64 (L : Int) := by rw [← hA6]; exact (ev_ne A5 (m := 89) (n := 5) (.slice B (L - 1) d) (by decide)).trans d5
              replace d6 : A6.eval (.tmp 6) = .pointer (some ⟨q6, 0, none⟩) := by rw [← hA6]; exact (ev_ne A5 (m := 89) (n := 6) (.slice B (L - 1) d) (by decide)).trans d6
              replace d85 : A6.eval (.tmp 85) = ((Fo.mk 3 0 0 0 0 A c ps)).val := by rw [← hA6]; exact (ev_ne A5 (m := 89) (n := 85) (.slice B (L - 1) d) (by decide)).trans d85
              have e89 : A6.eval (.tmp 89) = .slice B (L - 1) d := by rw [← hA6]; exact ev_self A5 89 (.slice B (L - 1) d) (by omega)
              have szA6 : A6.tmps.size = 103 := by rw [← hA6]; exact (sz_put A5 89 (.slice B (L - 1) d)).trans szA5
              have HA6 := Lib.hid (show A5.put (some 89) (.slice B (L - 1) d) = A6 from hA6)
              clear hA6 szA5 d86 d88
              have d89 := e89
              clear e89
              refine wpAnyH_ready (rs := [5]) (by kernel_rfl) (by simp) ?_
              refine AllReadyH.cons rfl (fun K hK => ?_) AllReadyH.nil
              refine wp_callG (vs := #[.slice B (L - 1) d]) rfl (rfl) enter_vlist (by simp [d89]) ((CS.out _ (grew_trans HGz.out G0.out)).mono ?_)
              rintro e x1 ⟨B1, b1, rfl, h1, g1⟩
              refine ⟨_, rfl, hK.out _ _ (grew_trans G0.out g1) (fun _ => ?_)⟩
              clear hK K
              have G1 := Lib.hid (grew_trans G0.out g1)
              have X1 := Lib.hid h1
              clear h1
              clear g1 G0
              refine act_letter (fun A7 hA7 => ?_)
              replace d1 : A7.eval (.tmp 1) = .slice B L d := by rw [← hA7]; exact (ev_ne A6 (m := 90) (n := 1) ((Va.mk 0 none 0 [] B1 b1 (us.take (L - 1))).val) (by decide)).trans d1
              replace d5 : A7.eval (.tmp 5) = .int .i64 (L : Int) := by rw [← hA7]; exact (ev_ne A6 (m := 90) (n := 5) ((Va.mk 0 none 0 [] B1 b1 (us.take (L - 1))).val) (by decide)).trans d5
              replace d6 : A7.eval (.tmp 6) = .pointer (some ⟨q6, 0, none⟩) := by rw [← hA7]; exact (ev_ne A6 (m := 90) (n := 6) ((Va.mk 0 none 0 [] B1 b1 (us.take (L - 1))).val) (by decide)).trans d6
              replace d85 : A7.eval (.tmp 85) = ((Fo.mk 3 0 0 0 0 A c ps)).val := by rw [← hA7]; exact (ev_ne A6 (m := 90) (n := 85) ((Va.mk 0 none 0 [] B1 b1 (us.take (L - 1))).val) (by decide)).trans d85
              have e90 : A7.eval (.tmp 90) = (Va.mk 0 none 0 [] B1 b1 (us.take (L - 1))).val := by rw [← hA7]; exact ev_self A6 90 ((Va.mk 0 none 0 [] B1 b1 (us.take (L - 1))).val) (by omega)
              have szA7 : A7.tmps.size = 103 := by rw [← hA7]; exact (sz_put A6 90 ((Va.mk 0 none 0 [] B1 b1 (us.take (L - 1))).val)).trans szA6
              have HA7 := Lib.hid (show A6.put (some 90) ((Va.mk 0 none 0 [] B1 b1 (us.take (L - 1))).val) = A7 from hA7)
              clear hA7 szA6 d89
              have d90 := e90
              clear e90
              refine wpAnyH_ready (rs := [6]) (by kernel_rfl) (by simp) ?_
              refine AllReadyH.cons rfl (fun K hK => ?_) AllReadyH.nil
              refine wp_callG (vs := #[((Fo.mk 3 0 0 0 0 A c ps)).val, (Va.mk 0 none 0 [] B1 b1 (us.take (L - 1))).val]) rfl (rfl) enter_vfits (by simp [d85, d90]) ((fitsE _ ((Fo.mk 3 0 0 0 0 A c ps)) (Va.mk 0 none 0 [] B1 b1 (us.take (L - 1))) (HRI.out _ (grew_trans HGz.out G1.out)) X1.out (by rw [HRS.out _ _ hL1])).mono ?_)
              rintro e x2 ⟨rfl, g2⟩
              refine ⟨_, rfl, hK.out _ _ (grew_trans G1.out g2) (fun _ => ?_)⟩
              clear hK K
              have G2 := Lib.hid (grew_trans G1.out g2)
              clear g2 G1
              refine act_letter (fun A8 hA8 => ?_)
              replace d1 : A8.eval (.tmp 1) = .slice B L d := by rw [← hA8]; exact (ev_ne A7 (m := 91) (n := 1) (.int .i64 15) (by decide)).trans d1
              replace d5 : A8.eval (.tmp 5) = .int .i64 (L : Int) := by rw [← hA8]; exact (ev_ne A7 (m := 91) (n := 5) (.int .i64 15) (by decide)).trans d5
              replace d6 : A8.eval (.tmp 6) = .pointer (some ⟨q6, 0, none⟩) := by rw [← hA8]; exact (ev_ne A7 (m := 91) (n := 6) (.int .i64 15) (by decide)).trans d6
              have e91 : A8.eval (.tmp 91) = .int .i64 15 := by rw [← hA8]; exact ev_self A7 91 (.int .i64 15) (by omega)
              have szA8 : A8.tmps.size = 103 := by rw [← hA8]; exact (sz_put A7 91 (.int .i64 15)).trans szA7
              have HA8 := Lib.hid (show A7.put (some 91) (.int .i64 15) = A8 from hA8)
              clear hA8 szA7 d85 d90
              have d91 := e91
              clear e91
              refine wpAnyH_take (i := 7) (v := .bool true) rfl (by kernel_rfl) (by kernel_rfl) (by kernel_rfl) (fun _ _ _ h => h) (.inl ⟨rfl, fun w g => run_eql (b := 15) rfl d91 rfl w⟩) G2.out ?_
              refine act_letter (fun A9 hA9 => ?_)
              replace d1 : A9.eval (.tmp 1) = .slice B L d := by rw [← hA9]; exact (ev_ne A8 (m := 92) (n := 1) (.bool true) (by decide)).trans d1
              replace d5 : A9.eval (.tmp 5) = .int .i64 (L : Int) := by rw [← hA9]; exact (ev_ne A8 (m := 92) (n := 5) (.bool true) (by decide)).trans d5
              replace d6 : A9.eval (.tmp 6) = .pointer (some ⟨q6, 0, none⟩) := by rw [← hA9]; exact (ev_ne A8 (m := 92) (n := 6) (.bool true) (by decide)).trans d6
              have e92 : A9.eval (.tmp 92) = .bool true := by rw [← hA9]; exact ev_self A8 92 (.bool true) (by omega)
              have szA9 : A9.tmps.size = 103 := by rw [← hA9]; exact (sz_put A8 92 (.bool true)).trans szA8
              have HA9 := Lib.hid (show A8.put (some 92) (.bool true) = A9 from hA9)
              clear hA9 szA8 d91
              have d92 := e92
              clear e92
              refine wpAnyH_take (i := 8) (v := .bool true) rfl (by kernel_rfl) (by kernel_rfl) (by kernel_rfl) (fun _ _ _ h => h) (.inl ⟨rfl, fun w g => run_moveV rfl d92 w⟩) G2.out ?_
              refine act_letter (fun A10 hA10 => ?_)
              replace d1 : A10.eval (.tmp 1) = .slice B L d := by rw [← hA10]; exact (ev_ne A9 (m := 93) (n := 1) (.bool true) (by decide)).trans d1
              replace d5 : A10.eval (.tmp 5) = .int .i64 (L : Int) := by rw [← hA10]; exact (ev_ne A9 (m := 93) (n := 5) (.bool true) (by decide)).trans d5
              replace d6 : A10.eval (.tmp 6) = .pointer (some ⟨q6, 0, none⟩) := by rw [← hA10]; exact (ev_ne A9 (m := 93) (n := 6) (.bool true) (by decide)).trans d6
              have e93 : A10.eval (.tmp 93) = .bool true := by rw [← hA10]; exact ev_self A9 93 (.bool true) (by omega)
              have szA10 : A10.tmps.size = 103 := by rw [← hA10]; exact (sz_put A9 93 (.bool true)).trans szA9
              have HA10 := Lib.hid (show A9.put (some 93) (.bool true) = A10 from hA10)
              clear hA10 szA9 d92
              have d93 := e93
              clear e93
              refine wpAnyH_take (i := 9) (v := ((Fo.mk 3 0 0 0 0 A c ps)).val) rfl (by kernel_rfl) (by kernel_rfl) (by kernel_rfl) (fun _ _ _ h => h) (.inl ⟨wanted_yes (j := 8) (d := 93) rfl rfl d93, fun w g => run_form (f := ((Fo.mk 3 0 0 0 0 A c ps))) rfl d6 (HWR.out.grew g (by simp))⟩) G2.out ?_
              refine act_letter (fun A11 hA11 => ?_)
              replace d1 : A11.eval (.tmp 1) = .slice B L d := by rw [← hA11]; exact (ev_ne A10 (m := 94) (n := 1) (((Fo.mk 3 0 0 0 0 A c ps)).val) (by decide)).trans d1
              replace d5 : A11.eval (.tmp 5) = .int .i64 (L : Int) := by rw [← hA11]; exact (ev_ne A10 (m := 94) (n := 5) (((Fo.mk 3 0 0 0 0 A c ps)).val) (by decide)).trans d5
              replace d6 : A11.eval (.tmp 6) = .pointer (some ⟨q6, 0, none⟩) := by rw [← hA11]; exact (ev_ne A10 (m := 94) (n := 6) (((Fo.mk 3 0 0 0 0 A c ps)).val) (by decide)).trans d6
              replace d93 : A11.eval (.tmp 93) = .bool true := by rw [← hA11]; exact (ev_ne A10 (m := 94) (n := 93) (((Fo.mk 3 0 0 0 0 A c ps)).val) (by decide)).trans d93
              have e94 : A11.eval (.tmp 94) = ((Fo.mk 3 0 0 0 0 A c ps)).val := by rw [← hA11]; exact ev_self A10 94 (((Fo.mk 3 0 0 0 0 A c ps)).val) (by omega)
              have szA11 : A11.tmps.size = 103 := by rw [← hA11]; exact (sz_put A10 94 (((Fo.mk 3 0 0 0 0 A c ps)).val)).trans szA10
              have HA11 := Lib.hid (show A10.put (some 94) (((Fo.mk 3 0 0 0 0 A c ps)).val) = A11 from hA11)
              clear hA11 szA10
              have d94 := e94
              clear e94
              refine wpAnyH_take (i := 10) (v := .slice B L d) rfl (by kernel_rfl) (by kernel_rfl) (by kernel_rfl) (fun _ _ _ h => h) (.inl ⟨wanted_yes (j := 8) (d := 93) rfl rfl d93, fun w g => run_moveV rfl d1 w⟩) G2.out ?_
              refine act_letter (fun A12 hA12 => ?_)
              replace d1 : A12.eval (.tmp 1) = .slice B L d := by rw [← hA12]; exact (ev_ne A11 (m := 95) (n := 1) (.slice B L d) (by decide)).trans d1
              replace d5 : A12.eval (.tmp 5) = .int .i64 (L : Int) := by rw [← hA12]; exact (ev_ne A11 (m := 95) (n := 5) (.slice B L d) (by decide)).trans d5
              replace d6 : A12.eval (.tmp 6) = .pointer (some ⟨q6, 0, none⟩) := by rw [← hA12]; exact (ev_ne A11 (m := 95) (n := 6) (.slice B L d) (by decide)).trans d6
              replace d93 : A12.eval (.tmp 93) = .bool true := by rw [← hA12]; exact (ev_ne A11 (m := 95) (n := 93) (.slice B L d) (by decide)).trans d93
              replace d94 : A12.eval (.tmp 94) = ((Fo.mk 3 0 0 0 0 A c ps)).val := by rw [← hA12]; exact (ev_ne A11 (m := 95) (n := 94) (.slice B L d) (by decide)).trans d94
              have e95 : A12.eval (.tmp 95) = .slice B L d := by rw [← hA12]; exact ev_self A11 95 (.slice B L d) (by omega)
              have szA12 : A12.tmps.size = 103 := by rw [← hA12]; exact (sz_put A11 95 (.slice B L d)).trans szA11
              have HA12 := Lib.hid (show A11.put (some 95) (.slice B L d) = A12 from hA12)
              clear hA12 szA11
              have d95 := e95
              clear e95
              refine wpAnyH_take (i := 11) (v := .int .i64 (L : Int)) rfl (by kernel_rfl) (by kernel_rfl) (by kernel_rfl) (fun _ _ _ h => h) (.inl ⟨wanted_yes (j := 8) (d := 93) rfl rfl d93, fun w g => run_moveV rfl d5 w⟩) G2.out ?_
              refine act_letter (fun A13 hA13 => ?_)
              replace d1 : A13.eval (.tmp 1) = .slice B L d := by rw [← hA13]; exact (ev_ne A12 (m := 96) (n := 1) (.int .i64 (L : Int)) (by decide)).trans d1
              replace d5 : A13.eval (.tmp 5) = .int .i64 (L : Int) := by rw [← hA13]; exact (ev_ne A12 (m := 96) (n := 5) (.int .i64 (L : Int)) (by decide)).trans d5
              replace d6 : A13.eval (.tmp 6) = .pointer (some ⟨q6, 0, none⟩) := by rw [← hA13]; exact (ev_ne A12 (m := 96) (n := 6) (.int .i64 (L : Int)) (by decide)).trans d6
              replace d93 : A13.eval (.tmp 93) = .bool true := by rw [← hA13]; exact (ev_ne A12 (m := 96) (n := 93) (.int .i64 (L : Int)) (by decide)).trans d93
              replace d94 : A13.eval (.tmp 94) = ((Fo.mk 3 0 0 0 0 A c ps)).val := by rw [← hA13]; exact (ev_ne A12 (m := 96) (n := 94) (.int .i64 (L : Int)) (by decide)).trans d94
              replace d95 : A13.eval (.tmp 95) = .slice B L d := by rw [← hA13]; exact (ev_ne A12 (m := 96) (n := 95) (.int .i64 (L : Int)) (by decide)).trans d95
              have e96 : A13.eval (.tmp 96) = .int .i64 (L : Int) := by rw [← hA13]; exact ev_self A12 96 (.int .i64 (L : Int)) (by omega)
              have szA13 : A13.tmps.size = 103 := by rw [← hA13]; exact (sz_put A12 96 (.int .i64 (L : Int))).trans szA12
              have HA13 := Lib.hid (show A12.put (some 96) (.int .i64 (L : Int)) = A13 from hA13)
              clear hA13 szA12
              have d96 := e96
              clear e96
              refine wpAnyH_take (i := 12) (v := .int .i64 ((L - 1 : Nat) : Int)) rfl (by kernel_rfl) (by kernel_rfl) (by kernel_rfl) (fun _ _ _ h => h) (.inl ⟨wanted_yes (j := 8) (d := 93) rfl rfl d93, fun w g => run_subOne rfl d96 rfl hL1 (by omega) w⟩) G2.out ?_
              refine act_letter (fun A14 hA14 => ?_)
              replace d1 : A14.eval (.tmp 1) = .slice B L d := by rw [← hA14]; exact (ev_ne A13 (m := 97) (n := 1) (.int .i64 ((L - 1 : Nat) : Int)) (by decide)).trans d1
              replace d5 : A14.eval (.tmp 5) = .int .i64 (L : Int) := by rw [← hA14]; exact (ev_ne A13 (m := 97) (n := 5) (.int .i64 ((L - 1 : Nat) : Int)) (by decide)).trans d5
              replace d6 : A14.eval (.tmp 6) = .pointer (some ⟨q6, 0, none⟩) := by rw [← hA14]; exact (ev_ne A13 (m := 97) (n := 6) (.int .i64 ((L - 1 : Nat) : Int)) (by decide)).trans d6
              replace d93 : A14.eval (.tmp 93) = .bool true := by rw [← hA14]; exact (ev_ne A13 (m := 97) (n := 93) (.int .i64 ((L - 1 : Nat) : Int)) (by decide)).trans d93
              replace d94 : A14.eval (.tmp 94) = ((Fo.mk 3 0 0 0 0 A c ps)).val := by rw [← hA14]; exact (ev_ne A13 (m := 97) (n := 94) (.int .i64 ((L - 1 : Nat) : Int)) (by decide)).trans d94
              replace d95 : A14.eval (.tmp 95) = .slice B L d := by rw [← hA14]; exact (ev_ne A13 (m := 97) (n := 95) (.int .i64 ((L - 1 : Nat) : Int)) (by decide)).trans d95
              have e97 : A14.eval (.tmp 97) = .int .i64 ((L - 1 : Nat) : Int) := by rw [← hA14]; exact ev_self A13 97 (.int .i64 ((L - 1 : Nat) : Int)) (by omega)
              have szA14 : A14.tmps.size = 103 := by rw [← hA14]; exact (sz_put A13 97 (.int .i64 ((L - 1 : Nat) : Int))).trans szA13
              have HA14 := Lib.hid (show A13.put (some 97) (.int .i64 ((L - 1 : Nat) : Int)) = A14 from hA14)
              clear hA14 szA13 d96
              have d97 := e97
              clear e97
              refine wpAnyH_take (i := 13) (v := .slice B (L - 1) d) rfl (by kernel_rfl) (by kernel_rfl) (by kernel_rfl) (fun _ _ _ h => h) (.inl ⟨wanted_yes (j := 8) (d := 93) rfl rfl d93, fun w g => run_sliceV rfl d95 d97 (by omega) w⟩) G2.out ?_
              refine act_letter (fun A15 hA15 => ?_)
              replace d1 : A15.eval (.tmp 1) = .slice B L d := by rw [← hA15]; exact (ev_ne A14 (m := 98) (n := 1) (.slice B (L - 1) d) (by decide)).trans d1
              replace d5 : A15.eval (.tmp 5) = .int .i64 (L : Int) := by rw [← hA15]; exact (ev_ne A14 (m := 98) (n := 5) (.slice B (L - 1) d) (by decide)).trans d5
              replace d6 : A15.eval (.tmp 6) = .pointer (some ⟨q6, 0, none⟩) := by rw [← hA15]; exact (ev_ne A14 (m := 98) (n := 6) (.slice B (L - 1) d) (by decide)).trans d6
              replace d93 : A15.eval (.tmp 93) = .bool true := by rw [← hA15]; exact (ev_ne A14 (m := 98) (n := 93) (.slice B (L - 1) d) (by decide)).trans d93
              replace d94 : A15.eval (.tmp 94) = ((Fo.mk 3 0 0 0 0 A c ps)).val := by rw [← hA15]; exact (ev_ne A14 (m := 98) (n := 94) (.slice B (L - 1) d) (by decide)).trans d94
              have e98 : A15.eval (.tmp 98) = .slice B (L - 1) d := by rw [← hA15]; exact ev_self A14 98 (.slice B (L - 1) d) (by omega)
              have szA15 : A15.tmps.size = 103 := by rw [← hA15]; exact (sz_put A14 98 (.slice B (L - 1) d)).trans szA14
              have HA15 := Lib.hid (show A14.put (some 98) (.slice B (L - 1) d) = A15 from hA15)
              clear hA15 szA14 d95 d97
              have d98 := e98
              clear e98
              refine wpAnyH_ready (rs := [14]) (by kernel_rfl) (by simp) ?_
              refine AllReadyH.cons rfl (fun K hK => ?_) AllReadyH.nil
              refine wp_callG (vs := #[.slice B (L - 1) d]) rfl (wanted_yes (j := 8) (d := 93) rfl rfl d93) enter_vlist (by simp [d98]) ((CS.out _ (grew_trans HGz.out G2.out)).mono ?_)
              rintro e x3 ⟨B3, b3, rfl, h3, g3⟩
              refine ⟨_, rfl, hK.out _ _ (grew_trans G2.out g3) (fun _ => ?_)⟩
              clear hK K
              have G3 := Lib.hid (grew_trans G2.out g3)
              have X3 := Lib.hid h3
              clear h3
              clear g3 G2
              refine act_letter (fun A16 hA16 => ?_)
              replace d1 : A16.eval (.tmp 1) = .slice B L d := by rw [← hA16]; exact (ev_ne A15 (m := 99) (n := 1) ((Va.mk 0 none 0 [] B3 b3 (us.take (L - 1))).val) (by decide)).trans d1
              replace d5 : A16.eval (.tmp 5) = .int .i64 (L : Int) := by rw [← hA16]; exact (ev_ne A15 (m := 99) (n := 5) ((Va.mk 0 none 0 [] B3 b3 (us.take (L - 1))).val) (by decide)).trans d5
              replace d6 : A16.eval (.tmp 6) = .pointer (some ⟨q6, 0, none⟩) := by rw [← hA16]; exact (ev_ne A15 (m := 99) (n := 6) ((Va.mk 0 none 0 [] B3 b3 (us.take (L - 1))).val) (by decide)).trans d6
              replace d93 : A16.eval (.tmp 93) = .bool true := by rw [← hA16]; exact (ev_ne A15 (m := 99) (n := 93) ((Va.mk 0 none 0 [] B3 b3 (us.take (L - 1))).val) (by decide)).trans d93
              replace d94 : A16.eval (.tmp 94) = ((Fo.mk 3 0 0 0 0 A c ps)).val := by rw [← hA16]; exact (ev_ne A15 (m := 99) (n := 94) ((Va.mk 0 none 0 [] B3 b3 (us.take (L - 1))).val) (by decide)).trans d94
              have e99 : A16.eval (.tmp 99) = (Va.mk 0 none 0 [] B3 b3 (us.take (L - 1))).val := by rw [← hA16]; exact ev_self A15 99 ((Va.mk 0 none 0 [] B3 b3 (us.take (L - 1))).val) (by omega)
              have szA16 : A16.tmps.size = 103 := by rw [← hA16]; exact (sz_put A15 99 ((Va.mk 0 none 0 [] B3 b3 (us.take (L - 1))).val)).trans szA15
              have HA16 := Lib.hid (show A15.put (some 99) ((Va.mk 0 none 0 [] B3 b3 (us.take (L - 1))).val) = A16 from hA16)
              clear hA16 szA15 d98
              have d99 := e99
              clear e99
              refine wpAnyH_ready (rs := [15]) (by kernel_rfl) (by simp) ?_
              refine AllReadyH.cons rfl (fun K hK => ?_) AllReadyH.nil
              refine wp_callG (vs := #[((Fo.mk 3 0 0 0 0 A c ps)).val, (Va.mk 0 none 0 [] B3 b3 (us.take (L - 1))).val]) rfl (wanted_yes (j := 8) (d := 93) rfl rfl d93) enter_vsize (by simp [d94, d99]) ((sizeE _ ((Fo.mk 3 0 0 0 0 A c ps)) (Va.mk 0 none 0 [] B3 b3 (us.take (L - 1))) (HRI.out _ (grew_trans HGz.out G3.out)) X3.out (by rw [HRS.out _ _ hL1])).mono ?_)
              rintro e x4 ⟨rfl, g4⟩
              refine ⟨_, rfl, hK.out _ _ (grew_trans G3.out g4) (fun _ => ?_)⟩
              clear hK K
              have G4 := Lib.hid (grew_trans G3.out g4)
              clear g4 G3
              refine act_letter (fun A17 hA17 => ?_)
              replace d93 : A17.eval (.tmp 93) = .bool true := by rw [← hA17]; exact (ev_ne A16 (m := 100) (n := 93) (.int .i64 0) (by decide)).trans d93
              have e100 : A17.eval (.tmp 100) = .int .i64 0 := by rw [← hA17]; exact ev_self A16 100 (.int .i64 0) (by omega)
              have szA17 : A17.tmps.size = 103 := by rw [← hA17]; exact (sz_put A16 100 (.int .i64 0)).trans szA16
              have HA17 := Lib.hid (show A16.put (some 100) (.int .i64 0) = A17 from hA17)
              clear hA17 szA16 d1 d5 d6 d94 d99
              have d100 := e100
              clear e100
              refine wpAnyH_take (i := 16) (v := .bool true) rfl (by kernel_rfl) (by kernel_rfl) (by kernel_rfl) (fun _ _ _ h => h) (.inl ⟨wanted_yes (j := 8) (d := 93) rfl rfl d93, fun w g => run_eql (b := 0) rfl d100 rfl w⟩) G4.out ?_
              refine act_letter (fun A18 hA18 => ?_)
              replace d93 : A18.eval (.tmp 93) = .bool true := by rw [← hA18]; exact (ev_ne A17 (m := 101) (n := 93) (.bool true) (by decide)).trans d93
              have e101 : A18.eval (.tmp 101) = .bool true := by rw [← hA18]; exact ev_self A17 101 (.bool true) (by omega)
              have szA18 : A18.tmps.size = 103 := by rw [← hA18]; exact (sz_put A17 101 (.bool true)).trans szA17
              have HA18 := Lib.hid (show A17.put (some 101) (.bool true) = A18 from hA18)
              clear hA18 szA17 d100
              have d101 := e101
              clear e101
              refine wpAnyH_take (i := 17) (v := .bool true) rfl (by kernel_rfl) (by kernel_rfl) (by kernel_rfl) (fun _ _ _ h => h) (.inl ⟨rfl, fun w g => run_pickT rfl d93 d101 w⟩) G4.out ?_
              refine act_letter (fun A19 hA19 => ?_)
              have e102 : A19.eval (.tmp 102) = .bool true := by rw [← hA19]; exact ev_self A18 102 (.bool true) (by omega)
              have szA19 : A19.tmps.size = 103 := by rw [← hA19]; exact (sz_put A18 102 (.bool true)).trans szA18
              have HA19 := Lib.hid (show A18.put (some 102) (.bool true) = A19 from hA19)
              clear hA19 szA18 d93 d101
              have d102 := e102
              clear e102
              refine wpAnyH_take (i := 18) (v := .bool true) rfl (by kernel_rfl) (by kernel_rfl) (by kernel_rfl) (fun _ _ _ h => h) (.inl ⟨rfl, fun w g => run_assignV rfl d102 w⟩) G4.out ?_
              refine act_letter (fun A20 hA20 => ?_)
              have e4 : A20.eval (.tmp 4) = .bool true := by rw [← hA20]; exact ev_self A19 4 (.bool true) (by omega)
              have szA20 : A20.tmps.size = 103 := by rw [← hA20]; exact (sz_put A19 4 (.bool true)).trans szA19
              have HA20 := Lib.hid (show A19.put (some 4) (.bool true) = A20 from hA20)
              clear hA20 szA19 d102
              have d4 := e4
              clear e4
              have HGE := Lib.hid (grew_trans HGz.out G4.out)
              refine wpAnyH_done (by kernel_rfl) ?_ _
              rw [← HA20.out, ← HA19.out, ← HA18.out, ← HA17.out, ← HA16.out, ← HA15.out, ← HA14.out, ← HA13.out, ← HA12.out, ← HA11.out, ← HA10.out, ← HA9.out, ← HA8.out, ← HA7.out, ← HA6.out, ← HA5.out, ← HA4.out, ← HA3.out, ← HA2.out, ← HA1.out]
              clear HA2 HA3 HA4 HA5 HA6 HA7 HA8 HA9 HA10 HA11 HA12 HA13 HA14 HA15 HA16 HA17 HA18 HA19 HA20 HA1 d4 szA20
              simp only [Act.put, List.setIfInBounds_toArray, List.set_cons_zero, List.set_cons_succ]
              go_wp2_with fail
              go_ret
              exact ⟨rfl, grew_below HGE.out (Nat.le_refl _) (fun _ h => by cases h)⟩
          · go_wp2_with fail
            refine (CTF.out W6 HG6.out I6.out).mono ?_
            rintro e wz ⟨rfl, g7⟩
            have HWz := Lib.hid (HW6.out.grew g7 (by simp))
            have HGz := Lib.hid (grew_trans HG6.out g7)
            clear g7 HW6 HG6 I6 HV6 c0 c1 c2 c3 c4 c5 v0 v1 v2 CTF CTS
            have HWR := Lib.hid (show Whole wz q6 ((Fo.mk 3 0 0 0 0 A c ps)).cells 31 from by rw [HCL.out]; exact HWz.out)
            clear HWz HCL
            by_cases hL0 : L = 0
            · subst hL0
              go_wp2_with fail
              go_ret
              exact ⟨rfl, grew_below HGz.out (Nat.le_refl _) (fun _ h => by cases h)⟩
            · have hL1 : 1 ≤ L := by omega
              have hLb : ((L : Int) == 0) = false := by simp; omega
              go_upto_region 20 with (fail)
              clear hLb
              refine act_letterC (fun A1 hA1 => ?_)
              have d1 : A1.eval (.tmp 1) = .slice B L d := by rw [← hA1]; rfl
              have d5 : A1.eval (.tmp 5) = .int .i64 (L : Int) := by rw [← hA1]; rfl
              have d6 : A1.eval (.tmp 6) = .pointer (some ⟨q6, 0, none⟩) := by rw [← hA1]; rfl
              have szA1 : A1.tmps.size = 103 := by rw [← hA1]; rfl
              have HA1 := Lib.hid hA1
              clear hA1
              have G0 := Lib.hid (grew_drew (grew_refl wz none))
              refine wp_region_held (S := fun w' => Grew wz w' none) (by kernel_rfl) ?_
              change wpAnyH _ _ _ _ _ _ _ _ (World.drew wz)
              refine wpAnyH_take (i := 0) (v := ((Fo.mk 3 0 0 0 0 A c ps)).val) rfl (by kernel_rfl) (by kernel_rfl) (by kernel_rfl) (fun _ _ _ h => h) (.inl ⟨rfl, fun w g => run_form (f := ((Fo.mk 3 0 0 0 0 A c ps))) rfl d6 (HWR.out.grew g (by simp))⟩) G0.out ?_
              refine act_letter (fun A2 hA2 => ?_)
              replace d1 : A2.eval (.tmp 1) = .slice B L d := by rw [← hA2]; exact (ev_ne A1 (m := 85) (n := 1) (((Fo.mk 3 0 0 0 0 A c ps)).val) (by decide)).trans d1
              replace d5 : A2.eval (.tmp 5) = .int .i64 (L : Int) := by rw [← hA2]; exact (ev_ne A1 (m := 85) (n := 5) (((Fo.mk 3 0 0 0 0 A c ps)).val) (by decide)).trans d5
              replace d6 : A2.eval (.tmp 6) = .pointer (some ⟨q6, 0, none⟩) := by rw [← hA2]; exact (ev_ne A1 (m := 85) (n := 6) (((Fo.mk 3 0 0 0 0 A c ps)).val) (by decide)).trans d6
              have e85 : A2.eval (.tmp 85) = ((Fo.mk 3 0 0 0 0 A c ps)).val := by rw [← hA2]; exact ev_self A1 85 (((Fo.mk 3 0 0 0 0 A c ps)).val) (by omega)
              have szA2 : A2.tmps.size = 103 := by rw [← hA2]; exact (sz_put A1 85 (((Fo.mk 3 0 0 0 0 A c ps)).val)).trans szA1
              have HA2 := Lib.hid (show A1.put (some 85) (((Fo.mk 3 0 0 0 0 A c ps)).val) = A2 from hA2)
              clear hA2 szA1
              have d85 := e85
              clear e85
              refine wpAnyH_take (i := 1) (v := .slice B L d) rfl (by kernel_rfl) (by kernel_rfl) (by kernel_rfl) (fun _ _ _ h => h) (.inl ⟨rfl, fun w g => run_moveV rfl d1 w⟩) G0.out ?_
              refine act_letter (fun A3 hA3 => ?_)
              replace d1 : A3.eval (.tmp 1) = .slice B L d := by rw [← hA3]; exact (ev_ne A2 (m := 86) (n := 1) (.slice B L d) (by decide)).trans d1
              replace d5 : A3.eval (.tmp 5) = .int .i64 (L : Int) := by rw [← hA3]; exact (ev_ne A2 (m := 86) (n := 5) (.slice B L d) (by decide)).trans d5
              replace d6 : A3.eval (.tmp 6) = .pointer (some ⟨q6, 0, none⟩) := by rw [← hA3]; exact (ev_ne A2 (m := 86) (n := 6) (.slice B L d) (by decide)).trans d6
              replace d85 : A3.eval (.tmp 85) = ((Fo.mk 3 0 0 0 0 A c ps)).val := by rw [← hA3]; exact (ev_ne A2 (m := 86) (n := 85) (.slice B L d) (by decide)).trans d85
              have e86 : A3.eval (.tmp 86) = .slice B L d := by rw [← hA3]; exact ev_self A2 86 (.slice B L d) (by omega)
              have szA3 : A3.tmps.size = 103 := by rw [← hA3]; exact (sz_put A2 86 (.slice B L d)).trans szA2
              have HA3 := Lib.hid (show A2.put (some 86) (.slice B L d) = A3 from hA3)
              clear hA3 szA2
              have d86 := e86
              clear e86
              refine wpAnyH_take (i := 2) (v := .int .i64 (L : Int)) rfl (by kernel_rfl) (by kernel_rfl) (by kernel_rfl) (fun _ _ _ h => h) (.inl ⟨rfl, fun w g => run_moveV rfl d5 w⟩) G0.out ?_
              refine act_letter (fun A4 hA4 => ?_)
              replace d1 : A4.eval (.tmp 1) = .slice B L d := by rw [← hA4]; exact (ev_ne A3 (m := 87) (n := 1) (.int .i64 (L : Int)) (by decide)).trans d1
              replace d5 : A4.eval (.tmp 5) = .int .i64 (L : Int) := by rw [← hA4]; exact (ev_ne A3 (m := 87) (n := 5) (.int .i64 (L : Int)) (by decide)).trans d5
              replace d6 : A4.eval (.tmp 6) = .pointer (some ⟨q6, 0, none⟩) := by rw [← hA4]; exact (ev_ne A3 (m := 87) (n := 6) (.int .i64 (L : Int)) (by decide)).trans d6
              replace d85 : A4.eval (.tmp 85) = ((Fo.mk 3 0 0 0 0 A c ps)).val := by rw [← hA4]; exact (ev_ne A3 (m := 87) (n := 85) (.int .i64 (L : Int)) (by decide)).trans d85
              replace d86 : A4.eval (.tmp 86) = .slice B L d := by rw [← hA4]; exact (ev_ne A3 (m := 87) (n := 86) (.int .i64 (L : Int)) (by decide)).trans d86
              have e87 : A4.eval (.tmp 87) = .int .i64 (L : Int) := by rw [← hA4]; exact ev_self A3 87 (.int .i64 (L : Int)) (by omega)
              have szA4 : A4.tmps.size = 103 := by rw [← hA4]; exact (sz_put A3 87 (.int .i64 (L : Int))).trans szA3
              have HA4 := Lib.hid (show A3.put (some 87) (.int .i64 (L : Int)) = A4 from hA4)
              clear hA4 szA3
              have d87 := e87
              clear e87
              refine wpAnyH_take (i := 3) (v := .int .i64 ((L - 1 : Nat) : Int)) rfl (by kernel_rfl) (by kernel_rfl) (by kernel_rfl) (fun _ _ _ h => h) (.inl ⟨rfl, fun w g => run_subOne rfl d87 rfl hL1 (by omega) w⟩) G0.out ?_
              refine act_letter (fun A5 hA5 => ?_)
              replace d1 : A5.eval (.tmp 1) = .slice B L d := by rw [← hA5]; exact (ev_ne A4 (m := 88) (n := 1) (.int .i64 ((L - 1 : Nat) : Int)) (by decide)).trans d1
              replace d5 : A5.eval (.tmp 5) = .int .i64 (L : Int) := by rw [← hA5]; exact (ev_ne A4 (m := 88) (n := 5) (.int .i64 ((L - 1 : Nat) : Int)) (by decide)).trans d5
              replace d6 : A5.eval (.tmp 6) = .pointer (some ⟨q6, 0, none⟩) := by rw [← hA5]; exact (ev_ne A4 (m := 88) (n := 6) (.int .i64 ((L - 1 : Nat) : Int)) (by decide)).trans d6
              replace d85 : A5.eval (.tmp 85) = ((Fo.mk 3 0 0 0 0 A c ps)).val := by rw [← hA5]; exact (ev_ne A4 (m := 88) (n := 85) (.int .i64 ((L - 1 : Nat) : Int)) (by decide)).trans d85
              replace d86 : A5.eval (.tmp 86) = .slice B L d := by rw [← hA5]; exact (ev_ne A4 (m := 88) (n := 86) (.int .i64 ((L - 1 : Nat) : Int)) (by decide)).trans d86
              have e88 : A5.eval (.tmp 88) = .int .i64 ((L - 1 : Nat) : Int) := by rw [← hA5]; exact ev_self A4 88 (.int .i64 ((L - 1 : Nat) : Int)) (by omega)
              have szA5 : A5.tmps.size = 103 := by rw [← hA5]; exact (sz_put A4 88 (.int .i64 ((L - 1 : Nat) : Int))).trans szA4
              have HA5 := Lib.hid (show A4.put (some 88) (.int .i64 ((L - 1 : Nat) : Int)) = A5 from hA5)
              clear hA5 szA4 d87
              have d88 := e88
              clear e88
              refine wpAnyH_take (i := 4) (v := .slice B (L - 1) d) rfl (by kernel_rfl) (by kernel_rfl) (by kernel_rfl) (fun _ _ _ h => h) (.inl ⟨rfl, fun w g => run_sliceV rfl d86 d88 (by omega) w⟩) G0.out ?_
              refine act_letter (fun A6 hA6 => ?_)
              replace d1 : A6.eval (.tmp 1) = .slice B L d := by rw [← hA6]; exact (ev_ne A5 (m := 89) (n := 1) (.slice B (L - 1) d) (by decide)).trans d1
              replace d5 : A6.eval (.tmp 5) = .int .i64 (L : Int) := by rw [← hA6]; exact (ev_ne A5 (m := 89) (n := 5) (.slice B (L - 1) d) (by decide)).trans d5
              replace d6 : A6.eval (.tmp 6) = .pointer (some ⟨q6, 0, none⟩) := by rw [← hA6]; exact (ev_ne A5 (m := 89) (n := 6) (.slice B (L - 1) d) (by decide)).trans d6
              replace d85 : A6.eval (.tmp 85) = ((Fo.mk 3 0 0 0 0 A c ps)).val := by rw [← hA6]; exact (ev_ne A5 (m := 89) (n := 85) (.slice B (L - 1) d) (by decide)).trans d85
              have e89 : A6.eval (.tmp 89) = .slice B (L - 1) d := by rw [← hA6]; exact ev_self A5 89 (.slice B (L - 1) d) (by omega)
              have szA6 : A6.tmps.size = 103 := by rw [← hA6]; exact (sz_put A5 89 (.slice B (L - 1) d)).trans szA5
              have HA6 := Lib.hid (show A5.put (some 89) (.slice B (L - 1) d) = A6 from hA6)
              clear hA6 szA5 d86 d88
              have d89 := e89
              clear e89
              refine wpAnyH_ready (rs := [5]) (by kernel_rfl) (by simp) ?_
              refine AllReadyH.cons rfl (fun K hK => ?_) AllReadyH.nil
              refine wp_callG (vs := #[.slice B (L - 1) d]) rfl (rfl) enter_vlist (by simp [d89]) ((CS.out _ (grew_trans HGz.out G0.out)).mono ?_)
              rintro e x1 ⟨B1, b1, rfl, h1, g1⟩
              refine ⟨_, rfl, hK.out _ _ (grew_trans G0.out g1) (fun _ => ?_)⟩
              clear hK K
              have G1 := Lib.hid (grew_trans G0.out g1)
              have X1 := Lib.hid h1
              clear h1
              clear g1 G0
              refine act_letter (fun A7 hA7 => ?_)
              replace d1 : A7.eval (.tmp 1) = .slice B L d := by rw [← hA7]; exact (ev_ne A6 (m := 90) (n := 1) ((Va.mk 0 none 0 [] B1 b1 (us.take (L - 1))).val) (by decide)).trans d1
              replace d5 : A7.eval (.tmp 5) = .int .i64 (L : Int) := by rw [← hA7]; exact (ev_ne A6 (m := 90) (n := 5) ((Va.mk 0 none 0 [] B1 b1 (us.take (L - 1))).val) (by decide)).trans d5
              replace d6 : A7.eval (.tmp 6) = .pointer (some ⟨q6, 0, none⟩) := by rw [← hA7]; exact (ev_ne A6 (m := 90) (n := 6) ((Va.mk 0 none 0 [] B1 b1 (us.take (L - 1))).val) (by decide)).trans d6
              replace d85 : A7.eval (.tmp 85) = ((Fo.mk 3 0 0 0 0 A c ps)).val := by rw [← hA7]; exact (ev_ne A6 (m := 90) (n := 85) ((Va.mk 0 none 0 [] B1 b1 (us.take (L - 1))).val) (by decide)).trans d85
              have e90 : A7.eval (.tmp 90) = (Va.mk 0 none 0 [] B1 b1 (us.take (L - 1))).val := by rw [← hA7]; exact ev_self A6 90 ((Va.mk 0 none 0 [] B1 b1 (us.take (L - 1))).val) (by omega)
              have szA7 : A7.tmps.size = 103 := by rw [← hA7]; exact (sz_put A6 90 ((Va.mk 0 none 0 [] B1 b1 (us.take (L - 1))).val)).trans szA6
              have HA7 := Lib.hid (show A6.put (some 90) ((Va.mk 0 none 0 [] B1 b1 (us.take (L - 1))).val) = A7 from hA7)
              clear hA7 szA6 d89
              have d90 := e90
              clear e90
              refine wpAnyH_ready (rs := [6]) (by kernel_rfl) (by simp) ?_
              refine AllReadyH.cons rfl (fun K hK => ?_) AllReadyH.nil
              refine wp_callG (vs := #[((Fo.mk 3 0 0 0 0 A c ps)).val, (Va.mk 0 none 0 [] B1 b1 (us.take (L - 1))).val]) rfl (rfl) enter_vfits (by simp [d85, d90]) ((fitsE _ ((Fo.mk 3 0 0 0 0 A c ps)) (Va.mk 0 none 0 [] B1 b1 (us.take (L - 1))) (HRI.out _ (grew_trans HGz.out G1.out)) X1.out (by rw [HRS.out _ _ hL1])).mono ?_)
              rintro e x2 ⟨rfl, g2⟩
              refine ⟨_, rfl, hK.out _ _ (grew_trans G1.out g2) (fun _ => ?_)⟩
              clear hK K
              have G2 := Lib.hid (grew_trans G1.out g2)
              clear g2 G1
              refine act_letter (fun A8 hA8 => ?_)
              replace d1 : A8.eval (.tmp 1) = .slice B L d := by rw [← hA8]; exact (ev_ne A7 (m := 91) (n := 1) (.int .i64 15) (by decide)).trans d1
              replace d5 : A8.eval (.tmp 5) = .int .i64 (L : Int) := by rw [← hA8]; exact (ev_ne A7 (m := 91) (n := 5) (.int .i64 15) (by decide)).trans d5
              replace d6 : A8.eval (.tmp 6) = .pointer (some ⟨q6, 0, none⟩) := by rw [← hA8]; exact (ev_ne A7 (m := 91) (n := 6) (.int .i64 15) (by decide)).trans d6
              have e91 : A8.eval (.tmp 91) = .int .i64 15 := by rw [← hA8]; exact ev_self A7 91 (.int .i64 15) (by omega)
              have szA8 : A8.tmps.size = 103 := by rw [← hA8]; exact (sz_put A7 91 (.int .i64 15)).trans szA7
              have HA8 := Lib.hid (show A7.put (some 91) (.int .i64 15) = A8 from hA8)
              clear hA8 szA7 d85 d90
              have d91 := e91
              clear e91
              refine wpAnyH_take (i := 7) (v := .bool true) rfl (by kernel_rfl) (by kernel_rfl) (by kernel_rfl) (fun _ _ _ h => h) (.inl ⟨rfl, fun w g => run_eql (b := 15) rfl d91 rfl w⟩) G2.out ?_
              refine act_letter (fun A9 hA9 => ?_)
              replace d1 : A9.eval (.tmp 1) = .slice B L d := by rw [← hA9]; exact (ev_ne A8 (m := 92) (n := 1) (.bool true) (by decide)).trans d1
              replace d5 : A9.eval (.tmp 5) = .int .i64 (L : Int) := by rw [← hA9]; exact (ev_ne A8 (m := 92) (n := 5) (.bool true) (by decide)).trans d5
              replace d6 : A9.eval (.tmp 6) = .pointer (some ⟨q6, 0, none⟩) := by rw [← hA9]; exact (ev_ne A8 (m := 92) (n := 6) (.bool true) (by decide)).trans d6
              have e92 : A9.eval (.tmp 92) = .bool true := by rw [← hA9]; exact ev_self A8 92 (.bool true) (by omega)
              have szA9 : A9.tmps.size = 103 := by rw [← hA9]; exact (sz_put A8 92 (.bool true)).trans szA8
              have HA9 := Lib.hid (show A8.put (some 92) (.bool true) = A9 from hA9)
              clear hA9 szA8 d91
              have d92 := e92
              clear e92
              refine wpAnyH_take (i := 8) (v := .bool true) rfl (by kernel_rfl) (by kernel_rfl) (by kernel_rfl) (fun _ _ _ h => h) (.inl ⟨rfl, fun w g => run_moveV rfl d92 w⟩) G2.out ?_
              refine act_letter (fun A10 hA10 => ?_)
              replace d1 : A10.eval (.tmp 1) = .slice B L d := by rw [← hA10]; exact (ev_ne A9 (m := 93) (n := 1) (.bool true) (by decide)).trans d1
              replace d5 : A10.eval (.tmp 5) = .int .i64 (L : Int) := by rw [← hA10]; exact (ev_ne A9 (m := 93) (n := 5) (.bool true) (by decide)).trans d5
              replace d6 : A10.eval (.tmp 6) = .pointer (some ⟨q6, 0, none⟩) := by rw [← hA10]; exact (ev_ne A9 (m := 93) (n := 6) (.bool true) (by decide)).trans d6
              have e93 : A10.eval (.tmp 93) = .bool true := by rw [← hA10]; exact ev_self A9 93 (.bool true) (by omega)
              have szA10 : A10.tmps.size = 103 := by rw [← hA10]; exact (sz_put A9 93 (.bool true)).trans szA9
              have HA10 := Lib.hid (show A9.put (some 93) (.bool true) = A10 from hA10)
              clear hA10 szA9 d92
              have d93 := e93
              clear e93
              refine wpAnyH_take (i := 9) (v := ((Fo.mk 3 0 0 0 0 A c ps)).val) rfl (by kernel_rfl) (by kernel_rfl) (by kernel_rfl) (fun _ _ _ h => h) (.inl ⟨wanted_yes (j := 8) (d := 93) rfl rfl d93, fun w g => run_form (f := ((Fo.mk 3 0 0 0 0 A c ps))) rfl d6 (HWR.out.grew g (by simp))⟩) G2.out ?_
              refine act_letter (fun A11 hA11 => ?_)
              replace d1 : A11.eval (.tmp 1) = .slice B L d := by rw [← hA11]; exact (ev_ne A10 (m := 94) (n := 1) (((Fo.mk 3 0 0 0 0 A c ps)).val) (by decide)).trans d1
              replace d5 : A11.eval (.tmp 5) = .int .i64 (L : Int) := by rw [← hA11]; exact (ev_ne A10 (m := 94) (n := 5) (((Fo.mk 3 0 0 0 0 A c ps)).val) (by decide)).trans d5
              replace d6 : A11.eval (.tmp 6) = .pointer (some ⟨q6, 0, none⟩) := by rw [← hA11]; exact (ev_ne A10 (m := 94) (n := 6) (((Fo.mk 3 0 0 0 0 A c ps)).val) (by decide)).trans d6
              replace d93 : A11.eval (.tmp 93) = .bool true := by rw [← hA11]; exact (ev_ne A10 (m := 94) (n := 93) (((Fo.mk 3 0 0 0 0 A c ps)).val) (by decide)).trans d93
              have e94 : A11.eval (.tmp 94) = ((Fo.mk 3 0 0 0 0 A c ps)).val := by rw [← hA11]; exact ev_self A10 94 (((Fo.mk 3 0 0 0 0 A c ps)).val) (by omega)
              have szA11 : A11.tmps.size = 103 := by rw [← hA11]; exact (sz_put A10 94 (((Fo.mk 3 0 0 0 0 A c ps)).val)).trans szA10
              have HA11 := Lib.hid (show A10.put (some 94) (((Fo.mk 3 0 0 0 0 A c ps)).val) = A11 from hA11)
              clear hA11 szA10
              have d94 := e94
              clear e94
              refine wpAnyH_take (i := 10) (v := .slice B L d) rfl (by kernel_rfl) (by kernel_rfl) (by kernel_rfl) (fun _ _ _ h => h) (.inl ⟨wanted_yes (j := 8) (d := 93) rfl rfl d93, fun w g => run_moveV rfl d1 w⟩) G2.out ?_
              refine act_letter (fun A12 hA12 => ?_)
              replace d1 : A12.eval (.tmp 1) = .slice B L d := by rw [← hA12]; exact (ev_ne A11 (m := 95) (n := 1) (.slice B L d) (by decide)).trans d1
              replace d5 : A12.eval (.tmp 5) = .int .i64 (L : Int) := by rw [← hA12]; exact (ev_ne A11 (m := 95) (n := 5) (.slice B L d) (by decide)).trans d5
              replace d6 : A12.eval (.tmp 6) = .pointer (some ⟨q6, 0, none⟩) := by rw [← hA12]; exact (ev_ne A11 (m := 95) (n := 6) (.slice B L d) (by decide)).trans d6
              replace d93 : A12.eval (.tmp 93) = .bool true := by rw [← hA12]; exact (ev_ne A11 (m := 95) (n := 93) (.slice B L d) (by decide)).trans d93
              replace d94 : A12.eval (.tmp 94) = ((Fo.mk 3 0 0 0 0 A c ps)).val := by rw [← hA12]; exact (ev_ne A11 (m := 95) (n := 94) (.slice B L d) (by decide)).trans d94
              have e95 : A12.eval (.tmp 95) = .slice B L d := by rw [← hA12]; exact ev_self A11 95 (.slice B L d) (by omega)
              have szA12 : A12.tmps.size = 103 := by rw [← hA12]; exact (sz_put A11 95 (.slice B L d)).trans szA11
              have HA12 := Lib.hid (show A11.put (some 95) (.slice B L d) = A12 from hA12)
              clear hA12 szA11
              have d95 := e95
              clear e95
              refine wpAnyH_take (i := 11) (v := .int .i64 (L : Int)) rfl (by kernel_rfl) (by kernel_rfl) (by kernel_rfl) (fun _ _ _ h => h) (.inl ⟨wanted_yes (j := 8) (d := 93) rfl rfl d93, fun w g => run_moveV rfl d5 w⟩) G2.out ?_
              refine act_letter (fun A13 hA13 => ?_)
              replace d1 : A13.eval (.tmp 1) = .slice B L d := by rw [← hA13]; exact (ev_ne A12 (m := 96) (n := 1) (.int .i64 (L : Int)) (by decide)).trans d1
              replace d5 : A13.eval (.tmp 5) = .int .i64 (L : Int) := by rw [← hA13]; exact (ev_ne A12 (m := 96) (n := 5) (.int .i64 (L : Int)) (by decide)).trans d5
              replace d6 : A13.eval (.tmp 6) = .pointer (some ⟨q6, 0, none⟩) := by rw [← hA13]; exact (ev_ne A12 (m := 96) (n := 6) (.int .i64 (L : Int)) (by decide)).trans d6
              replace d93 : A13.eval (.tmp 93) = .bool true := by rw [← hA13]; exact (ev_ne A12 (m := 96) (n := 93) (.int .i64 (L : Int)) (by decide)).trans d93
              replace d94 : A13.eval (.tmp 94) = ((Fo.mk 3 0 0 0 0 A c ps)).val := by rw [← hA13]; exact (ev_ne A12 (m := 96) (n := 94) (.int .i64 (L : Int)) (by decide)).trans d94
              replace d95 : A13.eval (.tmp 95) = .slice B L d := by rw [← hA13]; exact (ev_ne A12 (m := 96) (n := 95) (.int .i64 (L : Int)) (by decide)).trans d95
              have e96 : A13.eval (.tmp 96) = .int .i64 (L : Int) := by rw [← hA13]; exact ev_self A12 96 (.int .i64 (L : Int)) (by omega)
              have szA13 : A13.tmps.size = 103 := by rw [← hA13]; exact (sz_put A12 96 (.int .i64 (L : Int))).trans szA12
              have HA13 := Lib.hid (show A12.put (some 96) (.int .i64 (L : Int)) = A13 from hA13)
              clear hA13 szA12
              have d96 := e96
              clear e96
              refine wpAnyH_take (i := 12) (v := .int .i64 ((L - 1 : Nat) : Int)) rfl (by kernel_rfl) (by kernel_rfl) (by kernel_rfl) (fun _ _ _ h => h) (.inl ⟨wanted_yes (j := 8) (d := 93) rfl rfl d93, fun w g => run_subOne rfl d96 rfl hL1 (by omega) w⟩) G2.out ?_
              refine act_letter (fun A14 hA14 => ?_)
              replace d1 : A14.eval (.tmp 1) = .slice B L d := by rw [← hA14]; exact (ev_ne A13 (m := 97) (n := 1) (.int .i64 ((L - 1 : Nat) : Int)) (by decide)).trans d1
              replace d5 : A14.eval (.tmp 5) = .int .i64 (L : Int) := by rw [← hA14]; exact (ev_ne A13 (m := 97) (n := 5) (.int .i64 ((L - 1 : Nat) : Int)) (by decide)).trans d5
              replace d6 : A14.eval (.tmp 6) = .pointer (some ⟨q6, 0, none⟩) := by rw [← hA14]; exact (ev_ne A13 (m := 97) (n := 6) (.int .i64 ((L - 1 : Nat) : Int)) (by decide)).trans d6
              replace d93 : A14.eval (.tmp 93) = .bool true := by rw [← hA14]; exact (ev_ne A13 (m := 97) (n := 93) (.int .i64 ((L - 1 : Nat) : Int)) (by decide)).trans d93
              replace d94 : A14.eval (.tmp 94) = ((Fo.mk 3 0 0 0 0 A c ps)).val := by rw [← hA14]; exact (ev_ne A13 (m := 97) (n := 94) (.int .i64 ((L - 1 : Nat) : Int)) (by decide)).trans d94
              replace d95 : A14.eval (.tmp 95) = .slice B L d := by rw [← hA14]; exact (ev_ne A13 (m := 97) (n := 95) (.int .i64 ((L - 1 : Nat) : Int)) (by decide)).trans d95
              have e97 : A14.eval (.tmp 97) = .int .i64 ((L - 1 : Nat) : Int) := by rw [← hA14]; exact ev_self A13 97 (.int .i64 ((L - 1 : Nat) : Int)) (by omega)
              have szA14 : A14.tmps.size = 103 := by rw [← hA14]; exact (sz_put A13 97 (.int .i64 ((L - 1 : Nat) : Int))).trans szA13
              have HA14 := Lib.hid (show A13.put (some 97) (.int .i64 ((L - 1 : Nat) : Int)) = A14 from hA14)
              clear hA14 szA13 d96
              have d97 := e97
              clear e97
              refine wpAnyH_take (i := 13) (v := .slice B (L - 1) d) rfl (by kernel_rfl) (by kernel_rfl) (by kernel_rfl) (fun _ _ _ h => h) (.inl ⟨wanted_yes (j := 8) (d := 93) rfl rfl d93, fun w g => run_sliceV rfl d95 d97 (by omega) w⟩) G2.out ?_
              refine act_letter (fun A15 hA15 => ?_)
              replace d1 : A15.eval (.tmp 1) = .slice B L d := by rw [← hA15]; exact (ev_ne A14 (m := 98) (n := 1) (.slice B (L - 1) d) (by decide)).trans d1
              replace d5 : A15.eval (.tmp 5) = .int .i64 (L : Int) := by rw [← hA15]; exact (ev_ne A14 (m := 98) (n := 5) (.slice B (L - 1) d) (by decide)).trans d5
              replace d6 : A15.eval (.tmp 6) = .pointer (some ⟨q6, 0, none⟩) := by rw [← hA15]; exact (ev_ne A14 (m := 98) (n := 6) (.slice B (L - 1) d) (by decide)).trans d6
              replace d93 : A15.eval (.tmp 93) = .bool true := by rw [← hA15]; exact (ev_ne A14 (m := 98) (n := 93) (.slice B (L - 1) d) (by decide)).trans d93
              replace d94 : A15.eval (.tmp 94) = ((Fo.mk 3 0 0 0 0 A c ps)).val := by rw [← hA15]; exact (ev_ne A14 (m := 98) (n := 94) (.slice B (L - 1) d) (by decide)).trans d94
              have e98 : A15.eval (.tmp 98) = .slice B (L - 1) d := by rw [← hA15]; exact ev_self A14 98 (.slice B (L - 1) d) (by omega)
              have szA15 : A15.tmps.size = 103 := by rw [← hA15]; exact (sz_put A14 98 (.slice B (L - 1) d)).trans szA14
              have HA15 := Lib.hid (show A14.put (some 98) (.slice B (L - 1) d) = A15 from hA15)
              clear hA15 szA14 d95 d97
              have d98 := e98
              clear e98
              refine wpAnyH_ready (rs := [14]) (by kernel_rfl) (by simp) ?_
              refine AllReadyH.cons rfl (fun K hK => ?_) AllReadyH.nil
              refine wp_callG (vs := #[.slice B (L - 1) d]) rfl (wanted_yes (j := 8) (d := 93) rfl rfl d93) enter_vlist (by simp [d98]) ((CS.out _ (grew_trans HGz.out G2.out)).mono ?_)
              rintro e x3 ⟨B3, b3, rfl, h3, g3⟩
              refine ⟨_, rfl, hK.out _ _ (grew_trans G2.out g3) (fun _ => ?_)⟩
              clear hK K
              have G3 := Lib.hid (grew_trans G2.out g3)
              have X3 := Lib.hid h3
              clear h3
              clear g3 G2
              refine act_letter (fun A16 hA16 => ?_)
              replace d1 : A16.eval (.tmp 1) = .slice B L d := by rw [← hA16]; exact (ev_ne A15 (m := 99) (n := 1) ((Va.mk 0 none 0 [] B3 b3 (us.take (L - 1))).val) (by decide)).trans d1
              replace d5 : A16.eval (.tmp 5) = .int .i64 (L : Int) := by rw [← hA16]; exact (ev_ne A15 (m := 99) (n := 5) ((Va.mk 0 none 0 [] B3 b3 (us.take (L - 1))).val) (by decide)).trans d5
              replace d6 : A16.eval (.tmp 6) = .pointer (some ⟨q6, 0, none⟩) := by rw [← hA16]; exact (ev_ne A15 (m := 99) (n := 6) ((Va.mk 0 none 0 [] B3 b3 (us.take (L - 1))).val) (by decide)).trans d6
              replace d93 : A16.eval (.tmp 93) = .bool true := by rw [← hA16]; exact (ev_ne A15 (m := 99) (n := 93) ((Va.mk 0 none 0 [] B3 b3 (us.take (L - 1))).val) (by decide)).trans d93
              replace d94 : A16.eval (.tmp 94) = ((Fo.mk 3 0 0 0 0 A c ps)).val := by rw [← hA16]; exact (ev_ne A15 (m := 99) (n := 94) ((Va.mk 0 none 0 [] B3 b3 (us.take (L - 1))).val) (by decide)).trans d94
              have e99 : A16.eval (.tmp 99) = (Va.mk 0 none 0 [] B3 b3 (us.take (L - 1))).val := by rw [← hA16]; exact ev_self A15 99 ((Va.mk 0 none 0 [] B3 b3 (us.take (L - 1))).val) (by omega)
              have szA16 : A16.tmps.size = 103 := by rw [← hA16]; exact (sz_put A15 99 ((Va.mk 0 none 0 [] B3 b3 (us.take (L - 1))).val)).trans szA15
              have HA16 := Lib.hid (show A15.put (some 99) ((Va.mk 0 none 0 [] B3 b3 (us.take (L - 1))).val) = A16 from hA16)
              clear hA16 szA15 d98
              have d99 := e99
              clear e99
              refine wpAnyH_ready (rs := [15]) (by kernel_rfl) (by simp) ?_
              refine AllReadyH.cons rfl (fun K hK => ?_) AllReadyH.nil
              refine wp_callG (vs := #[((Fo.mk 3 0 0 0 0 A c ps)).val, (Va.mk 0 none 0 [] B3 b3 (us.take (L - 1))).val]) rfl (wanted_yes (j := 8) (d := 93) rfl rfl d93) enter_vsize (by simp [d94, d99]) ((sizeE _ ((Fo.mk 3 0 0 0 0 A c ps)) (Va.mk 0 none 0 [] B3 b3 (us.take (L - 1))) (HRI.out _ (grew_trans HGz.out G3.out)) X3.out (by rw [HRS.out _ _ hL1])).mono ?_)
              rintro e x4 ⟨rfl, g4⟩
              refine ⟨_, rfl, hK.out _ _ (grew_trans G3.out g4) (fun _ => ?_)⟩
              clear hK K
              have G4 := Lib.hid (grew_trans G3.out g4)
              clear g4 G3
              refine act_letter (fun A17 hA17 => ?_)
              replace d93 : A17.eval (.tmp 93) = .bool true := by rw [← hA17]; exact (ev_ne A16 (m := 100) (n := 93) (.int .i64 0) (by decide)).trans d93
              have e100 : A17.eval (.tmp 100) = .int .i64 0 := by rw [← hA17]; exact ev_self A16 100 (.int .i64 0) (by omega)
              have szA17 : A17.tmps.size = 103 := by rw [← hA17]; exact (sz_put A16 100 (.int .i64 0)).trans szA16
              have HA17 := Lib.hid (show A16.put (some 100) (.int .i64 0) = A17 from hA17)
              clear hA17 szA16 d1 d5 d6 d94 d99
              have d100 := e100
              clear e100
              refine wpAnyH_take (i := 16) (v := .bool true) rfl (by kernel_rfl) (by kernel_rfl) (by kernel_rfl) (fun _ _ _ h => h) (.inl ⟨wanted_yes (j := 8) (d := 93) rfl rfl d93, fun w g => run_eql (b := 0) rfl d100 rfl w⟩) G4.out ?_
              refine act_letter (fun A18 hA18 => ?_)
              replace d93 : A18.eval (.tmp 93) = .bool true := by rw [← hA18]; exact (ev_ne A17 (m := 101) (n := 93) (.bool true) (by decide)).trans d93
              have e101 : A18.eval (.tmp 101) = .bool true := by rw [← hA18]; exact ev_self A17 101 (.bool true) (by omega)
              have szA18 : A18.tmps.size = 103 := by rw [← hA18]; exact (sz_put A17 101 (.bool true)).trans szA17
              have HA18 := Lib.hid (show A17.put (some 101) (.bool true) = A18 from hA18)
              clear hA18 szA17 d100
              have d101 := e101
              clear e101
              refine wpAnyH_take (i := 17) (v := .bool true) rfl (by kernel_rfl) (by kernel_rfl) (by kernel_rfl) (fun _ _ _ h => h) (.inl ⟨rfl, fun w g => run_pickT rfl d93 d101 w⟩) G4.out ?_
              refine act_letter (fun A19 hA19 => ?_)
              have e102 : A19.eval (.tmp 102) = .bool true := by rw [← hA19]; exact ev_self A18 102 (.bool true) (by omega)
              have szA19 : A19.tmps.size = 103 := by rw [← hA19]; exact (sz_put A18 102 (.bool true)).trans szA18
              have HA19 := Lib.hid (show A18.put (some 102) (.bool true) = A19 from hA19)
              clear hA19 szA18 d93 d101
              have d102 := e102
              clear e102
              refine wpAnyH_take (i := 18) (v := .bool true) rfl (by kernel_rfl) (by kernel_rfl) (by kernel_rfl) (fun _ _ _ h => h) (.inl ⟨rfl, fun w g => run_assignV rfl d102 w⟩) G4.out ?_
              refine act_letter (fun A20 hA20 => ?_)
              have e4 : A20.eval (.tmp 4) = .bool true := by rw [← hA20]; exact ev_self A19 4 (.bool true) (by omega)
              have szA20 : A20.tmps.size = 103 := by rw [← hA20]; exact (sz_put A19 4 (.bool true)).trans szA19
              have HA20 := Lib.hid (show A19.put (some 4) (.bool true) = A20 from hA20)
              clear hA20 szA19 d102
              have d4 := e4
              clear e4
              have HGE := Lib.hid (grew_trans HGz.out G4.out)
              refine wpAnyH_done (by kernel_rfl) ?_ _
              rw [← HA20.out, ← HA19.out, ← HA18.out, ← HA17.out, ← HA16.out, ← HA15.out, ← HA14.out, ← HA13.out, ← HA12.out, ← HA11.out, ← HA10.out, ← HA9.out, ← HA8.out, ← HA7.out, ← HA6.out, ← HA5.out, ← HA4.out, ← HA3.out, ← HA2.out, ← HA1.out]
              clear HA2 HA3 HA4 HA5 HA6 HA7 HA8 HA9 HA10 HA11 HA12 HA13 HA14 HA15 HA16 HA17 HA18 HA19 HA20 HA1 d4 szA20
              simp only [Act.put, List.setIfInBounds_toArray, List.set_cons_zero, List.set_cons_succ]
              go_wp2_with fail
              go_ret
              exact ⟨rfl, grew_below HGE.out (Nat.le_refl _) (fun _ h => by cases h)⟩
    · have hb : (Fo.chk (Fo.mk 3 0 0 0 0 A c ps) != 0) = true := by simpa using hck
      generalize Fo.chk (Fo.mk 3 0 0 0 0 A c ps) = K at *
      go_wp2_with fail
      refine (alive5_any w4).mono ?_
      rintro e w5 ⟨rfl, g5⟩
      go_wp2_with fail
      go_ret
      exact ⟨rfl, grew_below (grew_trans HG4.out g5) (Nat.le_refl _) (fun _ h => by cases h)⟩

set_option maxRecDepth 100000 in
theorem valueRows_lifted (os : Os) (started : os.Started) (H : Type) (enc : TypeId × Value → H) :
    ReturnsInHanded {} Try.checked os 6 .any (Rows.valueRowsSpec.pre6 enc Try.prog Try.f6 Rows.valueRowsRow.domain false) (Rows.valueRowsSpec.post enc Try.prog Try.f6 false true false false) := by
  refine returnsInHanded_of_change_sized (C := Try.checked) own started (by kernel_rfl) Try.func6
    (ChangeSpec.witness6 (enc := enc) (C := Try.checked) false ⟨#[], #[.slice none 0 0, .slice none 0 0], []⟩ 8 (by kernel_rfl) (by kernel_rfl) (by kernel_rfl) (by kernel_rfl)) ?_
  intro W base args ds gs before hval0 hW hcnd hsz0 _
  have hval : ∀ (j : Nat) t v, Try.f6.params[j]? = some t → args[j]? = some v → Value.okWide Try.prog W .any base t v := hval0
  have hsz : (DataW.weightsEach Try.prog (Try.f6.params.toList ++ Rows.valueRowsSpec.plain.varTypes Try.prog) (ds ++ gs)).all (· ≤ reachBytes) = true := hsz0
  have hW' := hW
  obtain ⟨p, q, hA0, hV, rfl, hfz, hnd⟩ := hW
  have hA : DataW.TrodAll enc Try.prog W 0 (fun _ => true) true Try.f6.params.toList args.toList ds p := hA0
  rw [Try.params6] at hA hval hsz
  obtain ⟨v0, vs0, d0, ds0, p0, q0, hargs, rfl, rfl, h0, r0⟩ := trodAll_cons hA
  obtain ⟨v1, vs1, d1, ds1, p1, q1, rfl, rfl, rfl, h1, r1⟩ := trodAll_cons r0
  obtain ⟨rfl, rfl, rfl⟩ := trodAll_nil r1
  obtain rfl : args = #[v0, v1] := by cases args; simp_all
  obtain ⟨rfl, rfl⟩ := trodVars_none hV
  have k0 := h0
  have lt0 : ∀ x ∈ p0, x.block < W.heap.size := by obtain ⟨m, hm⟩ := k0; exact DataW.trod_lt m _ _ _ hm
  obtain ⟨A0, c0, x0, rfl, l0, m0, b0, w0⟩ := arg_forms (hval 0 29 v0 rfl rfl) h0 hsz (j := 0) rfl rfl
  have k1 := h1
  have lt1 : ∀ x ∈ p1, x.block < W.heap.size := by obtain ⟨m, hm⟩ := k1; exact DataW.trod_lt m _ _ _ hm
  obtain ⟨A1, c1, x1, rfl, l1, m1, b1, w1⟩ := arg_values (hval 1 24 v1 rfl rfl) h1 hsz (j := 1) rfl rfl
  clear hA0 hval0 hsz0
  refine (valueRows_walk W A0 c0 x0 l0 m0 b0 w0 A1 c1 x1 l1 m1 b1 w1).mono fun e W' ⟨he, bel⟩ => ?_
  subst he
  exact ⟨_, rfl, _, _, _, [], _, [], hW', trodAll_mk1 (shut_bool Try.underlying4 _), (trodAll_cons_mk (Below.trod laidOut (by kernel_rfl) (of_decide_eq_true (by kernel_rfl)) k0 bel lt0) (trodAll_cons_mk (Below.trod laidOut (by kernel_rfl) (of_decide_eq_true (by kernel_rfl)) k1 bel lt1) trodAll_mk0)), rfl, bel.frame _, fun h => by cases h⟩

theorem valueRows_over : Rows.valueRowsRow.holds Try.pinned (OpenSpec.ofChange Rows.valueRowsSpec) :=
  OpenClaim.holds_of_wide 6 Try.f6 rfl rfl rfl rfl rfl rfl rfl ⟨rfl, rfl, rfl, rfl, rfl⟩ rfl rfl rfl rfl rfl (by kernel_rfl) Try.func6 (by kernel_rfl)
    (of_decide_eq_true (by kernel_rfl)) (by unfold Func.isWrapper; first | (rw [if_pos (by decide +kernel)]; kernel_rfl) | (rw [if_neg (by decide +kernel)]; exact ⟨rfl, rfl⟩))
    (fun os started H enc _ => valueRows_lifted os started H enc)

theorem valueRows_holds : Rows.ValueRowsSaid := valueRows_over
#print axioms valueRows_holds
end Go.Proofs.Ytmdmfinpcbedcaa

