/- Of two forms, the first of which isn't open, the bytes of a row are those of both, one behind the other: for every forms and values the law returns true. No condition. -/
import Derived.Test.YtibbeodcheefaaaQ23
import Derived.Deep.Cut
namespace Go.Proofs.Ytibbeodcheefaaa
open Go.ChangeShapes Go.WideShapes Go.ChangeAt Go.RowKit Va

/-- A row of two. -/
theorem row2_meas {A : Option Addr} {c : Nat} {f g : Fo} {A' : Option Addr} {c' : Nat} {u v : Va} (hc : Fo.chk (.mk 3 0 0 0 0 A c [f, g]) = 0) : f.chk = 0 ∧ g.chk = 0 ∧ Fo.wrg (.mk 3 0 0 0 0 A c [f, g]) = 0 ∧
    ((meas f u).2 = 0 → (meas g v).2 = 0 → (meas (.mk 3 0 0 0 0 A c [f, g]) (.mk 0 none 0 [] A' c' [u, v])).2 = 0 ∧ Rd.wr (.mk 3 0 0 0 0 A c [f, g]) (.mk 0 none 0 [] A' c' [u, v]) = Rd.wr f u ++ Rd.wr g v) ∧
    (((meas f u).2 ≠ 0 ∨ (meas g v).2 ≠ 0) → (meas (.mk 3 0 0 0 0 A c [f, g]) (.mk 0 none 0 [] A' c' [u, v])).2 ≠ 0) := by
  obtain ⟨hd, hw⟩ := chk_zero hc
  have hdp : Fo.dep (.mk 3 0 0 0 0 A c [f, g]) = Fo.deps [f, g] + 1 := by rw [Fo.dep, if_pos (by omega)]
  have hall : ∀ p ∈ [f, g], p.chk = 0 := by
    intro p hp
    have hq := (wrg_zero hw).2.1 p (inn_mem (.inr rfl) hp)
    have hdl : p.dep ≤ Fo.deps [f, g] := Fo.deps_le.1 (Nat.le_refl _) p hp
    unfold Fo.chk
    rw [if_neg (by omega), hq]
  have hf := hall f (by simp)
  have hg := hall g (by simp)
  have he : fit (.mk 3 0 0 0 0 A c [f, g]) (.mk 0 none 0 [] A' c' [u, v]) = tot 0 [fit f u, fit g v] := by rw [fit]; rfl
  have hww : Rd.wr (.mk 3 0 0 0 0 A c [f, g]) (.mk 0 none 0 [] A' c' [u, v]) = Rd.wr f u ++ Rd.wr g v := by
    rw [Rd.wr_3]
    show Rd.wr f u ++ (Rd.wr g v ++ []) = _
    rw [List.append_nil]
  rw [meas_ok hf, meas_ok hg, meas_ok hc, he, hww]
  refine ⟨hf, hg, hw, fun h1 h2 => ⟨?_, rfl⟩, fun h => ?_⟩
  · rw [tot, if_pos h1, tot, if_pos h2, tot]
  · by_cases h1 : (fit f u).2 = 0
    · rw [tot, if_pos h1, tot, if_neg (h.resolve_left (fun h => h h1))]
      exact h.resolve_left (fun h => h h1)
    · rw [tot, if_neg h1]
      exact h1

set_option maxRecDepth 100000 in
set_option maxHeartbeats 4000000 in
theorem writeRows_walk (w : World) (f : Fo) (hf : f.In w) (fg : Fo) (hg : fg.In w) (u v : Va) (hu : u.In w) (hv : v.In w) :
    Calls Try.prog 6 #[f.val, fg.val, .agg #[.int .u64 u.n, .slice u.B u.bs.length u.d, .slice u.A u.ls.length u.c, .int .u64 v.n, .slice v.B v.bs.length v.d, .slice v.A v.ls.length v.c]] w fun e w' => e = .returned (.bool true) ∧ Below w.heap.size w w' := by
  have HN := Lib.hid (five_new w #[.int .i64 f.k, .int .i64 f.s, .int .i64 f.l, .int .i64 f.h, .int .i64 f.t, .slice f.A f.ps.length f.c] #[.int .i64 fg.k, .int .i64 fg.s, .int .i64 fg.l, .int .i64 fg.h, .int .i64 fg.t, .slice fg.A fg.ps.length fg.c] #[.int .u64 u.n, .slice u.B u.bs.length u.d, .slice u.A u.ls.length u.c, .int .u64 v.n, .slice v.B v.bs.length v.d, .slice v.A v.ls.length v.c] #[.int .i64 f.k, .int .i64 f.s, .int .i64 f.l, .int .i64 f.h, .int .i64 f.t, .slice f.A f.ps.length f.c, .int .i64 fg.k, .int .i64 fg.s, .int .i64 fg.l, .int .i64 fg.h, .int .i64 fg.t, .slice fg.A fg.ps.length fg.c] #[.int .i64 3, .int .i64 0, .int .i64 0, .int .i64 0, .int .i64 0, .slice (some ⟨w.heap.size + 3, 0, none⟩) 2 2] 24 24 48 24 24)
  have HI := Lib.hid (fun (W : World) (gw : Grew w W none) => (show f.In W ∧ fg.In W ∧ u.In W ∧ v.In W from ⟨hf.grew gw, hg.grew gw, hu.grew gw, hv.grew gw⟩))
  clear hf hg hu hv
  rw [val_eq, val_eq]
  go_enter Try.func6, Try.ntmps6
  go_upto_region 2 with (fail)
  obtain ⟨gw, k0, k1, k2, k3, k4⟩ := HN.out _ rfl
  clear HN
  generalize ((((w.alloc (.cells #[.int .i64 f.k, .int .i64 f.s, .int .i64 f.l, .int .i64 f.h, .int .i64 f.t, .slice f.A f.ps.length f.c] 24)).alloc (.cells #[.int .i64 fg.k, .int .i64 fg.s, .int .i64 fg.l, .int .i64 fg.h, .int .i64 fg.t, .slice fg.A fg.ps.length fg.c] 24)).alloc (.cells #[.int .u64 u.n, .slice u.B u.bs.length u.d, .slice u.A u.ls.length u.c, .int .u64 v.n, .slice v.B v.bs.length v.d, .slice v.A v.ls.length v.c] 48)).alloc (.cells #[.int .i64 f.k, .int .i64 f.s, .int .i64 f.l, .int .i64 f.h, .int .i64 f.t, .slice f.A f.ps.length f.c, .int .i64 fg.k, .int .i64 fg.s, .int .i64 fg.l, .int .i64 fg.h, .int .i64 fg.t, .slice fg.A fg.ps.length fg.c] 24)).alloc (.cells #[.int .i64 3, .int .i64 0, .int .i64 0, .int .i64 0, .int .i64 0, .slice (some ⟨w.heap.size + 3, 0, none⟩) 2 2] 24) = W at *
  generalize hq : w.heap.size = q at *
  have HQ := Lib.hid hq
  clear hq
  have HW := Lib.hid gw
  have K0 := Lib.hid (show Whole W q f.cells 24 from k0)
  have K1 := Lib.hid (show Whole W (q + 1) fg.cells 24 from k1)
  have K2 := Lib.hid k2
  have KR := Lib.hid (show Whole W (q + 4) ((Fo.mk 3 0 0 0 0 (some ⟨q + 3, 0, none⟩) 2 [f, fg])).cells 24 from k4)
  have HRI := Lib.hid (fun (X : World) (gx : Grew W X none) => (show ((Fo.mk 3 0 0 0 0 (some ⟨q + 3, 0, none⟩) 2 [f, fg])).In X from .mk (by simp) (by simp) ((Fo.Lie.whole k3 rfl).grew gx) (fun p hp => by
    simp only [List.mem_cons, List.not_mem_nil, or_false] at hp
    rcases hp with rfl | rfl
    · exact (HI.out X (grew_trans gw gx)).1
    · exact (HI.out X (grew_trans gw gx)).2.1)))
  have HVL := Lib.hid (fun (X : World) (gx : Grew W X none) => (show Va.Lie X (some ⟨q + 2, 0, none⟩) [u, v] from (Va.Lie.whole k2 rfl).grew gx))
  clear gw k0 k1 k2 k3 k4
  have CG := Lib.hid (fun (X : World) (gx : Grew W X none) => vgreat_up X (Fo.mk 3 0 0 0 0 (some ⟨q + 3, 0, none⟩) 2 [f, fg]) (some ⟨q + 2, 0, none⟩) 2 [u, v] (HRI.out X gx) (HVL.out X gx) (fun z hz => by
    simp only [List.mem_cons, List.not_mem_nil, or_false] at hz
    rcases hz with rfl | rfl
    · exact (HI.out X (grew_trans HW.out gx)).2.2.1
    · exact (HI.out X (grew_trans HW.out gx)).2.2.2) (by simp))
  refine act_letterC (fun A1 hA1 => ?_)
  have d3 : A1.eval (.tmp 3) = .pointer (some ⟨q, 0, none⟩) := by rw [← hA1]; rfl
  have d4 : A1.eval (.tmp 4) = .pointer (some ⟨q + 1, 0, none⟩) := by rw [← hA1]; rfl
  have d5 : A1.eval (.tmp 5) = .pointer (some ⟨q + 2, 0, none⟩) := by rw [← hA1]; rfl
  have d7 : A1.eval (.tmp 7) = .pointer (some ⟨q + 4, 0, none⟩) := by rw [← hA1]; rfl
  have szA1 : A1.tmps.size = 78 := by rw [← hA1]; rfl
  have HA1 := Lib.hid hA1
  clear hA1
  have G0 := Lib.hid (grew_drew (grew_refl W none))
  refine wp_region_held (S := fun w' => Grew W w' none) (by kernel_rfl) ?_
  change wpAnyH _ _ _ _ _ _ _ _ (World.drew W)
  refine wpAnyH_ready (rs := [0]) (by kernel_rfl) (by simp) ?_
  refine AllReadyH.cons rfl (fun K hK => ?_) AllReadyH.nil
  refine wp_callG (vs := #[]) rfl (rfl) enter_alive7 (by simp) ((alive7_any _).mono ?_)
  rintro e x1 ⟨rfl, g1⟩
  refine ⟨_, rfl, hK.out _ _ (grew_trans G0.out g1) (fun _ => ?_)⟩
  clear hK K
  have G1 := Lib.hid (grew_trans G0.out g1)
  clear g1 G0
  refine act_letter (fun A2 hA2 => ?_)
  replace d3 : A2.eval (.tmp 3) = .pointer (some ⟨q, 0, none⟩) := by rw [← hA2]; exact (ev_ne A1 (m := 18) (n := 3) (.bool true) (by decide)).trans d3
  replace d4 : A2.eval (.tmp 4) = .pointer (some ⟨q + 1, 0, none⟩) := by rw [← hA2]; exact (ev_ne A1 (m := 18) (n := 4) (.bool true) (by decide)).trans d4
  replace d5 : A2.eval (.tmp 5) = .pointer (some ⟨q + 2, 0, none⟩) := by rw [← hA2]; exact (ev_ne A1 (m := 18) (n := 5) (.bool true) (by decide)).trans d5
  replace d7 : A2.eval (.tmp 7) = .pointer (some ⟨q + 4, 0, none⟩) := by rw [← hA2]; exact (ev_ne A1 (m := 18) (n := 7) (.bool true) (by decide)).trans d7
  have e18 : A2.eval (.tmp 18) = .bool true := by rw [← hA2]; exact ev_self A1 18 (.bool true) (by omega)
  have szA2 : A2.tmps.size = 78 := by rw [← hA2]; exact (sz_put A1 18 (.bool true)).trans szA1
  have HA2 := Lib.hid (show A1.put (some 18) (.bool true) = A2 from hA2)
  clear hA2 szA1
  have d18 := e18
  clear e18
  refine wpAnyH_take (i := 1) (v := .bool false) rfl (by kernel_rfl) (by kernel_rfl) (by kernel_rfl) (fun _ _ _ h => h) (.inl ⟨rfl, fun w g => run_not (b := true) rfl d18 w⟩) G1.out ?_
  refine act_letter (fun A3 hA3 => ?_)
  replace d3 : A3.eval (.tmp 3) = .pointer (some ⟨q, 0, none⟩) := by rw [← hA3]; exact (ev_ne A2 (m := 19) (n := 3) (.bool false) (by decide)).trans d3
  replace d4 : A3.eval (.tmp 4) = .pointer (some ⟨q + 1, 0, none⟩) := by rw [← hA3]; exact (ev_ne A2 (m := 19) (n := 4) (.bool false) (by decide)).trans d4
  replace d5 : A3.eval (.tmp 5) = .pointer (some ⟨q + 2, 0, none⟩) := by rw [← hA3]; exact (ev_ne A2 (m := 19) (n := 5) (.bool false) (by decide)).trans d5
  replace d7 : A3.eval (.tmp 7) = .pointer (some ⟨q + 4, 0, none⟩) := by rw [← hA3]; exact (ev_ne A2 (m := 19) (n := 7) (.bool false) (by decide)).trans d7
  have e19 : A3.eval (.tmp 19) = .bool false := by rw [← hA3]; exact ev_self A2 19 (.bool false) (by omega)
  have szA3 : A3.tmps.size = 78 := by rw [← hA3]; exact (sz_put A2 19 (.bool false)).trans szA2
  have HA3 := Lib.hid (show A2.put (some 19) (.bool false) = A3 from hA3)
  clear hA3 szA2 d18
  have d19 := e19
  clear e19
  refine wpAnyH_take (i := 2) (v := .bool false) rfl (by kernel_rfl) (by kernel_rfl) (by kernel_rfl) (fun _ _ _ h => h) (.inl ⟨rfl, fun w g => run_moveV rfl d19 w⟩) G1.out ?_
  refine act_letter (fun A4 hA4 => ?_)
  replace d3 : A4.eval (.tmp 3) = .pointer (some ⟨q, 0, none⟩) := by rw [← hA4]; exact (ev_ne A3 (m := 20) (n := 3) (.bool false) (by decide)).trans d3
  replace d4 : A4.eval (.tmp 4) = .pointer (some ⟨q + 1, 0, none⟩) := by rw [← hA4]; exact (ev_ne A3 (m := 20) (n := 4) (.bool false) (by decide)).trans d4
  replace d5 : A4.eval (.tmp 5) = .pointer (some ⟨q + 2, 0, none⟩) := by rw [← hA4]; exact (ev_ne A3 (m := 20) (n := 5) (.bool false) (by decide)).trans d5
  replace d7 : A4.eval (.tmp 7) = .pointer (some ⟨q + 4, 0, none⟩) := by rw [← hA4]; exact (ev_ne A3 (m := 20) (n := 7) (.bool false) (by decide)).trans d7
  have e20 : A4.eval (.tmp 20) = .bool false := by rw [← hA4]; exact ev_self A3 20 (.bool false) (by omega)
  have szA4 : A4.tmps.size = 78 := by rw [← hA4]; exact (sz_put A3 20 (.bool false)).trans szA3
  have HA4 := Lib.hid (show A3.put (some 20) (.bool false) = A4 from hA4)
  clear hA4 szA3 d19
  have d20 := e20
  clear e20
  refine wpAnyH_take (i := 3) (v := (Fo.mk 3 0 0 0 0 (some ⟨q + 3, 0, none⟩) 2 [f, fg]).val) rfl (by kernel_rfl) (by kernel_rfl) (by kernel_rfl) (fun _ _ _ h => h) (.inl ⟨wanted_yes (j := 2) (d := 20) rfl rfl d20, fun w g => run_form (f := (Fo.mk 3 0 0 0 0 (some ⟨q + 3, 0, none⟩) 2 [f, fg])) rfl d7 (KR.out.grew g (by simp))⟩) G1.out ?_
  refine act_letter (fun A5 hA5 => ?_)
  replace d3 : A5.eval (.tmp 3) = .pointer (some ⟨q, 0, none⟩) := by rw [← hA5]; exact (ev_ne A4 (m := 21) (n := 3) ((Fo.mk 3 0 0 0 0 (some ⟨q + 3, 0, none⟩) 2 [f, fg]).val) (by decide)).trans d3
  replace d4 : A5.eval (.tmp 4) = .pointer (some ⟨q + 1, 0, none⟩) := by rw [← hA5]; exact (ev_ne A4 (m := 21) (n := 4) ((Fo.mk 3 0 0 0 0 (some ⟨q + 3, 0, none⟩) 2 [f, fg]).val) (by decide)).trans d4
  replace d5 : A5.eval (.tmp 5) = .pointer (some ⟨q + 2, 0, none⟩) := by rw [← hA5]; exact (ev_ne A4 (m := 21) (n := 5) ((Fo.mk 3 0 0 0 0 (some ⟨q + 3, 0, none⟩) 2 [f, fg]).val) (by decide)).trans d5
  replace d7 : A5.eval (.tmp 7) = .pointer (some ⟨q + 4, 0, none⟩) := by rw [← hA5]; exact (ev_ne A4 (m := 21) (n := 7) ((Fo.mk 3 0 0 0 0 (some ⟨q + 3, 0, none⟩) 2 [f, fg]).val) (by decide)).trans d7
  replace d20 : A5.eval (.tmp 20) = .bool false := by rw [← hA5]; exact (ev_ne A4 (m := 21) (n := 20) ((Fo.mk 3 0 0 0 0 (some ⟨q + 3, 0, none⟩) 2 [f, fg]).val) (by decide)).trans d20
  have e21 : A5.eval (.tmp 21) = (Fo.mk 3 0 0 0 0 (some ⟨q + 3, 0, none⟩) 2 [f, fg]).val := by rw [← hA5]; exact ev_self A4 21 ((Fo.mk 3 0 0 0 0 (some ⟨q + 3, 0, none⟩) 2 [f, fg]).val) (by omega)
  have szA5 : A5.tmps.size = 78 := by rw [← hA5]; exact (sz_put A4 21 ((Fo.mk 3 0 0 0 0 (some ⟨q + 3, 0, none⟩) 2 [f, fg]).val)).trans szA4
  have HA5 := Lib.hid (show A4.put (some 21) ((Fo.mk 3 0 0 0 0 (some ⟨q + 3, 0, none⟩) 2 [f, fg]).val) = A5 from hA5)
  clear hA5 szA4
  have d21 := e21
  clear e21
  refine wpAnyH_take (i := 4) (v := .slice (some ⟨q + 2, 0, none⟩) 2 2) rfl (by kernel_rfl) (by kernel_rfl) (by kernel_rfl) (fun _ _ _ h => h) (.inl ⟨wanted_yes (j := 2) (d := 20) rfl rfl d20, fun w g => run_arr2 rfl d5 w⟩) G1.out ?_
  refine act_letter (fun A6 hA6 => ?_)
  replace d3 : A6.eval (.tmp 3) = .pointer (some ⟨q, 0, none⟩) := by rw [← hA6]; exact (ev_ne A5 (m := 22) (n := 3) (.slice (some ⟨q + 2, 0, none⟩) 2 2) (by decide)).trans d3
  replace d4 : A6.eval (.tmp 4) = .pointer (some ⟨q + 1, 0, none⟩) := by rw [← hA6]; exact (ev_ne A5 (m := 22) (n := 4) (.slice (some ⟨q + 2, 0, none⟩) 2 2) (by decide)).trans d4
  replace d5 : A6.eval (.tmp 5) = .pointer (some ⟨q + 2, 0, none⟩) := by rw [← hA6]; exact (ev_ne A5 (m := 22) (n := 5) (.slice (some ⟨q + 2, 0, none⟩) 2 2) (by decide)).trans d5
  replace d7 : A6.eval (.tmp 7) = .pointer (some ⟨q + 4, 0, none⟩) := by rw [← hA6]; exact (ev_ne A5 (m := 22) (n := 7) (.slice (some ⟨q + 2, 0, none⟩) 2 2) (by decide)).trans d7
  replace d20 : A6.eval (.tmp 20) = .bool false := by rw [← hA6]; exact (ev_ne A5 (m := 22) (n := 20) (.slice (some ⟨q + 2, 0, none⟩) 2 2) (by decide)).trans d20
  replace d21 : A6.eval (.tmp 21) = (Fo.mk 3 0 0 0 0 (some ⟨q + 3, 0, none⟩) 2 [f, fg]).val := by rw [← hA6]; exact (ev_ne A5 (m := 22) (n := 21) (.slice (some ⟨q + 2, 0, none⟩) 2 2) (by decide)).trans d21
  have e22 : A6.eval (.tmp 22) = .slice (some ⟨q + 2, 0, none⟩) 2 2 := by rw [← hA6]; exact ev_self A5 22 (.slice (some ⟨q + 2, 0, none⟩) 2 2) (by omega)
  have szA6 : A6.tmps.size = 78 := by rw [← hA6]; exact (sz_put A5 22 (.slice (some ⟨q + 2, 0, none⟩) 2 2)).trans szA5
  have HA6 := Lib.hid (show A5.put (some 22) (.slice (some ⟨q + 2, 0, none⟩) 2 2) = A6 from hA6)
  clear hA6 szA5
  have d22 := e22
  clear e22
  refine wpAnyH_ready (rs := [5]) (by kernel_rfl) (by simp) ?_
  refine AllReadyH.cons rfl (fun K hK => ?_) AllReadyH.nil
  refine wp_callG (vs := #[(Fo.mk 3 0 0 0 0 (some ⟨q + 3, 0, none⟩) 2 [f, fg]).val, .slice (some ⟨q + 2, 0, none⟩) 2 2]) rfl (wanted_yes (j := 2) (d := 20) rfl rfl d20) enter_great5 (by simp [d21, d22]) ((CG.out _ G1.out).mono ?_)
  rintro e x2 ⟨r2, rfl, rp2, rq2, rz2, g2⟩
  refine ⟨_, rfl, hK.out _ _ (grew_trans G1.out g2) (fun _ => ?_)⟩
  clear hK K
  have G2 := Lib.hid (grew_trans G1.out g2)
  have RZ := Lib.hid rz2
  clear rz2 CG
  clear g2 G1
  refine act_letter (fun A7 hA7 => ?_)
  replace d3 : A7.eval (.tmp 3) = .pointer (some ⟨q, 0, none⟩) := by rw [← hA7]; exact (ev_ne A6 (m := 23) (n := 3) (.int .i64 r2) (by decide)).trans d3
  replace d4 : A7.eval (.tmp 4) = .pointer (some ⟨q + 1, 0, none⟩) := by rw [← hA7]; exact (ev_ne A6 (m := 23) (n := 4) (.int .i64 r2) (by decide)).trans d4
  replace d5 : A7.eval (.tmp 5) = .pointer (some ⟨q + 2, 0, none⟩) := by rw [← hA7]; exact (ev_ne A6 (m := 23) (n := 5) (.int .i64 r2) (by decide)).trans d5
  replace d7 : A7.eval (.tmp 7) = .pointer (some ⟨q + 4, 0, none⟩) := by rw [← hA7]; exact (ev_ne A6 (m := 23) (n := 7) (.int .i64 r2) (by decide)).trans d7
  replace d20 : A7.eval (.tmp 20) = .bool false := by rw [← hA7]; exact (ev_ne A6 (m := 23) (n := 20) (.int .i64 r2) (by decide)).trans d20
  have e23 : A7.eval (.tmp 23) = .int .i64 r2 := by rw [← hA7]; exact ev_self A6 23 (.int .i64 r2) (by omega)
  have szA7 : A7.tmps.size = 78 := by rw [← hA7]; exact (sz_put A6 23 (.int .i64 r2)).trans szA6
  have HA7 := Lib.hid (show A6.put (some 23) (.int .i64 r2) = A7 from hA7)
  clear hA7 szA6 d21 d22
  have d23 := e23
  clear e23
  obtain ⟨big, hbig⟩ : ∃ b : Bool, decide (0 < r2) = b := ⟨_, rfl⟩
  refine wpAnyH_take (i := 6) (v := .bool big) rfl (by kernel_rfl) (by kernel_rfl) (by kernel_rfl) (fun _ _ _ h => h) (.inl ⟨wanted_yes (j := 2) (d := 20) rfl rfl d20, fun w g => by rw [← hbig]; exact run_gtr (b := 0) rfl d23 rfl w⟩) G2.out ?_
  refine act_letter (fun A8 hA8 => ?_)
  replace d3 : A8.eval (.tmp 3) = .pointer (some ⟨q, 0, none⟩) := by rw [← hA8]; exact (ev_ne A7 (m := 24) (n := 3) (.bool big) (by decide)).trans d3
  replace d4 : A8.eval (.tmp 4) = .pointer (some ⟨q + 1, 0, none⟩) := by rw [← hA8]; exact (ev_ne A7 (m := 24) (n := 4) (.bool big) (by decide)).trans d4
  replace d5 : A8.eval (.tmp 5) = .pointer (some ⟨q + 2, 0, none⟩) := by rw [← hA8]; exact (ev_ne A7 (m := 24) (n := 5) (.bool big) (by decide)).trans d5
  replace d7 : A8.eval (.tmp 7) = .pointer (some ⟨q + 4, 0, none⟩) := by rw [← hA8]; exact (ev_ne A7 (m := 24) (n := 7) (.bool big) (by decide)).trans d7
  replace d20 : A8.eval (.tmp 20) = .bool false := by rw [← hA8]; exact (ev_ne A7 (m := 24) (n := 20) (.bool big) (by decide)).trans d20
  have e24 : A8.eval (.tmp 24) = .bool big := by rw [← hA8]; exact ev_self A7 24 (.bool big) (by omega)
  have szA8 : A8.tmps.size = 78 := by rw [← hA8]; exact (sz_put A7 24 (.bool big)).trans szA7
  have HA8 := Lib.hid (show A7.put (some 24) (.bool big) = A8 from hA8)
  clear hA8 szA7 d23
  have d24 := e24
  clear e24
  refine wpAnyH_take (i := 7) (v := .bool big) rfl (by kernel_rfl) (by kernel_rfl) (by kernel_rfl) (fun _ _ _ h => h) (.inl ⟨rfl, fun w g => run_pickF rfl d20 d24 w⟩) G2.out ?_
  refine act_letter (fun A9 hA9 => ?_)
  replace d3 : A9.eval (.tmp 3) = .pointer (some ⟨q, 0, none⟩) := by rw [← hA9]; exact (ev_ne A8 (m := 25) (n := 3) (.bool big) (by decide)).trans d3
  replace d4 : A9.eval (.tmp 4) = .pointer (some ⟨q + 1, 0, none⟩) := by rw [← hA9]; exact (ev_ne A8 (m := 25) (n := 4) (.bool big) (by decide)).trans d4
  replace d5 : A9.eval (.tmp 5) = .pointer (some ⟨q + 2, 0, none⟩) := by rw [← hA9]; exact (ev_ne A8 (m := 25) (n := 5) (.bool big) (by decide)).trans d5
  replace d7 : A9.eval (.tmp 7) = .pointer (some ⟨q + 4, 0, none⟩) := by rw [← hA9]; exact (ev_ne A8 (m := 25) (n := 7) (.bool big) (by decide)).trans d7
  have e25 : A9.eval (.tmp 25) = .bool big := by rw [← hA9]; exact ev_self A8 25 (.bool big) (by omega)
  have szA9 : A9.tmps.size = 78 := by rw [← hA9]; exact (sz_put A8 25 (.bool big)).trans szA8
  have HA9 := Lib.hid (show A8.put (some 25) (.bool big) = A9 from hA9)
  clear hA9 szA8 d20 d24
  have d25 := e25
  clear e25
  refine wpAnyH_take (i := 8) (v := .bool big) rfl (by kernel_rfl) (by kernel_rfl) (by kernel_rfl) (fun _ _ _ h => h) (.inl ⟨rfl, fun w g => run_moveV rfl d25 w⟩) G2.out ?_
  refine act_letter (fun A10 hA10 => ?_)
  replace d3 : A10.eval (.tmp 3) = .pointer (some ⟨q, 0, none⟩) := by rw [← hA10]; exact (ev_ne A9 (m := 26) (n := 3) (.bool big) (by decide)).trans d3
  replace d4 : A10.eval (.tmp 4) = .pointer (some ⟨q + 1, 0, none⟩) := by rw [← hA10]; exact (ev_ne A9 (m := 26) (n := 4) (.bool big) (by decide)).trans d4
  replace d5 : A10.eval (.tmp 5) = .pointer (some ⟨q + 2, 0, none⟩) := by rw [← hA10]; exact (ev_ne A9 (m := 26) (n := 5) (.bool big) (by decide)).trans d5
  replace d7 : A10.eval (.tmp 7) = .pointer (some ⟨q + 4, 0, none⟩) := by rw [← hA10]; exact (ev_ne A9 (m := 26) (n := 7) (.bool big) (by decide)).trans d7
  have e26 : A10.eval (.tmp 26) = .bool big := by rw [← hA10]; exact ev_self A9 26 (.bool big) (by omega)
  have szA10 : A10.tmps.size = 78 := by rw [← hA10]; exact (sz_put A9 26 (.bool big)).trans szA9
  have HA10 := Lib.hid (show A9.put (some 26) (.bool big) = A10 from hA10)
  clear hA10 szA9 d25
  have d26 := e26
  clear e26
  cases big with
  | true =>
    refine wpAnyH_take (i := 9) (v := undef) rfl (by kernel_rfl) (by kernel_rfl) (by kernel_rfl) (fun _ _ _ h => h) (.inr ⟨wanted_no (j := 8) (d := 26) (b := true) rfl rfl d26, rfl⟩) G2.out ?_
    refine act_letter (fun A11 hA11 => ?_)
    replace d3 : A11.eval (.tmp 3) = .pointer (some ⟨q, 0, none⟩) := by rw [← hA11]; exact (ev_ne A10 (m := 27) (n := 3) (undef) (by decide)).trans d3
    replace d4 : A11.eval (.tmp 4) = .pointer (some ⟨q + 1, 0, none⟩) := by rw [← hA11]; exact (ev_ne A10 (m := 27) (n := 4) (undef) (by decide)).trans d4
    replace d5 : A11.eval (.tmp 5) = .pointer (some ⟨q + 2, 0, none⟩) := by rw [← hA11]; exact (ev_ne A10 (m := 27) (n := 5) (undef) (by decide)).trans d5
    replace d7 : A11.eval (.tmp 7) = .pointer (some ⟨q + 4, 0, none⟩) := by rw [← hA11]; exact (ev_ne A10 (m := 27) (n := 7) (undef) (by decide)).trans d7
    replace d26 : A11.eval (.tmp 26) = .bool true := by rw [← hA11]; exact (ev_ne A10 (m := 27) (n := 26) (undef) (by decide)).trans d26
    have e27 : A11.eval (.tmp 27) = undef := by rw [← hA11]; exact ev_self A10 27 (undef) (by omega)
    have szA11 : A11.tmps.size = 78 := by rw [← hA11]; exact (sz_put A10 27 (undef)).trans szA10
    have HA11 := Lib.hid (show A10.put (some 27) (undef) = A11 from hA11)
    clear hA11 szA10
    have d27 := e27
    clear e27
    refine wpAnyH_take (i := 10) (v := undef) rfl (by kernel_rfl) (by kernel_rfl) (by kernel_rfl) (fun _ _ _ h => h) (.inr ⟨wanted_no (j := 8) (d := 26) (b := true) rfl rfl d26, rfl⟩) G2.out ?_
    refine act_letter (fun A12 hA12 => ?_)
    replace d3 : A12.eval (.tmp 3) = .pointer (some ⟨q, 0, none⟩) := by rw [← hA12]; exact (ev_ne A11 (m := 28) (n := 3) (undef) (by decide)).trans d3
    replace d4 : A12.eval (.tmp 4) = .pointer (some ⟨q + 1, 0, none⟩) := by rw [← hA12]; exact (ev_ne A11 (m := 28) (n := 4) (undef) (by decide)).trans d4
    replace d5 : A12.eval (.tmp 5) = .pointer (some ⟨q + 2, 0, none⟩) := by rw [← hA12]; exact (ev_ne A11 (m := 28) (n := 5) (undef) (by decide)).trans d5
    replace d7 : A12.eval (.tmp 7) = .pointer (some ⟨q + 4, 0, none⟩) := by rw [← hA12]; exact (ev_ne A11 (m := 28) (n := 7) (undef) (by decide)).trans d7
    replace d26 : A12.eval (.tmp 26) = .bool true := by rw [← hA12]; exact (ev_ne A11 (m := 28) (n := 26) (undef) (by decide)).trans d26
    replace d27 : A12.eval (.tmp 27) = undef := by rw [← hA12]; exact (ev_ne A11 (m := 28) (n := 27) (undef) (by decide)).trans d27
    have e28 : A12.eval (.tmp 28) = undef := by rw [← hA12]; exact ev_self A11 28 (undef) (by omega)
    have szA12 : A12.tmps.size = 78 := by rw [← hA12]; exact (sz_put A11 28 (undef)).trans szA11
    have HA12 := Lib.hid (show A11.put (some 28) (undef) = A12 from hA12)
    clear hA12 szA11
    have d28 := e28
    clear e28
    refine wpAnyH_take (i := 11) (v := undef) rfl (by kernel_rfl) (by kernel_rfl) (by kernel_rfl) (fun _ _ _ h => h) (.inr ⟨wanted_no (j := 8) (d := 26) (b := true) rfl rfl d26, rfl⟩) G2.out ?_
    refine act_letter (fun A13 hA13 => ?_)
    replace d3 : A13.eval (.tmp 3) = .pointer (some ⟨q, 0, none⟩) := by rw [← hA13]; exact (ev_ne A12 (m := 29) (n := 3) (undef) (by decide)).trans d3
    replace d4 : A13.eval (.tmp 4) = .pointer (some ⟨q + 1, 0, none⟩) := by rw [← hA13]; exact (ev_ne A12 (m := 29) (n := 4) (undef) (by decide)).trans d4
    replace d5 : A13.eval (.tmp 5) = .pointer (some ⟨q + 2, 0, none⟩) := by rw [← hA13]; exact (ev_ne A12 (m := 29) (n := 5) (undef) (by decide)).trans d5
    replace d7 : A13.eval (.tmp 7) = .pointer (some ⟨q + 4, 0, none⟩) := by rw [← hA13]; exact (ev_ne A12 (m := 29) (n := 7) (undef) (by decide)).trans d7
    replace d26 : A13.eval (.tmp 26) = .bool true := by rw [← hA13]; exact (ev_ne A12 (m := 29) (n := 26) (undef) (by decide)).trans d26
    replace d27 : A13.eval (.tmp 27) = undef := by rw [← hA13]; exact (ev_ne A12 (m := 29) (n := 27) (undef) (by decide)).trans d27
    replace d28 : A13.eval (.tmp 28) = undef := by rw [← hA13]; exact (ev_ne A12 (m := 29) (n := 28) (undef) (by decide)).trans d28
    have e29 : A13.eval (.tmp 29) = undef := by rw [← hA13]; exact ev_self A12 29 (undef) (by omega)
    have szA13 : A13.tmps.size = 78 := by rw [← hA13]; exact (sz_put A12 29 (undef)).trans szA12
    have HA13 := Lib.hid (show A12.put (some 29) (undef) = A13 from hA13)
    clear hA13 szA12
    have d29 := e29
    clear e29
    refine wpAnyH_take (i := 12) (v := .bool true) rfl (by kernel_rfl) (by kernel_rfl) (by kernel_rfl) (fun _ _ _ h => h) (.inl ⟨rfl, fun w g => run_pickT (v := .bool true) rfl d26 rfl w⟩) G2.out ?_
    refine act_letter (fun A14 hA14 => ?_)
    replace d3 : A14.eval (.tmp 3) = .pointer (some ⟨q, 0, none⟩) := by rw [← hA14]; exact (ev_ne A13 (m := 30) (n := 3) (.bool true) (by decide)).trans d3
    replace d4 : A14.eval (.tmp 4) = .pointer (some ⟨q + 1, 0, none⟩) := by rw [← hA14]; exact (ev_ne A13 (m := 30) (n := 4) (.bool true) (by decide)).trans d4
    replace d5 : A14.eval (.tmp 5) = .pointer (some ⟨q + 2, 0, none⟩) := by rw [← hA14]; exact (ev_ne A13 (m := 30) (n := 5) (.bool true) (by decide)).trans d5
    replace d7 : A14.eval (.tmp 7) = .pointer (some ⟨q + 4, 0, none⟩) := by rw [← hA14]; exact (ev_ne A13 (m := 30) (n := 7) (.bool true) (by decide)).trans d7
    have e30 : A14.eval (.tmp 30) = .bool true := by rw [← hA14]; exact ev_self A13 30 (.bool true) (by omega)
    have szA14 : A14.tmps.size = 78 := by rw [← hA14]; exact (sz_put A13 30 (.bool true)).trans szA13
    have HA14 := Lib.hid (show A13.put (some 30) (.bool true) = A14 from hA14)
    clear hA14 szA13 d26 d27 d28 d29
    have d30 := e30
    clear e30
    have HGE := Lib.hid (grew_trans HW.out G2.out)
    refine wpAnyH_done (by kernel_rfl) ?_ _
    rw [← HA14.out, ← HA13.out, ← HA12.out, ← HA11.out, ← HA10.out, ← HA9.out, ← HA8.out, ← HA7.out, ← HA6.out, ← HA5.out, ← HA4.out, ← HA3.out, ← HA2.out, ← HA1.out]
    clear HA2 HA3 HA4 HA5 HA6 HA7 HA8 HA9 HA10 HA11 HA12 HA13 HA14 HA1 d3 d4 d5 d7 d30 szA14
    simp only [Act.put, List.setIfInBounds_toArray, List.set_cons_zero, List.set_cons_succ]
    clear hbig G2
    go_wp2_with fail
    refine (alive7_any _).mono ?_
    rintro e wz ⟨rfl, gz⟩
    have HGZ := Lib.hid (grew_trans HGE.out gz)
    clear gz
    go_wp2_with fail
    go_ret
    exact ⟨rfl, grew_below HGZ.out (by rw [HQ.out]; exact Nat.le_refl _) (fun _ h => by cases h)⟩
  | false =>
    obtain ⟨_, hsm⟩ := RZ.out (by have := of_decide_eq_false hbig; omega)
    have hu1 := hsm u (by simp)
    have hv1 := hsm v (by simp)
    have HS := Lib.hid (show _ ∧ _ from ⟨hu1, hv1⟩)
    clear hsm hu1 hv1 RZ hbig
    refine wpAnyH_take (i := 9) (v := (Fo.mk 3 0 0 0 0 (some ⟨q + 3, 0, none⟩) 2 [f, fg]).val) rfl (by kernel_rfl) (by kernel_rfl) (by kernel_rfl) (fun _ _ _ h => h) (.inl ⟨wanted_yes (j := 8) (d := 26) rfl rfl d26, fun w g => run_form (f := (Fo.mk 3 0 0 0 0 (some ⟨q + 3, 0, none⟩) 2 [f, fg])) rfl d7 (KR.out.grew g (by simp))⟩) G2.out ?_
    refine act_letter (fun A11 hA11 => ?_)
    replace d3 : A11.eval (.tmp 3) = .pointer (some ⟨q, 0, none⟩) := by rw [← hA11]; exact (ev_ne A10 (m := 27) (n := 3) ((Fo.mk 3 0 0 0 0 (some ⟨q + 3, 0, none⟩) 2 [f, fg]).val) (by decide)).trans d3
    replace d4 : A11.eval (.tmp 4) = .pointer (some ⟨q + 1, 0, none⟩) := by rw [← hA11]; exact (ev_ne A10 (m := 27) (n := 4) ((Fo.mk 3 0 0 0 0 (some ⟨q + 3, 0, none⟩) 2 [f, fg]).val) (by decide)).trans d4
    replace d5 : A11.eval (.tmp 5) = .pointer (some ⟨q + 2, 0, none⟩) := by rw [← hA11]; exact (ev_ne A10 (m := 27) (n := 5) ((Fo.mk 3 0 0 0 0 (some ⟨q + 3, 0, none⟩) 2 [f, fg]).val) (by decide)).trans d5
    replace d7 : A11.eval (.tmp 7) = .pointer (some ⟨q + 4, 0, none⟩) := by rw [← hA11]; exact (ev_ne A10 (m := 27) (n := 7) ((Fo.mk 3 0 0 0 0 (some ⟨q + 3, 0, none⟩) 2 [f, fg]).val) (by decide)).trans d7
    replace d26 : A11.eval (.tmp 26) = .bool false := by rw [← hA11]; exact (ev_ne A10 (m := 27) (n := 26) ((Fo.mk 3 0 0 0 0 (some ⟨q + 3, 0, none⟩) 2 [f, fg]).val) (by decide)).trans d26
    have e27 : A11.eval (.tmp 27) = (Fo.mk 3 0 0 0 0 (some ⟨q + 3, 0, none⟩) 2 [f, fg]).val := by rw [← hA11]; exact ev_self A10 27 ((Fo.mk 3 0 0 0 0 (some ⟨q + 3, 0, none⟩) 2 [f, fg]).val) (by omega)
    have szA11 : A11.tmps.size = 78 := by rw [← hA11]; exact (sz_put A10 27 ((Fo.mk 3 0 0 0 0 (some ⟨q + 3, 0, none⟩) 2 [f, fg]).val)).trans szA10
    have HA11 := Lib.hid (show A10.put (some 27) ((Fo.mk 3 0 0 0 0 (some ⟨q + 3, 0, none⟩) 2 [f, fg]).val) = A11 from hA11)
    clear hA11 szA10
    have d27 := e27
    clear e27
    refine wpAnyH_ready (rs := [10]) (by kernel_rfl) (by simp) ?_
    refine AllReadyH.cons rfl (fun K hK => ?_) AllReadyH.nil
    refine wp_callG (vs := #[(Fo.mk 3 0 0 0 0 (some ⟨q + 3, 0, none⟩) 2 [f, fg]).val]) rfl (wanted_yes (j := 8) (d := 26) rfl rfl d26) enter_rchk (by simp [d27]) ((rchk_any _ (Fo.mk 3 0 0 0 0 (some ⟨q + 3, 0, none⟩) 2 [f, fg]) (HRI.out _ G2.out)).mono ?_)
    rintro e x3 ⟨rfl, g3⟩
    refine ⟨_, rfl, hK.out _ _ (grew_trans G2.out g3) (fun _ => ?_)⟩
    clear hK K
    have G3 := Lib.hid (grew_trans G2.out g3)
    clear g3 G2
    refine act_letter (fun A12 hA12 => ?_)
    replace d3 : A12.eval (.tmp 3) = .pointer (some ⟨q, 0, none⟩) := by rw [← hA12]; exact (ev_ne A11 (m := 28) (n := 3) (.int .i64 (Fo.chk (Fo.mk 3 0 0 0 0 (some ⟨q + 3, 0, none⟩) 2 [f, fg]))) (by decide)).trans d3
    replace d4 : A12.eval (.tmp 4) = .pointer (some ⟨q + 1, 0, none⟩) := by rw [← hA12]; exact (ev_ne A11 (m := 28) (n := 4) (.int .i64 (Fo.chk (Fo.mk 3 0 0 0 0 (some ⟨q + 3, 0, none⟩) 2 [f, fg]))) (by decide)).trans d4
    replace d5 : A12.eval (.tmp 5) = .pointer (some ⟨q + 2, 0, none⟩) := by rw [← hA12]; exact (ev_ne A11 (m := 28) (n := 5) (.int .i64 (Fo.chk (Fo.mk 3 0 0 0 0 (some ⟨q + 3, 0, none⟩) 2 [f, fg]))) (by decide)).trans d5
    replace d7 : A12.eval (.tmp 7) = .pointer (some ⟨q + 4, 0, none⟩) := by rw [← hA12]; exact (ev_ne A11 (m := 28) (n := 7) (.int .i64 (Fo.chk (Fo.mk 3 0 0 0 0 (some ⟨q + 3, 0, none⟩) 2 [f, fg]))) (by decide)).trans d7
    replace d26 : A12.eval (.tmp 26) = .bool false := by rw [← hA12]; exact (ev_ne A11 (m := 28) (n := 26) (.int .i64 (Fo.chk (Fo.mk 3 0 0 0 0 (some ⟨q + 3, 0, none⟩) 2 [f, fg]))) (by decide)).trans d26
    have e28 : A12.eval (.tmp 28) = .int .i64 (Fo.chk (Fo.mk 3 0 0 0 0 (some ⟨q + 3, 0, none⟩) 2 [f, fg])) := by rw [← hA12]; exact ev_self A11 28 (.int .i64 (Fo.chk (Fo.mk 3 0 0 0 0 (some ⟨q + 3, 0, none⟩) 2 [f, fg]))) (by omega)
    have szA12 : A12.tmps.size = 78 := by rw [← hA12]; exact (sz_put A11 28 (.int .i64 (Fo.chk (Fo.mk 3 0 0 0 0 (some ⟨q + 3, 0, none⟩) 2 [f, fg])))).trans szA11
    have HA12 := Lib.hid (show A11.put (some 28) (.int .i64 (Fo.chk (Fo.mk 3 0 0 0 0 (some ⟨q + 3, 0, none⟩) 2 [f, fg]))) = A12 from hA12)
    clear hA12 szA11 d27
    have d28 := e28
    clear e28
    obtain ⟨wr, hwr⟩ : ∃ b : Bool, (Fo.chk (Fo.mk 3 0 0 0 0 (some ⟨q + 3, 0, none⟩) 2 [f, fg]) != 0) = b := ⟨_, rfl⟩
    refine wpAnyH_take (i := 11) (v := .bool wr) rfl (by kernel_rfl) (by kernel_rfl) (by kernel_rfl) (fun _ _ _ h => h) (.inl ⟨wanted_yes (j := 8) (d := 26) rfl rfl d26, fun w g => by rw [← hwr]; exact run_neq (b := 0) rfl d28 rfl w⟩) G3.out ?_
    refine act_letter (fun A13 hA13 => ?_)
    replace d3 : A13.eval (.tmp 3) = .pointer (some ⟨q, 0, none⟩) := by rw [← hA13]; exact (ev_ne A12 (m := 29) (n := 3) (.bool wr) (by decide)).trans d3
    replace d4 : A13.eval (.tmp 4) = .pointer (some ⟨q + 1, 0, none⟩) := by rw [← hA13]; exact (ev_ne A12 (m := 29) (n := 4) (.bool wr) (by decide)).trans d4
    replace d5 : A13.eval (.tmp 5) = .pointer (some ⟨q + 2, 0, none⟩) := by rw [← hA13]; exact (ev_ne A12 (m := 29) (n := 5) (.bool wr) (by decide)).trans d5
    replace d7 : A13.eval (.tmp 7) = .pointer (some ⟨q + 4, 0, none⟩) := by rw [← hA13]; exact (ev_ne A12 (m := 29) (n := 7) (.bool wr) (by decide)).trans d7
    replace d26 : A13.eval (.tmp 26) = .bool false := by rw [← hA13]; exact (ev_ne A12 (m := 29) (n := 26) (.bool wr) (by decide)).trans d26
    have e29 : A13.eval (.tmp 29) = .bool wr := by rw [← hA13]; exact ev_self A12 29 (.bool wr) (by omega)
    have szA13 : A13.tmps.size = 78 := by rw [← hA13]; exact (sz_put A12 29 (.bool wr)).trans szA12
    have HA13 := Lib.hid (show A12.put (some 29) (.bool wr) = A13 from hA13)
    clear hA13 szA12 d28
    have d29 := e29
    clear e29
    refine wpAnyH_take (i := 12) (v := .bool wr) rfl (by kernel_rfl) (by kernel_rfl) (by kernel_rfl) (fun _ _ _ h => h) (.inl ⟨rfl, fun w g => run_pickF rfl d26 d29 w⟩) G3.out ?_
    refine act_letter (fun A14 hA14 => ?_)
    replace d3 : A14.eval (.tmp 3) = .pointer (some ⟨q, 0, none⟩) := by rw [← hA14]; exact (ev_ne A13 (m := 30) (n := 3) (.bool wr) (by decide)).trans d3
    replace d4 : A14.eval (.tmp 4) = .pointer (some ⟨q + 1, 0, none⟩) := by rw [← hA14]; exact (ev_ne A13 (m := 30) (n := 4) (.bool wr) (by decide)).trans d4
    replace d5 : A14.eval (.tmp 5) = .pointer (some ⟨q + 2, 0, none⟩) := by rw [← hA14]; exact (ev_ne A13 (m := 30) (n := 5) (.bool wr) (by decide)).trans d5
    replace d7 : A14.eval (.tmp 7) = .pointer (some ⟨q + 4, 0, none⟩) := by rw [← hA14]; exact (ev_ne A13 (m := 30) (n := 7) (.bool wr) (by decide)).trans d7
    have e30 : A14.eval (.tmp 30) = .bool wr := by rw [← hA14]; exact ev_self A13 30 (.bool wr) (by omega)
    have szA14 : A14.tmps.size = 78 := by rw [← hA14]; exact (sz_put A13 30 (.bool wr)).trans szA13
    have HA14 := Lib.hid (show A13.put (some 30) (.bool wr) = A14 from hA14)
    clear hA14 szA13 d26 d29
    have d30 := e30
    clear e30
    have HGE := Lib.hid (grew_trans HW.out G3.out)
    have HGR := G3
    refine wpAnyH_done (by kernel_rfl) ?_ _
    rw [← HA14.out, ← HA13.out, ← HA12.out, ← HA11.out, ← HA10.out, ← HA9.out, ← HA8.out, ← HA7.out, ← HA6.out, ← HA5.out, ← HA4.out, ← HA3.out, ← HA2.out, ← HA1.out]
    clear HA2 HA3 HA4 HA5 HA6 HA7 HA8 HA9 HA10 HA11 HA12 HA13 HA14 HA1 d3 d4 d5 d7 d30 szA14
    simp only [Act.put, List.setIfInBounds_toArray, List.set_cons_zero, List.set_cons_succ]
    clear G3
    cases wr with
    | true =>
      go_wp2_with fail
      refine (alive7_any _).mono ?_
      rintro e wz ⟨rfl, gz⟩
      have HGZ := Lib.hid (grew_trans HGE.out gz)
      clear gz
      go_wp2_with fail
      go_ret
      exact ⟨rfl, grew_below HGZ.out (by rw [HQ.out]; exact Nat.le_refl _) (fun _ h => by cases h)⟩
    | false =>
      have hck : Fo.chk (Fo.mk 3 0 0 0 0 (some ⟨q + 3, 0, none⟩) 2 [f, fg]) = 0 := by simpa using hwr
      have HM := Lib.hid (fun (A' : Option Addr) (c' : Nat) => row2_meas (A' := A') (c' := c') (u := u) (v := v) hck)
      clear hwr hck
      generalize x3 = X at *
      have C1 := Lib.hid (fun (Y : World) (gy : Grew W Y none) => write_gen Y f (HI.out Y (grew_trans HW.out gy)).1 u (HI.out Y (grew_trans HW.out gy)).2.2.1 (fun n h1 h2 => Nat.le_trans (wr_small HS.out.1.1 HS.out.1.2 n h1 h2) (by omega)))
      have C2 := Lib.hid (fun (Y : World) (gy : Grew W Y none) => write_gen Y fg (HI.out Y (grew_trans HW.out gy)).2.1 v (HI.out Y (grew_trans HW.out gy)).2.2.2 (fun n h1 h2 => Nat.le_trans (wr_small HS.out.2.1 HS.out.2.2 n h1 h2) (by omega)))
      have C3 := Lib.hid (fun (Y : World) (gy : Grew W Y none) => write_gen Y (Fo.mk 3 0 0 0 0 (some ⟨q + 3, 0, none⟩) 2 [f, fg]) (HRI.out Y gy) (Va.mk 0 none 0 [] (some ⟨q + 2, 0, none⟩) 2 [u, v]) (.mk (by decide) (fun h => by simp at h) (by simp) (by simp) (by simp) (HVL.out Y gy) (fun z hz => by
          simp only [List.mem_cons, List.not_mem_nil, or_false] at hz
          rcases hz with rfl | rfl
          · exact (HI.out Y (grew_trans HW.out gy)).2.2.1
          · exact (HI.out Y (grew_trans HW.out gy)).2.2.2)) (fun n h1 h2 => by
            obtain ⟨m1, m2, m3, m4, m5⟩ := HM.out (some ⟨q + 2, 0, none⟩) 2
            obtain ⟨s1, s2⟩ := HS.out
            have hw := Rd.wr_wide _ m3 _ n h2
            rw [Rd.wide_eq, Rd.wides] at hw
            have hls : ((Va.mk 0 none 0 [] (some ⟨q + 2, 0, none⟩) 2 [u, v])).ls = [u, v] := rfl
            have hbs : ((Va.mk 0 none 0 [] (some ⟨q + 2, 0, none⟩) 2 [u, v])).bs = [] := rfl
            rw [hls, hbs] at hw
            simp only [byts, cnts, List.length_nil] at hw
            omega))
      have HMM := Lib.hid (show _ from (HM.out (some ⟨q + 2, 0, none⟩) 2).2.2.2)
      have HL := Lib.hid (show ((meas f u).2 = 0 → (Rd.wr f u).length ≤ 36000) ∧ ((meas fg v).2 = 0 → (Rd.wr fg v).length ≤ 36000) from by
        obtain ⟨m1, m2, _⟩ := HM.out (some ⟨q + 2, 0, none⟩) 2
        rw [meas_ok m1, meas_ok m2]
        exact ⟨fun h => wr_small HS.out.1.1 HS.out.1.2 (fit f u).1 (chk_zero m1).2 (Prod.ext rfl h), fun h => wr_small HS.out.2.1 HS.out.2.2 (fit fg v).1 (chk_zero m2).2 (Prod.ext rfl h)⟩)
      clear HM HS HI HRI HVL
      generalize (meas f u).2 = E1 at *
      generalize (meas fg v).2 = E2 at *
      generalize hE3 : (meas (Fo.mk 3 0 0 0 0 (some ⟨q + 3, 0, none⟩) 2 [f, fg]) (Va.mk 0 none 0 [] (some ⟨q + 2, 0, none⟩) 2 [u, v])).2 = E3 at *
      generalize Rd.wr f u = Y1 at *
      generalize Rd.wr fg v = Y2 at *
      generalize hY3 : Rd.wr (Fo.mk 3 0 0 0 0 (some ⟨q + 3, 0, none⟩) 2 [f, fg]) (Va.mk 0 none 0 [] (some ⟨q + 2, 0, none⟩) 2 [u, v]) = Y3 at *
      clear hE3 hY3
      rw [val_eq, vval_eq] at C1 C2
      obtain ⟨b0, b1, b2, b3, b4, b5⟩ := (show Whole X q #[.int .i64 f.k, .int .i64 f.s, .int .i64 f.l, .int .i64 f.h, .int .i64 f.t, .slice f.A f.ps.length f.c] 24 from K0.out.grew HGR.out (by simp)).six
      have c2 := K2.out.grew HGR.out (by simp)
      have d0 := c2.cell 0
      have d1 := c2.cell 1
      have d2 := c2.cell 2
      simp only [List.getElem?_toArray, List.getElem?_cons_succ, List.getElem?_cons_zero] at d0 d1 d2
      clear c2
      go_wp2_with fail
      refine (C1.out X HGR.out).mono ?_
      rintro e X1 ⟨B1, n1, Z1, rfl, z1, za1, zb1, gx⟩
      have HG1 := Lib.hid (grew_trans HGR.out gx)
      have Z1B := Lib.hid z1
      have Z1E := Lib.hid (show _ ∧ _ from ⟨za1, zb1⟩)
      clear z1 za1 zb1 gx HGR HGE C1 b0 b1 b2 b3 b4 b5 d0 d1 d2
      obtain ⟨b0, b1, b2, b3, b4, b5⟩ := (show Whole X1 (q + 1) #[.int .i64 fg.k, .int .i64 fg.s, .int .i64 fg.l, .int .i64 fg.h, .int .i64 fg.t, .slice fg.A fg.ps.length fg.c] 24 from K1.out.grew HG1.out (by simp)).six
      have c2 := K2.out.grew HG1.out (by simp)
      have d3 := c2.cell 3
      have d4 := c2.cell 4
      have d5 := c2.cell 5
      simp only [List.getElem?_toArray, List.getElem?_cons_succ, List.getElem?_cons_zero] at d3 d4 d5
      clear c2
      go_wp2_with fail
      refine (C2.out X1 HG1.out).mono ?_
      rintro e X2 ⟨B2, n2, Z2, rfl, z2, za2, zb2, gx⟩
      have HG2 := Lib.hid (grew_trans HG1.out gx)
      have Z1C := Lib.hid ((Z1B.out.grew gx (fun _ h => by cases h)).more gx.size)
      have Z2B := Lib.hid z2
      have Z2E := Lib.hid (show _ ∧ _ from ⟨za2, zb2⟩)
      clear z2 za2 zb2 gx HG1 C2 Z1B b0 b1 b2 b3 b4 b5 d3 d4 d5
      go_upto_region 6 with (fail)
      
      refine act_letterC (fun A1 hA1 => ?_)
      have d5 : A1.eval (.tmp 5) = .pointer (some ⟨q + 2, 0, none⟩) := by rw [← hA1]; rfl
      have d7 : A1.eval (.tmp 7) = .pointer (some ⟨q + 4, 0, none⟩) := by rw [← hA1]; rfl
      have szA1 : A1.tmps.size = 78 := by rw [← hA1]; rfl
      have HA1 := Lib.hid hA1
      clear hA1
      have G0 := Lib.hid (grew_drew (grew_refl X2 none))
      refine wp_region_held (S := fun w' => Grew X2 w' none) (by kernel_rfl) ?_
      change wpAnyH _ _ _ _ _ _ _ _ (World.drew X2)
      refine wpAnyH_take (i := 0) (v := (Fo.mk 3 0 0 0 0 (some ⟨q + 3, 0, none⟩) 2 [f, fg]).val) rfl (by kernel_rfl) (by kernel_rfl) (by kernel_rfl) (fun _ _ _ h => h) (.inl ⟨rfl, fun w g => run_form (f := (Fo.mk 3 0 0 0 0 (some ⟨q + 3, 0, none⟩) 2 [f, fg])) rfl d7 ((KR.out.grew HG2.out (by simp)).grew g (by simp))⟩) G0.out ?_
      refine act_letter (fun A2 hA2 => ?_)
      replace d5 : A2.eval (.tmp 5) = .pointer (some ⟨q + 2, 0, none⟩) := by rw [← hA2]; exact (ev_ne A1 (m := 47) (n := 5) ((Fo.mk 3 0 0 0 0 (some ⟨q + 3, 0, none⟩) 2 [f, fg]).val) (by decide)).trans d5
      replace d7 : A2.eval (.tmp 7) = .pointer (some ⟨q + 4, 0, none⟩) := by rw [← hA2]; exact (ev_ne A1 (m := 47) (n := 7) ((Fo.mk 3 0 0 0 0 (some ⟨q + 3, 0, none⟩) 2 [f, fg]).val) (by decide)).trans d7
      have e47 : A2.eval (.tmp 47) = (Fo.mk 3 0 0 0 0 (some ⟨q + 3, 0, none⟩) 2 [f, fg]).val := by rw [← hA2]; exact ev_self A1 47 ((Fo.mk 3 0 0 0 0 (some ⟨q + 3, 0, none⟩) 2 [f, fg]).val) (by omega)
      have szA2 : A2.tmps.size = 78 := by rw [← hA2]; exact (sz_put A1 47 ((Fo.mk 3 0 0 0 0 (some ⟨q + 3, 0, none⟩) 2 [f, fg]).val)).trans szA1
      have HA2 := Lib.hid (show A1.put (some 47) ((Fo.mk 3 0 0 0 0 (some ⟨q + 3, 0, none⟩) 2 [f, fg]).val) = A2 from hA2)
      clear hA2 szA1
      have d47 := e47
      clear e47
      refine wpAnyH_take (i := 1) (v := .slice (some ⟨q + 2, 0, none⟩) 2 2) rfl (by kernel_rfl) (by kernel_rfl) (by kernel_rfl) (fun _ _ _ h => h) (.inl ⟨rfl, fun w g => run_arr2 rfl d5 w⟩) G0.out ?_
      refine act_letter (fun A3 hA3 => ?_)
      replace d5 : A3.eval (.tmp 5) = .pointer (some ⟨q + 2, 0, none⟩) := by rw [← hA3]; exact (ev_ne A2 (m := 48) (n := 5) (.slice (some ⟨q + 2, 0, none⟩) 2 2) (by decide)).trans d5
      replace d7 : A3.eval (.tmp 7) = .pointer (some ⟨q + 4, 0, none⟩) := by rw [← hA3]; exact (ev_ne A2 (m := 48) (n := 7) (.slice (some ⟨q + 2, 0, none⟩) 2 2) (by decide)).trans d7
      replace d47 : A3.eval (.tmp 47) = (Fo.mk 3 0 0 0 0 (some ⟨q + 3, 0, none⟩) 2 [f, fg]).val := by rw [← hA3]; exact (ev_ne A2 (m := 48) (n := 47) (.slice (some ⟨q + 2, 0, none⟩) 2 2) (by decide)).trans d47
      have e48 : A3.eval (.tmp 48) = .slice (some ⟨q + 2, 0, none⟩) 2 2 := by rw [← hA3]; exact ev_self A2 48 (.slice (some ⟨q + 2, 0, none⟩) 2 2) (by omega)
      have szA3 : A3.tmps.size = 78 := by rw [← hA3]; exact (sz_put A2 48 (.slice (some ⟨q + 2, 0, none⟩) 2 2)).trans szA2
      have HA3 := Lib.hid (show A2.put (some 48) (.slice (some ⟨q + 2, 0, none⟩) 2 2) = A3 from hA3)
      clear hA3 szA2
      have d48 := e48
      clear e48
      refine wpAnyH_take (i := 2) (v := (Va.mk 0 none 0 [] (some ⟨q + 2, 0, none⟩) 2 [u, v]).val) rfl (by kernel_rfl) (by kernel_rfl) (by kernel_rfl) (fun _ _ _ h => h) (.inl ⟨rfl, fun w g => run_buildL (ls := [u, v]) rfl d48 w⟩) G0.out ?_
      refine act_letter (fun A4 hA4 => ?_)
      replace d47 : A4.eval (.tmp 47) = (Fo.mk 3 0 0 0 0 (some ⟨q + 3, 0, none⟩) 2 [f, fg]).val := by rw [← hA4]; exact (ev_ne A3 (m := 49) (n := 47) ((Va.mk 0 none 0 [] (some ⟨q + 2, 0, none⟩) 2 [u, v]).val) (by decide)).trans d47
      have e49 : A4.eval (.tmp 49) = (Va.mk 0 none 0 [] (some ⟨q + 2, 0, none⟩) 2 [u, v]).val := by rw [← hA4]; exact ev_self A3 49 ((Va.mk 0 none 0 [] (some ⟨q + 2, 0, none⟩) 2 [u, v]).val) (by omega)
      have szA4 : A4.tmps.size = 78 := by rw [← hA4]; exact (sz_put A3 49 ((Va.mk 0 none 0 [] (some ⟨q + 2, 0, none⟩) 2 [u, v]).val)).trans szA3
      have HA4 := Lib.hid (show A3.put (some 49) ((Va.mk 0 none 0 [] (some ⟨q + 2, 0, none⟩) 2 [u, v]).val) = A4 from hA4)
      clear hA4 szA3 d5 d7 d48
      have d49 := e49
      clear e49
      refine wpAnyH_ready (rs := [3]) (by kernel_rfl) (by simp) ?_
      refine AllReadyH.cons rfl (fun K hK => ?_) AllReadyH.nil
      refine wp_callG (vs := #[(Fo.mk 3 0 0 0 0 (some ⟨q + 3, 0, none⟩) 2 [f, fg]).val, (Va.mk 0 none 0 [] (some ⟨q + 2, 0, none⟩) 2 [u, v]).val]) rfl (rfl) enter_write (by simp [d47, d49]) ((C3.out _ (grew_trans HG2.out G0.out)).mono ?_)
      rintro e x51 ⟨B51, n51, Z51, rfl, z51, za51, zb51, g51⟩
      refine ⟨_, rfl, hK.out _ _ (grew_trans G0.out g51) (fun _ => ?_)⟩
      clear hK K
      have G51 := Lib.hid (grew_trans G0.out g51)
      have Z3B := Lib.hid z51
      have Z3E := Lib.hid (show _ ∧ _ from ⟨za51, zb51⟩)
      clear z51 za51 zb51
      clear g51 G0
      refine act_letter (fun A5 hA5 => ?_)
      have e50 : A5.eval (.tmp 50) = .tuple #[.slice B51 Z51.length n51, .int .i64 E3] := by rw [← hA5]; exact ev_self A4 50 (.tuple #[.slice B51 Z51.length n51, .int .i64 E3]) (by omega)
      have szA5 : A5.tmps.size = 78 := by rw [← hA5]; exact (sz_put A4 50 (.tuple #[.slice B51 Z51.length n51, .int .i64 E3])).trans szA4
      have HA5 := Lib.hid (show A4.put (some 50) (.tuple #[.slice B51 Z51.length n51, .int .i64 E3]) = A5 from hA5)
      clear hA5 szA4 d47 d49
      have d50 := e50
      clear e50
      refine wpAnyH_take (i := 4) (v := .tuple #[.slice B51 Z51.length n51, .int .i64 E3]) rfl (by kernel_rfl) (by kernel_rfl) (by kernel_rfl) (fun _ _ _ h => h) (.inl ⟨rfl, fun w g => run_moveV rfl d50 w⟩) G51.out ?_
      refine act_letter (fun A6 hA6 => ?_)
      have e46 : A6.eval (.tmp 46) = .tuple #[.slice B51 Z51.length n51, .int .i64 E3] := by rw [← hA6]; exact ev_self A5 46 (.tuple #[.slice B51 Z51.length n51, .int .i64 E3]) (by omega)
      have szA6 : A6.tmps.size = 78 := by rw [← hA6]; exact (sz_put A5 46 (.tuple #[.slice B51 Z51.length n51, .int .i64 E3])).trans szA5
      have HA6 := Lib.hid (show A5.put (some 46) (.tuple #[.slice B51 Z51.length n51, .int .i64 E3]) = A6 from hA6)
      clear hA6 szA5 d50
      have d46 := e46
      clear e46
      refine wpAnyH_take (i := 5) (v := .slice B51 Z51.length n51) rfl (by kernel_rfl) (by kernel_rfl) (by kernel_rfl) (fun _ _ _ h => h) (.inl ⟨rfl, fun w g => run_extr0 rfl d46 w⟩) G51.out ?_
      refine act_letter (fun A7 hA7 => ?_)
      replace d46 : A7.eval (.tmp 46) = .tuple #[.slice B51 Z51.length n51, .int .i64 E3] := by rw [← hA7]; exact (ev_ne A6 (m := 51) (n := 46) (.slice B51 Z51.length n51) (by decide)).trans d46
      have e51 : A7.eval (.tmp 51) = .slice B51 Z51.length n51 := by rw [← hA7]; exact ev_self A6 51 (.slice B51 Z51.length n51) (by omega)
      have szA7 : A7.tmps.size = 78 := by rw [← hA7]; exact (sz_put A6 51 (.slice B51 Z51.length n51)).trans szA6
      have HA7 := Lib.hid (show A6.put (some 51) (.slice B51 Z51.length n51) = A7 from hA7)
      clear hA7 szA6
      have d51 := e51
      clear e51
      refine wpAnyH_take (i := 6) (v := .int .i64 E3) rfl (by kernel_rfl) (by kernel_rfl) (by kernel_rfl) (fun _ _ _ h => h) (.inl ⟨rfl, fun w g => run_extr1 rfl d46 w⟩) G51.out ?_
      refine act_letter (fun A8 hA8 => ?_)
      replace d51 : A8.eval (.tmp 51) = .slice B51 Z51.length n51 := by rw [← hA8]; exact (ev_ne A7 (m := 52) (n := 51) (.int .i64 E3) (by decide)).trans d51
      have e52 : A8.eval (.tmp 52) = .int .i64 E3 := by rw [← hA8]; exact ev_self A7 52 (.int .i64 E3) (by omega)
      have szA8 : A8.tmps.size = 78 := by rw [← hA8]; exact (sz_put A7 52 (.int .i64 E3)).trans szA7
      have HA8 := Lib.hid (show A7.put (some 52) (.int .i64 E3) = A8 from hA8)
      clear hA8 szA7 d46
      have d52 := e52
      clear e52
      refine wpAnyH_take (i := 7) (v := .slice B51 Z51.length n51) rfl (by kernel_rfl) (by kernel_rfl) (by kernel_rfl) (fun _ _ _ h => h) (.inl ⟨rfl, fun w g => run_asg rfl d51 w⟩) G51.out ?_
      refine act_letter (fun A9 hA9 => ?_)
      replace d52 : A9.eval (.tmp 52) = .int .i64 E3 := by rw [← hA9]; exact (ev_ne A8 (m := 12) (n := 52) (.slice B51 Z51.length n51) (by decide)).trans d52
      have e12 : A9.eval (.tmp 12) = .slice B51 Z51.length n51 := by rw [← hA9]; exact ev_self A8 12 (.slice B51 Z51.length n51) (by omega)
      have szA9 : A9.tmps.size = 78 := by rw [← hA9]; exact (sz_put A8 12 (.slice B51 Z51.length n51)).trans szA8
      have HA9 := Lib.hid (show A8.put (some 12) (.slice B51 Z51.length n51) = A9 from hA9)
      clear hA9 szA8 d51
      have d12 := e12
      clear e12
      refine wpAnyH_take (i := 8) (v := .int .i64 E3) rfl (by kernel_rfl) (by kernel_rfl) (by kernel_rfl) (fun _ _ _ h => h) (.inl ⟨rfl, fun w g => run_asg rfl d52 w⟩) G51.out ?_
      refine act_letter (fun A10 hA10 => ?_)
      replace d12 : A10.eval (.tmp 12) = .slice B51 Z51.length n51 := by rw [← hA10]; exact (ev_ne A9 (m := 13) (n := 12) (.int .i64 E3) (by decide)).trans d12
      have e13 : A10.eval (.tmp 13) = .int .i64 E3 := by rw [← hA10]; exact ev_self A9 13 (.int .i64 E3) (by omega)
      have szA10 : A10.tmps.size = 78 := by rw [← hA10]; exact (sz_put A9 13 (.int .i64 E3)).trans szA9
      have HA10 := Lib.hid (show A9.put (some 13) (.int .i64 E3) = A10 from hA10)
      clear hA10 szA9 d52
      have d13 := e13
      clear e13
      have HG3 := Lib.hid (grew_trans HW.out (grew_trans HG2.out G51.out))
      have Z1D := Lib.hid ((Z1C.out.grew G51.out (fun _ h => by cases h)).more G51.out.size)
      have Z2D := Lib.hid ((Z2B.out.grew G51.out (fun _ h => by cases h)).more G51.out.size)
      refine wpAnyH_done (by kernel_rfl) ?_ _
      rw [← HA10.out, ← HA9.out, ← HA8.out, ← HA7.out, ← HA6.out, ← HA5.out, ← HA4.out, ← HA3.out, ← HA2.out, ← HA1.out]
      clear HA2 HA3 HA4 HA5 HA6 HA7 HA8 HA9 HA10 HA1 d12 d13 szA10
      simp only [Act.put, List.setIfInBounds_toArray, List.set_cons_zero, List.set_cons_succ]
      clear G51 C3 KR Z1C Z2B HG2 K0 K1 K2 HW
      generalize x51 = X3 at *
      obtain ⟨k1, k2⟩ := HMM.out
      by_cases hb : E1 = 0 ∧ E2 = 0
      · obtain ⟨rfl, rfl⟩ := hb
        obtain ⟨e3, ey⟩ := k1 rfl rfl
        subst e3
        obtain rfl := Z1E.out.1 rfl
        obtain rfl := Z2E.out.1 rfl
        obtain rfl := Z3E.out.1 rfl
        have cv3 := conv_txt X3 Try.underlying26 Try.underlying5 Try.underlying9 Z3B.out rfl n51
        have cv1 := conv_txt X3 Try.underlying26 Try.underlying5 Try.underlying9 Z1D.out rfl n1
        have cv2 := conv_txt X3 Try.underlying26 Try.underlying5 Try.underlying9 Z2D.out rfl n2
        have ht : txt Z1 ++ txt Z2 = txt Z51 := by rw [ey, txt_append]
        have hsz : ¬ 9223372036854775807 < (txt Z1).size + (txt Z2).size := by
          rw [txt_size, txt_size]
          have h1 := HL.out.1 rfl
          have h2 := HL.out.2 rfl
          omega
        clear k1 k2 Z1E Z2E Z3E Z1D Z2D Z3B HMM ey HL
        go_wp2_with fail
        go_ret
        exact ⟨by simp, grew_below HG3.out (by rw [HQ.out]; exact Nat.le_refl _) (fun _ h => by cases h)⟩
      · have e3 := k2 (by omega)
        obtain rfl := Z3E.out.2 e3
        have hb3 : (E3 != 0) = true := by simpa using e3
        have hor : ((E1 != 0) = true) ∨ ((E1 != 0) = false ∧ (E2 != 0) = true) := by
          by_cases h : E1 = 0
          · exact .inr ⟨by simpa using h, by simp; omega⟩
          · exact .inl (by simpa using h)
        clear k1 k2 Z1E Z2E Z3E Z1D Z2D Z3B HMM hb HL
        rcases hor with h1 | ⟨h1, h2⟩
        all_goals
          go_wp2_with fail
          go_ret
          exact ⟨by simp, grew_below HG3.out (by rw [HQ.out]; exact Nat.le_refl _) (fun _ h => by cases h)⟩

set_option maxRecDepth 100000 in
theorem writeRows_lifted (os : Os) (started : os.Started) (H : Type) (enc : TypeId × Value → H) :
    ReturnsInHanded {} Try.checked os 6 .any (Rows.writeRowsSpec.pre6 enc Try.prog Try.f6 Rows.writeRowsRow.domain false) (Rows.writeRowsSpec.post enc Try.prog Try.f6 false true false false) := by
  refine returnsInHanded_of_change_sized (C := Try.checked) own started (by kernel_rfl) Try.func6
    (ChangeSpec.witness6 (enc := enc) (C := Try.checked) false ⟨#[], #[.agg #[.int .i64 0, .int .i64 0, .int .i64 0, .int .i64 0, .int .i64 0, .slice none 0 0], .agg #[.int .i64 0, .int .i64 0, .int .i64 0, .int .i64 0, .int .i64 0, .slice none 0 0], .agg #[.int .u64 0, .slice none 0 0, .slice none 0 0, .int .u64 0, .slice none 0 0, .slice none 0 0]], []⟩ 8 (by kernel_rfl) (by kernel_rfl) (by kernel_rfl) (by kernel_rfl)) ?_
  intro W base args ds gs before hval0 hW hcnd hsz0 _
  have hval : ∀ (j : Nat) t v, Try.f6.params[j]? = some t → args[j]? = some v → Value.okWide Try.prog W .any base t v := hval0
  have hsz : (DataW.weightsEach Try.prog (Try.f6.params.toList ++ Rows.writeRowsSpec.plain.varTypes Try.prog) (ds ++ gs)).all (· ≤ reachBytes) = true := hsz0
  have hW' := hW
  obtain ⟨p, q, hA0, hV, rfl, hfz, hnd⟩ := hW
  have hA : DataW.TrodAll enc Try.prog W 0 (fun _ => true) true Try.f6.params.toList args.toList ds p := hA0
  rw [Try.params6] at hA hval hsz
  obtain ⟨v0, vs0, d0, ds0, p0, q0, hargs, rfl, rfl, h0, r0⟩ := trodAll_cons hA
  obtain ⟨v1, vs1, d1, ds1, p1, q1, rfl, rfl, rfl, h1, r1⟩ := trodAll_cons r0
  obtain ⟨v2, vs2, d2, ds2, p2, q2, rfl, rfl, rfl, h2, r2⟩ := trodAll_cons r1
  obtain ⟨rfl, rfl, rfl⟩ := trodAll_nil r2
  obtain rfl : args = #[v0, v1, v2] := by cases args; simp_all
  obtain ⟨rfl, rfl⟩ := trodVars_none hV
  have k0 := h0
  have lt0 : ∀ x ∈ p0, x.block < W.heap.size := by obtain ⟨m, hm⟩ := k0; exact DataW.trod_lt m _ _ _ hm
  obtain ⟨f0, rfl, n0⟩ := arg_form (hval 0 24 v0 rfl rfl) h0 hsz (j := 0) rfl rfl
  have k1 := h1
  have lt1 : ∀ x ∈ p1, x.block < W.heap.size := by obtain ⟨m, hm⟩ := k1; exact DataW.trod_lt m _ _ _ hm
  obtain ⟨f1, rfl, n1⟩ := arg_form (hval 1 24 v1 rfl rfl) h1 hsz (j := 1) rfl rfl
  have k2 := h2
  have lt2 : ∀ x ∈ p2, x.block < W.heap.size := by obtain ⟨m, hm⟩ := k2; exact DataW.trod_lt m _ _ _ hm
  obtain ⟨f2, g2, rfl, n2, m2⟩ := arg_value2 (hval 2 48 v2 rfl rfl) h2 hsz (j := 2) rfl rfl
  clear hA0 hval0 hsz0
  refine (writeRows_walk W f0 n0 f1 n1 f2 g2 n2 m2).mono fun e W' ⟨he, bel⟩ => ?_
  subst he
  exact ⟨_, rfl, _, _, _, [], _, [], hW', trodAll_mk1 (shut_bool Try.underlying4 _), (trodAll_cons_mk (Below.trod laidOut (by kernel_rfl) (of_decide_eq_true (by kernel_rfl)) k0 bel lt0) (trodAll_cons_mk (Below.trod laidOut (by kernel_rfl) (of_decide_eq_true (by kernel_rfl)) k1 bel lt1) (trodAll_cons_mk (Below.trod laidOut (by kernel_rfl) (of_decide_eq_true (by kernel_rfl)) k2 bel lt2) trodAll_mk0))), rfl, bel.frame _, fun h => by cases h⟩

theorem writeRows_over : Rows.writeRowsRow.holds Try.pinned (OpenSpec.ofChange Rows.writeRowsSpec) :=
  OpenClaim.holds_of_wide 6 Try.f6 rfl rfl rfl rfl rfl rfl rfl ⟨rfl, rfl, rfl, rfl, rfl⟩ rfl rfl rfl rfl rfl (by kernel_rfl) Try.func6 (by kernel_rfl)
    (of_decide_eq_true (by kernel_rfl)) (by unfold Func.isWrapper; first | (rw [if_pos (by decide +kernel)]; kernel_rfl) | (rw [if_neg (by decide +kernel)]; exact ⟨rfl, rfl⟩))
    (fun os started H enc _ => writeRows_lifted os started H enc)

theorem writeRows_holds : Rows.WriteRowsSaid := writeRows_over
#print axioms writeRows_holds
end Go.Proofs.Ytibbeodcheefaaa

