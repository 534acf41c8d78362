/- The program's own answers of layer 9: a head's bytes. -/
import Derived.Test.YtbeknillegkidaaDoorPc
import Derived.Test.YtbeknillegkidaaDoorHx
import Derived.Deep.Cut
namespace Go.Proofs.YtbeknillegkidaaDoor
open Go.RowKit

theorem head_load {w : World} {q : Nat} {v0 v1 v2 v3 : Value} {t : TypeId} (h : Whole w q #[v0, v1, v2, v3] t) : (loadVar 24 ⟨q, 0, none⟩).run Tryd.prog w = .ok (.agg #[v0, v1, v2, v3]) w :=
  run_loadVar_row w q t 24 #[v0, v1, v2, v3] _ _ h Tryd.underlying24 rfl (by kernel_rfl)
theorem enter_first : ∀ args w, (callFunc 19 args).run Tryd.prog w = .ok (.enter 19 args) w := fun _ _ => by kernel_rfl
theorem enter_applen : ∀ args w, (callFunc 18 args).run Tryd.prog w = .ok (.enter 18 args) w := fun _ _ => by kernel_rfl
section
variable {ρ : Operand → Value} {o : Oper}
theorem run_fldH {x : Operand} {q k : Nat} (ho : o.op = .fieldAddr 24 x k) (hk : k = 0 ∨ k = 1 ∨ k = 2 ∨ k = 3) (hx : ρ x = .pointer (some ⟨q, 0, none⟩)) (w : World) : (execOp ρ o).run Tryd.prog w = .ok (.value (.pointer (some ⟨q, k, none⟩))) w := by
  rcases hk with rfl | rfl | rfl | rfl <;> simp [execOp, ho, hx, go_sem]
end

set_option maxRecDepth 100000 in
set_option maxHeartbeats 4000000 in
theorem put_no (w : World) (hT : Tb w) (h : Hd) (hkd : kd h.c h.t h.m = false) : Calls Tryd.prog 12 #[h.agg] w fun e w' => e = .returned (.tuple #[.slice none 0 0, .int .i64 13]) ∧ Below w.heap.size w w' := by
  obtain ⟨c, t, m, l⟩ := h
  have hbel := (Below.refl _ w).alloc (Nat.le_refl _) (.cells #[.int .i64 c, .int .i64 t, .bool m, .int .i64 l] 24)
  have hT1 := hT.alloc (.cells #[.int .i64 c, .int .i64 t, .bool m, .int .i64 l] 24)
  have hk := kind_any _ hT1 c t m
  dsimp only at hkd
  rw [hkd] at hk
  rw [Hd.agg]
  have HBEL := Lib.hid hbel
  clear hbel hT hT1 hkd
  go_enter Tryd.func12, Tryd.ntmps12
  go_wp2_with fail
  refine hk.mono ?_
  rintro e w' ⟨rfl, hB⟩
  go_wp2_with fail
  go_ret2
  exact ⟨rfl, HBEL.out.trans (hB.mono HBEL.out.size)⟩

set_option maxRecDepth 100000 in
set_option maxHeartbeats 4000000 in
/-- Of a thing that there is: what Put answers, whatever the length. -/
theorem put_yes (w : World) (hT : Tb w) (h : Hd) (hkd : kd h.c h.t h.m = true) : Calls Tryd.prog 12 #[h.agg] w fun e w' =>
    ((¬ (0 ≤ h.l ∧ h.l ≤ 16777215) ∧ e = .returned (.tuple #[.slice none 0 0, .int .i64 5])) ∨
      (0 ≤ h.l ∧ h.l ≤ 16777215) ∧ ∃ v, e = .returned (.tuple #[v, .int .i64 0]) ∧ w'.ownsRow 0 5 1 v (putH h).length (cellsOf (putH h)) ∧ (∀ k, v.ownBlock = some k → w.heap.size ≤ k)) ∧ Below w.heap.size w w' := by
  obtain ⟨c, t, m, l⟩ := h
  obtain ⟨q, hq⟩ : ∃ q, w.heap.size = q := ⟨_, rfl⟩
  have hbox := Whole.new w #[.int .i64 c, .int .i64 t, .bool m, .int .i64 l] 24
  have hbel := (Below.refl _ w).alloc (Nat.le_refl _) (.cells #[.int .i64 c, .int .i64 t, .bool m, .int .i64 l] 24)
  have hT1 := hT.alloc (.cells #[.int .i64 c, .int .i64 t, .bool m, .int .i64 l] 24)
  have hk := kind_any _ hT1 c t m
  have hs0 : (w.alloc (.cells #[.int .i64 c, .int .i64 t, .bool m, .int .i64 l] 24)).heap.size = q + 1 := by rw [World.size_alloc, hq]
  dsimp only at hkd ⊢
  rw [hq] at hbox hbel ⊢
  rw [Hd.agg]
  rw [hkd] at hk
  have HBOX := Lib.hid hbox
  have HBEL := Lib.hid hbel
  have HS0 := Lib.hid hs0
  have HKD := Lib.hid hkd
  clear hbox hbel hT hT1 hs0 hkd
  go_enter Tryd.func12, Tryd.ntmps12
  go_wp2_with fail
  refine hk.mono ?_
  rintro e X ⟨rfl, hB⟩
  generalize w.alloc (.cells #[.int .i64 c, .int .i64 t, .bool m, .int .i64 l] 24) = W0 at *
  have hbx := (hB.block q (by rw [HS0.out]; omega)).trans HBOX.out
  have hbw : Whole X q #[.int .i64 c, .int .i64 t, .bool m, .int .i64 l] 24 := hbx
  have BX := Lib.hid hbw
  have BB := Lib.hid (HBEL.out.trans (hB.mono (by rw [HS0.out]; omega)))
  have XS := Lib.hid hbw.lt
  clear HBOX HBEL HS0 hB hk hbx
  have m3 := hbw.cell 3
  simp only [List.getElem?_toArray, List.getElem?_cons_succ, List.getElem?_cons_zero] at m3
  clear hbw
  by_cases l0 : l < 0
  · go_wp2_with fail
    go_ret2
    exact ⟨.inl ⟨by omega, rfl⟩, BB.out⟩
  · by_cases l1 : 16777215 < l
    · go_wp2_with fail
      go_ret2
      exact ⟨.inl ⟨by omega, rfl⟩, BB.out⟩
    · obtain ⟨n, rfl⟩ := Int.eq_ofNat_of_zero_le (by omega : 0 ≤ l)
      have hn : n < 16777216 := by omega
      have HN := Lib.hid hn
      clear hn
      go_upto_region 6 with (fail)
      clear m3 l0 l1
      generalize hfb : (((UInt8.ofNat (fb c t m)).toNat : Nat) : Int) = fbv at *
      have HFB := Lib.hid hfb
      clear hfb
      have GS := Lib.hid (show (fun w' => Whole w' q #[.int .i64 c, .int .i64 t, .bool m, .int .i64 (n : Int)] 24) X.drew from BX.out)
      have BD := Lib.hid (show Below q w X.drew from BB.out.drew)
      have XD := Lib.hid (show q < X.drew.heap.size from XS.out)
      clear BX BB XS
      refine act_letterC (fun A1 hA1 => ?_)
      have d1 : A1.eval (.tmp 1) = .pointer (some ⟨q, 0, none⟩) := by rw [← hA1]; rfl
      have szA1 : A1.tmps.size = 29 := by rw [← hA1]; rfl
      have HA1 := Lib.hid hA1
      clear hA1
      refine wp_region_held (S := fun w' => Whole w' q #[.int .i64 c, .int .i64 t, .bool m, .int .i64 (n : Int)] 24) (by kernel_rfl) ?_
      change wpAnyH _ _ _ _ _ _ _ _ (World.drew X)
      refine wpAnyH_take (i := 0) (v := .agg #[.int .i64 c, .int .i64 t, .bool m, .int .i64 (n : Int)]) rfl (by kernel_rfl) (by kernel_rfl) (by kernel_rfl) (fun _ _ _ h => h) (.inl ⟨rfl, fun w g => run_ldRow rfl d1 (head_load g)⟩) GS.out ?_
      refine act_letter (fun A2 hA2 => ?_)
      replace d1 : A2.eval (.tmp 1) = .pointer (some ⟨q, 0, none⟩) := by rw [← hA2]; exact (ev_ne A1 (m := 23) (n := 1) (.agg #[.int .i64 c, .int .i64 t, .bool m, .int .i64 (n : Int)]) (by decide)).trans d1
      have e23 : A2.eval (.tmp 23) = .agg #[.int .i64 c, .int .i64 t, .bool m, .int .i64 (n : Int)] := by rw [← hA2]; exact ev_self A1 23 (.agg #[.int .i64 c, .int .i64 t, .bool m, .int .i64 (n : Int)]) (by omega)
      have szA2 : A2.tmps.size = 29 := by rw [← hA2]; exact (sz_put A1 23 (.agg #[.int .i64 c, .int .i64 t, .bool m, .int .i64 (n : Int)])).trans szA1
      have HA2 := Lib.hid (show A1.put (some 23) (.agg #[.int .i64 c, .int .i64 t, .bool m, .int .i64 (n : Int)]) = A2 from hA2)
      clear hA2 szA1
      have d23 := e23
      clear e23
      refine wpAnyH_take (i := 3) (v := .pointer (some ⟨q, 3, none⟩)) rfl (by kernel_rfl) (by kernel_rfl) (by kernel_rfl) (fun _ _ _ h => h) (.inl ⟨rfl, fun w g => run_fldH rfl (by decide) d1 w⟩) GS.out ?_
      refine act_letter (fun A3 hA3 => ?_)
      replace d23 : A3.eval (.tmp 23) = .agg #[.int .i64 c, .int .i64 t, .bool m, .int .i64 (n : Int)] := by rw [← hA3]; exact (ev_ne A2 (m := 26) (n := 23) (.pointer (some ⟨q, 3, none⟩)) (by decide)).trans d23
      have e26 : A3.eval (.tmp 26) = .pointer (some ⟨q, 3, none⟩) := by rw [← hA3]; exact ev_self A2 26 (.pointer (some ⟨q, 3, none⟩)) (by omega)
      have szA3 : A3.tmps.size = 29 := by rw [← hA3]; exact (sz_put A2 26 (.pointer (some ⟨q, 3, none⟩))).trans szA2
      have HA3 := Lib.hid (show A2.put (some 26) (.pointer (some ⟨q, 3, none⟩)) = A3 from hA3)
      clear hA3 szA2 d1
      have d26 := e26
      clear e26
      refine wpAnyH_take (i := 4) (v := .int .i64 (n : Int)) rfl (by kernel_rfl) (by kernel_rfl) (by kernel_rfl) (fun _ _ _ h => h) (.inl ⟨rfl, fun w g => run_ldI rfl d26 (g.cell 3)⟩) GS.out ?_
      refine act_letter (fun A4 hA4 => ?_)
      replace d23 : A4.eval (.tmp 23) = .agg #[.int .i64 c, .int .i64 t, .bool m, .int .i64 (n : Int)] := by rw [← hA4]; exact (ev_ne A3 (m := 27) (n := 23) (.int .i64 (n : Int)) (by decide)).trans d23
      have e27 : A4.eval (.tmp 27) = .int .i64 (n : Int) := by rw [← hA4]; exact ev_self A3 27 (.int .i64 (n : Int)) (by omega)
      have szA4 : A4.tmps.size = 29 := by rw [← hA4]; exact (sz_put A3 27 (.int .i64 (n : Int))).trans szA3
      have HA4 := Lib.hid (show A3.put (some 27) (.int .i64 (n : Int)) = A4 from hA4)
      clear hA4 szA3 d26
      have d27 := e27
      clear e27
      refine wpAnyH_ready (rs := [1]) (by kernel_rfl) (by simp) ?_
      refine AllReadyH.cons rfl (fun K hK => ?_) AllReadyH.nil
      refine wp_callG rfl rfl enter_first (vs := #[.agg #[.int .i64 c, .int .i64 t, .bool m, .int .i64 (n : Int)]]) (by simp [d23]) ((firstb_any X.drew ⟨c, t, m, (n : Int)⟩ HKD.out).mono ?_)
      rintro e x1 ⟨rfl, hB1⟩
      dsimp only
      rw [HFB.out]
      refine ⟨_, rfl, hK.out _ _ ((hB1.block q XD.out).trans GS.out) (fun _ => ?_)⟩
      clear hK K
      have S1 := Lib.hid (show (fun w' => Whole w' q #[.int .i64 c, .int .i64 t, .bool m, .int .i64 (n : Int)] 24) x1 from (hB1.block q XD.out).trans GS.out)
      have B1 := Lib.hid (BD.out.trans (hB1.mono (Nat.le_of_lt XD.out)))
      have XS1 := Lib.hid (show q < x1.heap.size from Nat.lt_of_lt_of_le XD.out hB1.size)
      clear hB1 BD XD
      clear GS
      refine act_letter (fun A5 hA5 => ?_)
      replace d27 : A5.eval (.tmp 27) = .int .i64 (n : Int) := by rw [← hA5]; exact (ev_ne A4 (m := 24) (n := 27) (.int .u8 fbv) (by decide)).trans d27
      have e24 : A5.eval (.tmp 24) = .int .u8 fbv := by rw [← hA5]; exact ev_self A4 24 (.int .u8 fbv) (by omega)
      have szA5 : A5.tmps.size = 29 := by rw [← hA5]; exact (sz_put A4 24 (.int .u8 fbv)).trans szA4
      have HA5 := Lib.hid (show A4.put (some 24) (.int .u8 fbv) = A5 from hA5)
      clear hA5 szA4 d23
      have d24 := e24
      clear e24
      refine wpAnyH_ready (rs := [2]) (by kernel_rfl) (by simp) ?_
      refine AllReadyH.cons rfl (fun K hK => ?_) AllReadyH.nil
      refine wp_runG rfl (w' := x1.alloc (.cells #[.int .u8 fbv] 5)) (run_newB rfl d24 rfl x1) (hK.out _ _ (Whole.grew S1.out (grew_alloc (grew_refl x1 none) _) (by simp)) (fun _ => ?_))
      clear hK K
      have S2 := Lib.hid (show (fun w' => Whole w' q #[.int .i64 c, .int .i64 t, .bool m, .int .i64 (n : Int)] 24) (x1.alloc (.cells #[.int .u8 fbv] 5)) from Whole.grew S1.out (grew_alloc (grew_refl x1 none) _) (by simp))
      have OW := Lib.hid (by have := own_new x1 #[.int .u8 fbv] [UInt8.ofNat (fb c t m)] (by rw [← HFB.out]; rfl) (by simp); exact this)
      have B2 := Lib.hid (B1.out.alloc (Nat.le_of_lt XS1.out) (.cells #[.int .u8 fbv] 5))
      clear S1
      refine act_letter (fun A6 hA6 => ?_)
      replace d27 : A6.eval (.tmp 27) = .int .i64 (n : Int) := by rw [← hA6]; exact (ev_ne A5 (m := 25) (n := 27) (.slice (some ⟨x1.heap.size, 0, none⟩) 1 1) (by decide)).trans d27
      replace d24 : A6.eval (.tmp 24) = .int .u8 fbv := by rw [← hA6]; exact (ev_ne A5 (m := 25) (n := 24) (.slice (some ⟨x1.heap.size, 0, none⟩) 1 1) (by decide)).trans d24
      have e25 : A6.eval (.tmp 25) = .slice (some ⟨x1.heap.size, 0, none⟩) 1 1 := by rw [← hA6]; exact ev_self A5 25 (.slice (some ⟨x1.heap.size, 0, none⟩) 1 1) (by omega)
      have szA6 : A6.tmps.size = 29 := by rw [← hA6]; exact (sz_put A5 25 (.slice (some ⟨x1.heap.size, 0, none⟩) 1 1)).trans szA5
      have HA6 := Lib.hid (show A5.put (some 25) (.slice (some ⟨x1.heap.size, 0, none⟩) 1 1) = A6 from hA6)
      clear hA6 szA5
      have d25 := e25
      clear e25
      refine wpAnyH_ready (rs := [5]) (by kernel_rfl) (by simp) ?_
      refine AllReadyH.cons rfl (fun K hK => ?_) AllReadyH.nil
      refine wp_callG rfl rfl enter_applen (vs := #[.slice (some ⟨x1.heap.size, 0, none⟩) 1 1, .int .i64 (n : Int)]) (by simp [d25, d27]) ((applen_any _ _ _ OW.out n HN.out).mono ?_)
      rintro e x3 ⟨v3, rfl, hA3⟩
      refine ⟨_, rfl, hK.out _ _ (S2.out.grew hA3.2.1 (by have := XS1.out; simp [Value.ownBlock]; omega)) (fun _ => ?_)⟩
      clear hK K
      have S3 := Lib.hid (show (fun w' => Whole w' q #[.int .i64 c, .int .i64 t, .bool m, .int .i64 (n : Int)] 24) x3 from S2.out.grew hA3.2.1 (by have := XS1.out; simp [Value.ownBlock]; omega))
      have AP := Lib.hid hA3
      clear hA3
      clear S2
      refine act_letter (fun A7 hA7 => ?_)
      replace d24 : A7.eval (.tmp 24) = .int .u8 fbv := by rw [← hA7]; exact (ev_ne A6 (m := 28) (n := 24) (v3) (by decide)).trans d24
      have e28 : A7.eval (.tmp 28) = v3 := by rw [← hA7]; exact ev_self A6 28 (v3) (by omega)
      have szA7 : A7.tmps.size = 29 := by rw [← hA7]; exact (sz_put A6 28 (v3)).trans szA6
      have HA7 := Lib.hid (show A6.put (some 28) (v3) = A7 from hA7)
      clear hA7 szA6 d27 d25
      have d28 := e28
      clear e28
      refine wpAnyH_take (i := 6) (v := v3) rfl (by kernel_rfl) (by kernel_rfl) (by kernel_rfl) (fun _ _ _ h => h) (.inl ⟨rfl, fun w g => run_asgn rfl d28 w⟩) S3.out ?_
      refine act_letter (fun A8 hA8 => ?_)
      replace d24 : A8.eval (.tmp 24) = .int .u8 fbv := by rw [← hA8]; exact (ev_ne A7 (m := 2) (n := 24) (v3) (by decide)).trans d24
      have e2 : A8.eval (.tmp 2) = v3 := by rw [← hA8]; exact ev_self A7 2 (v3) (by omega)
      have szA8 : A8.tmps.size = 29 := by rw [← hA8]; exact (sz_put A7 2 (v3)).trans szA7
      have HA8 := Lib.hid (show A7.put (some 2) (v3) = A8 from hA8)
      clear hA8 szA7 d28
      have d2 := e2
      clear e2
      refine wpAnyH_take (i := 7) (v := .int .i64 0) rfl (by kernel_rfl) (by kernel_rfl) (by kernel_rfl) (fun _ _ _ h => h) (.inl ⟨rfl, fun w g => run_asgn (x := .const (.int .i64 0)) (v := .int .i64 0) rfl rfl w⟩) S3.out ?_
      refine act_letter (fun A9 hA9 => ?_)
      replace d24 : A9.eval (.tmp 24) = .int .u8 fbv := by rw [← hA9]; exact (ev_ne A8 (m := 3) (n := 24) (.int .i64 0) (by decide)).trans d24
      replace d2 : A9.eval (.tmp 2) = v3 := by rw [← hA9]; exact (ev_ne A8 (m := 3) (n := 2) (.int .i64 0) (by decide)).trans d2
      have e3 : A9.eval (.tmp 3) = .int .i64 0 := by rw [← hA9]; exact ev_self A8 3 (.int .i64 0) (by omega)
      have szA9 : A9.tmps.size = 29 := by rw [← hA9]; exact (sz_put A8 3 (.int .i64 0)).trans szA8
      have HA9 := Lib.hid (show A8.put (some 3) (.int .i64 0) = A9 from hA9)
      clear hA9 szA8
      have d3 := e3
      clear e3
      refine wpAnyH_done (by kernel_rfl) ?_ _
      rw [← HA9.out, ← HA8.out, ← HA7.out, ← HA6.out, ← HA5.out, ← HA4.out, ← HA3.out, ← HA2.out, ← HA1.out]
      clear HA2 HA3 HA4 HA5 HA6 HA7 HA8 HA9 HA1 d24 d2 d3 szA9
      simp only [Act.put, List.setIfInBounds_toArray, List.set_cons_zero, List.set_cons_succ]
      go_wp2_with fail
      go_ret2
      obtain ⟨h1, h2, h3⟩ := AP.out
      refine ⟨⟨v3, rfl, ?_, ?_⟩, ?_⟩
      · have : (putH ⟨c, t, m, (n : Int)⟩).length = 1 + (lenB n).length := by simp [putH]; omega
        rw [this]
        exact h1
      · intro k hk
        have := XS1.out
        rcases h3 k hk with e | e
        · simp [Value.ownBlock] at e; omega
        · simp at e; omega
      · exact B2.out.trans (grew_below h2 (by have := XS1.out; simp; omega) (fun k hk => by have := XS1.out; simp [Value.ownBlock] at hk; omega))
end Go.Proofs.YtbeknillegkidaaDoor

