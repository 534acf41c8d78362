/- The program's own answers of layer 9: a head's bytes. -/
import Derived.Test.YtnjnghbonmdbdaaDoorQ9
import Derived.Test.YtnjnghbonmdbdaaDoorQ5
import Derived.Deep.Cut
import Derived.Laws.BitsAllLaws
import Derived.Laws.Slices
import Derived.IntWalk
import Derived.Test.YtnjnghbonmdbdaaDoorQ7
import Derived.Laws.EntriesVeiled
namespace Go.Proofs.YtnjnghbonmdbdaaDoor
open Go.RowKit

theorem head_load {w : World} {q : Nat} {v0 v1 v2 v3 : Value} {t : TypeId} (h : Whole w q #[v0, v1, v2, v3] t) : (loadVar 65 ⟨q, 0, none⟩).run Tryd.prog w = .ok (.agg #[v0, v1, v2, v3]) w :=
  run_loadVar_row w q t 65 #[v0, v1, v2, v3] _ _ h Tryd.underlying65 rfl (by kernel_rfl)
theorem enter_first : ∀ args w, (callFunc 52 args).run Tryd.prog w = .ok (.enter 52 args) w := fun _ _ => by kernel_rfl
theorem enter_applen : ∀ args w, (callFunc 51 args).run Tryd.prog w = .ok (.enter 51 args) w := fun _ _ => by kernel_rfl
section
variable {ρ : Operand → Value} {o : Oper}
theorem run_fldH {x : Operand} {q k : Nat} (ho : o.op = .fieldAddr 65 x k) (hk : k = 0 ∨ k = 1 ∨ k = 2 ∨ k = 3) (hx : ρ x = .pointer (some ⟨q, 0, none⟩)) (w : World) : (execOp ρ o).run Tryd.prog w = .ok (.value (.pointer (some ⟨q, k, none⟩))) w := by
  rcases hk with rfl | rfl | rfl | rfl <;> simp [execOp, ho, hx, go_sem]
end

set_option maxRecDepth 100000 in
set_option maxHeartbeats 4000000 in
theorem put_no (w : World) (hT : Tb w) (h : Hd) (hkd : kd h.c h.t h.m = false) : Calls Tryd.prog 37 #[h.agg] w fun e w' => e = .returned (.tuple #[.slice none 0 0, .int .i64 13]) ∧ Below w.heap.size w w' := by
  obtain ⟨c, t, m, l⟩ := h
  have hbel := (Below.refl _ w).alloc (Nat.le_refl _) (.cells #[.int .i64 c, .int .i64 t, .bool m, .int .i64 l] 65)
  have hT1 := hT.alloc (.cells #[.int .i64 c, .int .i64 t, .bool m, .int .i64 l] 65)
  have hk := kind_any _ hT1 c t m
  dsimp only at hkd
  rw [hkd] at hk
  rw [Hd.agg]
  have HBEL := Lib.hid hbel
  clear hbel hT hT1 hkd
  go_enter Tryd.func37, Tryd.ntmps37
  go_wp2_with fail
  refine hk.mono ?_
  rintro e w' ⟨rfl, hB⟩
  go_wp2_with fail
  go_ret2
  exact ⟨rfl, HBEL.out.trans (hB.mono HBEL.out.size)⟩

set_option maxRecDepth 100000 in
set_option maxHeartbeats 4000000 in
/-- Of a thing that there is: what Put answers, whatever the length. -/
theorem put_yes (w : World) (hT : Tb w) (h : Hd) (hkd : kd h.c h.t h.m = true) : Calls Tryd.prog 37 #[h.agg] w fun e w' =>
    ((¬ (0 ≤ h.l ∧ h.l ≤ 16777215) ∧ e = .returned (.tuple #[.slice none 0 0, .int .i64 5])) ∨
      (0 ≤ h.l ∧ h.l ≤ 16777215) ∧ ∃ v, e = .returned (.tuple #[v, .int .i64 0]) ∧ w'.ownsRow 0 5 1 v (putH h).length (cellsOf (putH h)) ∧ (∀ k, v.ownBlock = some k → w.heap.size ≤ k)) ∧ Below w.heap.size w w' := by
  obtain ⟨c, t, m, l⟩ := h
  obtain ⟨q, hq⟩ : ∃ q, w.heap.size = q := ⟨_, rfl⟩
  have hbox := Whole.new w #[.int .i64 c, .int .i64 t, .bool m, .int .i64 l] 65
  have hbel := (Below.refl _ w).alloc (Nat.le_refl _) (.cells #[.int .i64 c, .int .i64 t, .bool m, .int .i64 l] 65)
  have hT1 := hT.alloc (.cells #[.int .i64 c, .int .i64 t, .bool m, .int .i64 l] 65)
  have hk := kind_any _ hT1 c t m
  have hs0 : (w.alloc (.cells #[.int .i64 c, .int .i64 t, .bool m, .int .i64 l] 65)).heap.size = q + 1 := by rw [World.size_alloc, hq]
  dsimp only at hkd ⊢
  rw [hq] at hbox hbel ⊢
  rw [Hd.agg]
  rw [hkd] at hk
  have HBOX := Lib.hid hbox
  have HBEL := Lib.hid hbel
  have HS0 := Lib.hid hs0
  have HKD := Lib.hid hkd
  clear hbox hbel hT hT1 hs0 hkd
  go_enter Tryd.func37, Tryd.ntmps37
  go_wp2_with fail
  refine hk.mono ?_
  rintro e X ⟨rfl, hB⟩
  generalize w.alloc (.cells #[.int .i64 c, .int .i64 t, .bool m, .int .i64 l] 65) = W0 at *
  have hbx := (hB.block q (by rw [HS0.out]; omega)).trans HBOX.out
  have hbw : Whole X q #[.int .i64 c, .int .i64 t, .bool m, .int .i64 l] 65 := hbx
  have BX := Lib.hid hbw
  have BB := Lib.hid (HBEL.out.trans (hB.mono (by rw [HS0.out]; omega)))
  have XS := Lib.hid hbw.lt
  clear HBOX HBEL HS0 hB hk hbx
  have m3 := hbw.cell 3
  simp only [List.getElem?_toArray, List.getElem?_cons_succ, List.getElem?_cons_zero] at m3
  clear hbw
  by_cases l0 : l < 0
  · go_wp2_with fail
    go_ret2
    exact ⟨.inl ⟨by omega, rfl⟩, BB.out⟩
  · by_cases l1 : 16777215 < l
    · go_wp2_with fail
      go_ret2
      exact ⟨.inl ⟨by omega, rfl⟩, BB.out⟩
    · obtain ⟨n, rfl⟩ := Int.eq_ofNat_of_zero_le (by omega : 0 ≤ l)
      have hn : n < 16777216 := by omega
      have HN := Lib.hid hn
      clear hn
      go_upto_region 6 with (fail)
      clear m3 l0 l1
      generalize hfb : (((UInt8.ofNat (fb c t m)).toNat : Nat) : Int) = fbv at *
      have HFB := Lib.hid hfb
      clear hfb
      have GS := Lib.hid (show (fun w' => Whole w' q #[.int .i64 c, .int .i64 t, .bool m, .int .i64 (n : Int)] 65) X.drew from BX.out)
      have BD := Lib.hid (show Below q w X.drew from BB.out.drew)
      have XD := Lib.hid (show q < X.drew.heap.size from XS.out)
      clear BX BB XS
      refine act_letterC (fun A1 hA1 => ?_)
      have d1 : A1.eval (.tmp 1) = .pointer (some ⟨q, 0, none⟩) := by rw [← hA1]; rfl
      have szA1 : A1.tmps.size = 29 := by rw [← hA1]; rfl
      have HA1 := Lib.hid hA1
      clear hA1
      refine wp_region_held (S := fun w' => Whole w' q #[.int .i64 c, .int .i64 t, .bool m, .int .i64 (n : Int)] 65) (by kernel_rfl) ?_
      change wpAnyH _ _ _ _ _ _ _ _ (World.drew X)
      refine wpAnyH_take (i := 0) (v := .agg #[.int .i64 c, .int .i64 t, .bool m, .int .i64 (n : Int)]) rfl (by kernel_rfl) (by kernel_rfl) (by kernel_rfl) (fun _ _ _ h => h) (.inl ⟨rfl, fun w g => run_ldRow rfl d1 (head_load g)⟩) GS.out ?_
      refine act_letter (fun A2 hA2 => ?_)
      replace d1 : A2.eval (.tmp 1) = .pointer (some ⟨q, 0, none⟩) := by rw [← hA2]; exact (ev_ne A1 (m := 23) (n := 1) (.agg #[.int .i64 c, .int .i64 t, .bool m, .int .i64 (n : Int)]) (by decide)).trans d1
      have e23 : A2.eval (.tmp 23) = .agg #[.int .i64 c, .int .i64 t, .bool m, .int .i64 (n : Int)] := by rw [← hA2]; exact ev_self A1 23 (.agg #[.int .i64 c, .int .i64 t, .bool m, .int .i64 (n : Int)]) (by omega)
      have szA2 : A2.tmps.size = 29 := by rw [← hA2]; exact (sz_put A1 23 (.agg #[.int .i64 c, .int .i64 t, .bool m, .int .i64 (n : Int)])).trans szA1
      have HA2 := Lib.hid (show A1.put (some 23) (.agg #[.int .i64 c, .int .i64 t, .bool m, .int .i64 (n : Int)]) = A2 from hA2)
      clear hA2 szA1
      have d23 := e23
      clear e23
      refine wpAnyH_take (i := 3) (v := .pointer (some ⟨q, 3, none⟩)) rfl (by kernel_rfl) (by kernel_rfl) (by kernel_rfl) (fun _ _ _ h => h) (.inl ⟨rfl, fun w g => run_fldH rfl (by decide) d1 w⟩) GS.out ?_
      refine act_letter (fun A3 hA3 => ?_)
      replace d23 : A3.eval (.tmp 23) = .agg #[.int .i64 c, .int .i64 t, .bool m, .int .i64 (n : Int)] := by rw [← hA3]; exact (ev_ne A2 (m := 26) (n := 23) (.pointer (some ⟨q, 3, none⟩)) (by decide)).trans d23
      have e26 : A3.eval (.tmp 26) = .pointer (some ⟨q, 3, none⟩) := by rw [← hA3]; exact ev_self A2 26 (.pointer (some ⟨q, 3, none⟩)) (by omega)
      have szA3 : A3.tmps.size = 29 := by rw [← hA3]; exact (sz_put A2 26 (.pointer (some ⟨q, 3, none⟩))).trans szA2
      have HA3 := Lib.hid (show A2.put (some 26) (.pointer (some ⟨q, 3, none⟩)) = A3 from hA3)
      clear hA3 szA2 d1
      have d26 := e26
      clear e26
      refine wpAnyH_take (i := 4) (v := .int .i64 (n : Int)) rfl (by kernel_rfl) (by kernel_rfl) (by kernel_rfl) (fun _ _ _ h => h) (.inl ⟨rfl, fun w g => run_ldI rfl d26 (g.cell 3)⟩) GS.out ?_
      refine act_letter (fun A4 hA4 => ?_)
      replace d23 : A4.eval (.tmp 23) = .agg #[.int .i64 c, .int .i64 t, .bool m, .int .i64 (n : Int)] := by rw [← hA4]; exact (ev_ne A3 (m := 27) (n := 23) (.int .i64 (n : Int)) (by decide)).trans d23
      have e27 : A4.eval (.tmp 27) = .int .i64 (n : Int) := by rw [← hA4]; exact ev_self A3 27 (.int .i64 (n : Int)) (by omega)
      have szA4 : A4.tmps.size = 29 := by rw [← hA4]; exact (sz_put A3 27 (.int .i64 (n : Int))).trans szA3
      have HA4 := Lib.hid (show A3.put (some 27) (.int .i64 (n : Int)) = A4 from hA4)
      clear hA4 szA3 d26
      have d27 := e27
      clear e27
      refine wpAnyH_ready (rs := [1]) (by kernel_rfl) (by simp) ?_
      refine AllReadyH.cons rfl (fun K hK => ?_) AllReadyH.nil
      refine wp_callG rfl rfl enter_first (vs := #[.agg #[.int .i64 c, .int .i64 t, .bool m, .int .i64 (n : Int)]]) (by simp [d23]) ((firstb_any X.drew ⟨c, t, m, (n : Int)⟩ HKD.out).mono ?_)
      rintro e x1 ⟨rfl, hB1⟩
      dsimp only
      rw [HFB.out]
      refine ⟨_, rfl, hK.out _ _ ((hB1.block q XD.out).trans GS.out) (fun _ => ?_)⟩
      clear hK K
      have S1 := Lib.hid (show (fun w' => Whole w' q #[.int .i64 c, .int .i64 t, .bool m, .int .i64 (n : Int)] 65) x1 from (hB1.block q XD.out).trans GS.out)
      have B1 := Lib.hid (BD.out.trans (hB1.mono (Nat.le_of_lt XD.out)))
      have XS1 := Lib.hid (show q < x1.heap.size from Nat.lt_of_lt_of_le XD.out hB1.size)
      clear hB1 BD XD
      clear GS
      refine act_letter (fun A5 hA5 => ?_)
      replace d27 : A5.eval (.tmp 27) = .int .i64 (n : Int) := by rw [← hA5]; exact (ev_ne A4 (m := 24) (n := 27) (.int .u8 fbv) (by decide)).trans d27
      have e24 : A5.eval (.tmp 24) = .int .u8 fbv := by rw [← hA5]; exact ev_self A4 24 (.int .u8 fbv) (by omega)
      have szA5 : A5.tmps.size = 29 := by rw [← hA5]; exact (sz_put A4 24 (.int .u8 fbv)).trans szA4
      have HA5 := Lib.hid (show A4.put (some 24) (.int .u8 fbv) = A5 from hA5)
      clear hA5 szA4 d23
      have d24 := e24
      clear e24
      refine wpAnyH_ready (rs := [2]) (by kernel_rfl) (by simp) ?_
      refine AllReadyH.cons rfl (fun K hK => ?_) AllReadyH.nil
      refine wp_runG rfl (w' := x1.alloc (.cells #[.int .u8 fbv] 5)) (run_newB rfl d24 rfl x1) (hK.out _ _ (Whole.grew S1.out (grew_alloc (grew_refl x1 none) _) (by simp)) (fun _ => ?_))
      clear hK K
      have S2 := Lib.hid (show (fun w' => Whole w' q #[.int .i64 c, .int .i64 t, .bool m, .int .i64 (n : Int)] 65) (x1.alloc (.cells #[.int .u8 fbv] 5)) from Whole.grew S1.out (grew_alloc (grew_refl x1 none) _) (by simp))
      have OW := Lib.hid (by have := own_new x1 #[.int .u8 fbv] [UInt8.ofNat (fb c t m)] (by rw [← HFB.out]; rfl) (by simp); exact this)
      have B2 := Lib.hid (B1.out.alloc (Nat.le_of_lt XS1.out) (.cells #[.int .u8 fbv] 5))
      clear S1
      refine act_letter (fun A6 hA6 => ?_)
      replace d27 : A6.eval (.tmp 27) = .int .i64 (n : Int) := by rw [← hA6]; exact (ev_ne A5 (m := 25) (n := 27) (.slice (some ⟨x1.heap.size, 0, none⟩) 1 1) (by decide)).trans d27
      replace d24 : A6.eval (.tmp 24) = .int .u8 fbv := by rw [← hA6]; exact (ev_ne A5 (m := 25) (n := 24) (.slice (some ⟨x1.heap.size, 0, none⟩) 1 1) (by decide)).trans d24
      have e25 : A6.eval (.tmp 25) = .slice (some ⟨x1.heap.size, 0, none⟩) 1 1 := by rw [← hA6]; exact ev_self A5 25 (.slice (some ⟨x1.heap.size, 0, none⟩) 1 1) (by omega)
      have szA6 : A6.tmps.size = 29 := by rw [← hA6]; exact (sz_put A5 25 (.slice (some ⟨x1.heap.size, 0, none⟩) 1 1)).trans szA5
      have HA6 := Lib.hid (show A5.put (some 25) (.slice (some ⟨x1.heap.size, 0, none⟩) 1 1) = A6 from hA6)
      clear hA6 szA5
      have d25 := e25
      clear e25
      refine wpAnyH_ready (rs := [5]) (by kernel_rfl) (by simp) ?_
      refine AllReadyH.cons rfl (fun K hK => ?_) AllReadyH.nil
      refine wp_callG rfl rfl enter_applen (vs := #[.slice (some ⟨x1.heap.size, 0, none⟩) 1 1, .int .i64 (n : Int)]) (by simp [d25, d27]) ((applen_any _ _ _ OW.out n HN.out).mono ?_)
      rintro e x3 ⟨v3, rfl, hA3⟩
      refine ⟨_, rfl, hK.out _ _ (S2.out.grew hA3.2.1 (by have := XS1.out; simp [Value.ownBlock]; omega)) (fun _ => ?_)⟩
      clear hK K
      have S3 := Lib.hid (show (fun w' => Whole w' q #[.int .i64 c, .int .i64 t, .bool m, .int .i64 (n : Int)] 65) x3 from S2.out.grew hA3.2.1 (by have := XS1.out; simp [Value.ownBlock]; omega))
      have AP := Lib.hid hA3
      clear hA3
      clear S2
      refine act_letter (fun A7 hA7 => ?_)
      replace d24 : A7.eval (.tmp 24) = .int .u8 fbv := by rw [← hA7]; exact (ev_ne A6 (m := 28) (n := 24) (v3) (by decide)).trans d24
      have e28 : A7.eval (.tmp 28) = v3 := by rw [← hA7]; exact ev_self A6 28 (v3) (by omega)
      have szA7 : A7.tmps.size = 29 := by rw [← hA7]; exact (sz_put A6 28 (v3)).trans szA6
      have HA7 := Lib.hid (show A6.put (some 28) (v3) = A7 from hA7)
      clear hA7 szA6 d27 d25
      have d28 := e28
      clear e28
      refine wpAnyH_take (i := 6) (v := v3) rfl (by kernel_rfl) (by kernel_rfl) (by kernel_rfl) (fun _ _ _ h => h) (.inl ⟨rfl, fun w g => run_asgn rfl d28 w⟩) S3.out ?_
      refine act_letter (fun A8 hA8 => ?_)
      replace d24 : A8.eval (.tmp 24) = .int .u8 fbv := by rw [← hA8]; exact (ev_ne A7 (m := 2) (n := 24) (v3) (by decide)).trans d24
      have e2 : A8.eval (.tmp 2) = v3 := by rw [← hA8]; exact ev_self A7 2 (v3) (by omega)
      have szA8 : A8.tmps.size = 29 := by rw [← hA8]; exact (sz_put A7 2 (v3)).trans szA7
      have HA8 := Lib.hid (show A7.put (some 2) (v3) = A8 from hA8)
      clear hA8 szA7 d28
      have d2 := e2
      clear e2
      refine wpAnyH_take (i := 7) (v := .int .i64 0) rfl (by kernel_rfl) (by kernel_rfl) (by kernel_rfl) (fun _ _ _ h => h) (.inl ⟨rfl, fun w g => run_asgn (x := .const (.int .i64 0)) (v := .int .i64 0) rfl rfl w⟩) S3.out ?_
      refine act_letter (fun A9 hA9 => ?_)
      replace d24 : A9.eval (.tmp 24) = .int .u8 fbv := by rw [← hA9]; exact (ev_ne A8 (m := 3) (n := 24) (.int .i64 0) (by decide)).trans d24
      replace d2 : A9.eval (.tmp 2) = v3 := by rw [← hA9]; exact (ev_ne A8 (m := 3) (n := 2) (.int .i64 0) (by decide)).trans d2
      have e3 : A9.eval (.tmp 3) = .int .i64 0 := by rw [← hA9]; exact ev_self A8 3 (.int .i64 0) (by omega)
      have szA9 : A9.tmps.size = 29 := by rw [← hA9]; exact (sz_put A8 3 (.int .i64 0)).trans szA8
      have HA9 := Lib.hid (show A8.put (some 3) (.int .i64 0) = A9 from hA9)
      clear hA9 szA8
      have d3 := e3
      clear e3
      refine wpAnyH_done (by kernel_rfl) ?_ _
      rw [← HA9.out, ← HA8.out, ← HA7.out, ← HA6.out, ← HA5.out, ← HA4.out, ← HA3.out, ← HA2.out, ← HA1.out]
      clear HA2 HA3 HA4 HA5 HA6 HA7 HA8 HA9 HA1 d24 d2 d3 szA9
      simp only [Act.put, List.setIfInBounds_toArray, List.set_cons_zero, List.set_cons_succ]
      go_wp2_with fail
      go_ret2
      obtain ⟨h1, h2, h3⟩ := AP.out
      refine ⟨⟨v3, rfl, ?_, ?_⟩, ?_⟩
      · have : (putH ⟨c, t, m, (n : Int)⟩).length = 1 + (lenB n).length := by simp [putH]; omega
        rw [this]
        exact h1
      · intro k hk
        have := XS1.out
        rcases h3 k hk with e | e
        · simp [Value.ownBlock] at e; omega
        · simp at e; omega
      · exact B2.out.trans (grew_below h2 (by have := XS1.out; simp; omega) (fun k hk => by have := XS1.out; simp [Value.ownBlock] at hk; omega))
end Go.Proofs.YtnjnghbonmdbdaaDoor


/- The program's own answers of layer 9: the length behind a head's first byte. -/
namespace Go.Proofs.YtnjnghbonmdbdaaDoor
open Go.RowKit

theorem i64_or_nat (a b : Nat) (ha : a < 4294967296) (hb : b < 4294967296) : bits .or .i64 (a : Int) (b : Int) = ((a ||| b : Nat) : Int) := by
  have hx : a ||| b < 2 ^ 32 := Nat.or_lt_two_pow (by omega) (by omega)
  show IntKind.i64.wrap ((BitVec.ofInt 64 (a : Int) ||| BitVec.ofInt 64 (b : Int)).toNat : Int) = _
  rw [BitVec.toNat_or, ofInt_u64 a (by omega), ofInt_u64 b (by omega), IntWalk.i64_left, IntWalk.wrap64_in _ (by omega)]
theorem or_byte9 (a b : Nat) (ha : a < 65536) (hb : b < 256) : bits .or .i64 ((a : Int) * 256) (b : Int) = ((256 * a + b : Nat) : Int) := by
  have e2 : ((a : Int) * 256) = ((a * 256 : Nat) : Int) := by omega
  rw [e2, i64_or_nat _ _ (by omega) (by omega)]
  have := Nat.two_pow_add_eq_or_of_lt (i := 8) (b := b) (by omega) a
  have e3 : 2 ^ 8 * a = a * 256 := by omega
  rw [e3] at this
  rw [← this]
  omega

theorem size_of_u8_pg (w : World) : (Go.sizeOf 5).run Tryd.prog w = .ok 1 w := by kernel_rfl
theorem elem_u8_pg : Tryd.prog.elem 22 = 5 := by simp [Program.elem, Tryd.underlying22]
/-- 'b[l:h]' of a list that has bytes behind l. -/
theorem slice_at_pg (w : World) (b o n c l h : Nat) (hl : l < h) (hh : h ≤ c) :
    (Instr.slice 22 (.slice (some ⟨b, o, none⟩) n c) (some (.int .i64 (l : Int))) (some (.int .i64 (h : Int))) none).run Tryd.prog w = .ok (.slice (some ⟨b, o + l, none⟩) (h - l) (c - l)) w := by
  have ht : Tryd.prog.underlying 22 = some (.slice (Tryd.prog.elem 22)) := by rw [elem_u8_pg]; exact Tryd.underlying22
  rw [run_slice_lh w 22 (some ⟨b, o, none⟩) n c ht .i64 .i64 _ _ (by omega) (by omega) (by omega), elem_u8_pg, size_of_u8_pg]
  have hcl : ¬ c = l := by omega
  simp [Result.andThen, sliced, hcl, Addr.add]

set_option maxRecDepth 100000 in
set_option maxHeartbeats 4000000 in
theorem rlen_any (w : World) (B o c : Nat) (a : UInt8) (r : List UInt8) (hlen : r.length + 1 ≤ c)
    (hc : ∀ i, i < (a :: r).length → w.cell? ⟨B, o + i, none⟩ = some (.int .u8 (((a :: r).getD i 0).toNat : Int))) :
    Calls Tryd.prog 55 #[.slice (some ⟨B, o, none⟩) (r.length + 1) c] w fun e w' => e = .returned (.tuple #[.int .i64 ((rl r).1 : Nat), .int .i64 ((rl r).2.1 : Nat), .int .i64 (rl r).2.2]) ∧ w' = w := by
  cases r with
  | nil =>
    go_enter Tryd.func55, Tryd.ntmps55
    go_wp2_with fail
    go_ret3
    exact ⟨rfl, rfl⟩
  | cons b s =>
    obtain ⟨M, hM⟩ : ∃ M, s.length = M := ⟨_, rfl⟩
    have hlen2 : (b :: s).length = M + 1 := by rw [← hM]; rfl
    obtain ⟨d, hd⟩ : ∃ d, b.toNat = d := ⟨_, rfl⟩
    have hd256 : d < 256 := by rw [← hd]; exact b.toNat_lt
    have m1 : w.cell? ⟨B, o + 1, none⟩ = some (.int .u8 (d : Int)) := by rw [← hd]; simpa using hc 1 (by simp)
    rw [hlen2] at hlen ⊢
    have HC := Lib.hid hc
    have HM := Lib.hid hM
    have HLC := Lib.hid hlen
    clear hc hlen2 hM
    by_cases g1 : d < 128
    · have e : rl (b :: s) = (d, 2, 0) := by unfold rl; simp only; rw [if_pos (by omega), hd]
      rw [e]
      have f1 : IntKind.i64.wrap (d : Int) = d := by rw [IntWalk.i64_left, IntWalk.wrap64_in _ (by omega)]
      clear hd e
      go_enter Tryd.func55, Tryd.ntmps55
      go_wp2_with fail
      go_ret3
      exact ⟨rfl, rfl⟩
    · obtain ⟨k, hkd⟩ : ∃ k, d = 128 + k := ⟨d - 128, by omega⟩
      have ek : b.toNat - 128 = k := by omega
      have hnl : ¬ (d : Int) < 128 := by omega
      have HKD := Lib.hid hkd
      by_cases g2 : k = 0
      · have e : rl (b :: s) = (0, 1, 13) := by unfold rl; simp only; rw [if_neg (by omega), if_pos (by omega)]
        rw [e]
        have hkd' : (d : Int) - 128 = 0 := by omega
        clear hd e hkd ek g2
        go_enter Tryd.func55, Tryd.ntmps55
        go_wp2_with fail
        go_ret3
        exact ⟨rfl, rfl⟩
      have hkd' : (d : Int) - 128 = (k : Int) := by omega
      have hk0 : ((k : Int) == 0) = false := by simp; omega
      by_cases g3 : 3 < k
      · have e : rl (b :: s) = (0, 1, 13) := by unfold rl; simp only; rw [if_neg (by omega), if_pos (by omega)]
        rw [e]
        have g3' : 3 < (k : Int) := by omega
        clear hd e hkd ek g2
        go_enter Tryd.func55, Tryd.ntmps55
        go_wp2_with fail
        go_ret3
        exact ⟨rfl, rfl⟩
      by_cases g4 : M < k
      · have e : rl (b :: s) = (0, s.length + 2, 4) := by unfold rl; simp only; rw [if_neg (by omega), if_neg (by omega), ek, if_pos (by rw [HM.out]; exact g4)]
        rw [e, HM.out]
        clear hd e hkd ek g2
        go_enter Tryd.func55, Tryd.ntmps55
        go_wp2_with fail
        go_ret3
        exact ⟨rfl, rfl⟩
      obtain ⟨L, hL⟩ : ∃ L, bval (s.take k) = L := ⟨_, rfl⟩
      have hL24 : L < 16777216 := by
        rw [← hL]
        have h1 := bval_lt (s.take k)
        have h2 : (s.take k).length ≤ 3 := by rw [List.length_take]; omega
        have h3 : 256 ^ (s.take k).length ≤ 256 ^ 3 := Nat.pow_le_pow_right (by omega) h2
        have h4 : (256 : Nat) ^ 3 = 16777216 := rfl
        omega
      have hnd := needed_any w L hL24
      have hsl := slice_at_pg w B o (M + 1 + 1) c 2 (2 + k) (by omega) (by omega)
      have e2 : 2 + k - 2 = k := by omega
      rw [e2] at hsl
      have e3 : (((2 + k : Nat)) : Int) = 2 + (k : Int) := by omega
      have e4 : ((2 : Nat) : Int) = 2 := rfl
      rw [e3, e4] at hsl
      have ER := Lib.hid (show rl (b :: s) = if nd L < k then (0, 1, 13) else (L, 2 + k, 0) by unfold rl; simp only; rw [if_neg (by omega), if_neg (by omega), ek, if_neg (by rw [HM.out]; exact g4), hL])
      have HL := Lib.hid hL
      have HND := Lib.hid hnd
      have k3 : k ≤ 3 := by omega
      have kM : k ≤ M := by omega
      clear hd hkd ek e2 e3 e4 hL hnd hL24
      go_enter Tryd.func55, Tryd.ntmps55
      go_wp2_with fail
      go_loopw [7, 44] (fun n i wr => ∃ j : Nat, j ≤ k ∧ i = .int .i64 j ∧ n = .int .i64 ((bval (s.take j) : Nat) : Int) ∧ wr = w) (fun _ i _ => k - (intOf i).toNat)
      case atStart => exact ⟨0, Nat.zero_le _, rfl, rfl, rfl⟩
      case round =>
        clear m1 hsl
        obtain ⟨j, hj, rfl, rfl, rfl⟩ := hrel
        by_cases hlt : j < k
        · obtain ⟨V, hV⟩ : ∃ V, bval (s.take j) = V := ⟨_, rfl⟩
          have hVb : V < 65536 := by
            rw [← hV]
            have h1 := bval_lt (s.take j)
            have h2 : (s.take j).length ≤ 2 := by rw [List.length_take]; omega
            have h3 : 256 ^ (s.take j).length ≤ 256 ^ 2 := Nat.pow_le_pow_right (by omega) h2
            have h4 : (256 : Nat) ^ 2 = 65536 := rfl
            omega
          obtain ⟨x, hx⟩ : ∃ x, (s.getD j 0).toNat = x := ⟨_, rfl⟩
          have hx256 : x < 256 := by rw [← hx]; exact UInt8.toNat_lt _
          have hnext : bval (s.take (j + 1)) = 256 * V + x := by rw [bval_take (by rw [HM.out]; omega), hV, hx]
          have c1 : wr.cell? ⟨B, o + 2 + j, none⟩ = some (.int .u8 (x : Int)) := by
            have := HC.out (2 + j) (by simp [HM.out]; omega)
            rw [Nat.add_assoc, ← hx, this]
            congr 3
            rw [show 2 + j = j + 1 + 1 by omega]
            simp
          have hor := or_byte9 V x hVb hx256
          have hw1 : wrap64 ((V : Int) * 256) = (V : Int) * 256 := IntWalk.wrap64_in _ (by omega)
          have f1 : IntKind.i64.wrap (x : Int) = x := by rw [IntWalk.i64_left, IntWalk.wrap64_in _ (by omega)]
          rw [← hnext] at hor
          rw [hV]
          have HV := Lib.hid hV
          have hVb' : (V : Int) < 65536 := by omega
          clear hx hV hnext hVb
          go_wp2_with fail
          go_roundw
          case rel => exact ⟨j + 1, hlt, rfl, rfl, trivial⟩
          case measure => simp [intOf]; omega
        · obtain rfl : k = j := by omega
          rw [HL.out]
          go_wp2_with fail
          refine HND.out.mono ?_
          rintro e w' ⟨rfl, rfl⟩
          by_cases g5 : nd L < k
          · have g5' : ((nd L : Nat) : Int) < (k : Int) := by omega
            go_wp2_with fail
            go_ret3
            rw [ER.out, if_pos g5]
            exact ⟨rfl, rfl⟩
          · have g5' : ¬ ((nd L : Nat) : Int) < (k : Int) := by omega
            go_wp2_with fail
            go_ret3
            rw [ER.out, if_neg g5]
            exact ⟨by simp, rfl⟩
end Go.Proofs.YtnjnghbonmdbdaaDoor


/- The program's own answers of layer 9: Read. -/
namespace Go.Proofs.YtnjnghbonmdbdaaDoor
open Go.RowKit

set_option maxRecDepth 100000 in
set_option maxHeartbeats 4000000 in
theorem read_big (w : World) (hT : Tb w) (A : Option Addr) (c : Nat) (xs : List UInt8) (hb : Byt w w.heap.size A xs) (hlc : xs.length ≤ c) :
    Calls Tryd.prog 45 #[.slice A xs.length c] w fun e w' => e = .returned (.tuple #[(rdH xs).1.agg, .int .i64 ((rdH xs).2.1 : Nat), .int .i64 (rdH xs).2.2]) ∧ Below w.heap.size w w' := by
  cases xs with
  | nil =>
    clear hT
    go_enter Tryd.func45, Tryd.ntmps45
    go_wp2_with fail
    refine bodyPost_ret (results_cell_tmps rfl _ _ w.heap.size _ _ _ _ rfl (Whole.new w _ _) Tryd.underlying65 rfl (by kernel_rfl)) rfl ?_
    exact ⟨rfl, (Below.refl _ w).alloc (Nat.le_refl _) _⟩
  | cons a r =>
    obtain ⟨B, o, rfl, hB, hc⟩ := hb (by simp)
    obtain ⟨q, hq⟩ : ∃ q, w.heap.size = q := ⟨_, rfl⟩
    obtain ⟨L, hL⟩ : ∃ L, r.length = L := ⟨_, rfl⟩
    have hlen : (a :: r).length = L + 1 := by simp [hL]
    obtain ⟨n, hn⟩ : ∃ n, a.toNat = n := ⟨_, rfl⟩
    have hn256 : n < 256 := by rw [← hn]; exact a.toNat_lt
    obtain ⟨w1, hw1⟩ : ∃ w1, w.alloc (.cells #[.int .i64 0, .int .i64 0, .bool false, .int .i64 0] 65) = w1 := ⟨_, rfl⟩
    have hs1 : w1.heap.size = q + 1 := by rw [← hw1, World.size_alloc, hq]
    have b1 : Below q w w1 := by rw [← hw1, ← hq]; exact (Below.refl _ w).alloc (Nat.le_refl _) _
    have T1 : Tb w1 := by rw [← hw1]; exact hT.alloc _
    have r1 : Whole w1 q #[.int .i64 0, .int .i64 0, .bool false, .int .i64 0] 65 := by rw [← hw1, ← hq]; exact Whole.new w _ _
    have k1 : w1.cell? ⟨B, o, none⟩ = some (.int .u8 (n : Int)) := by rw [b1.cell (p := ⟨B, o, none⟩) (by show B < q; omega), ← hn]; simpa using hc 0 (by simp)
    have hho := headof_any w1 n hn256
    rw [hlen] at hlc ⊢
    rw [hq] at hB ⊢
    have HC := Lib.hid hc
    have T1' := Lib.hid T1
    have B1 := Lib.hid b1
    have R1 := Lib.hid r1
    have S1 := Lib.hid hs1
    have HLC := Lib.hid hlc
    have HB' := Lib.hid hB
    clear hb hc b1 r1 hT T1 hs1
    go_enter Tryd.func45, Tryd.ntmps45
    go_wp2_with fail
    refine hho.mono ?_
    rintro e w2 ⟨rfl, hB2⟩
    clear hho k1 hw1
    obtain ⟨p, hp⟩ : ∃ p, w2.heap.size = p := ⟨_, rfl⟩
    have hqp : q < p := by have := hB2.size; rw [S1.out] at this; omega
    have hq1 : q < w1.heap.size := by rw [S1.out]; omega
    obtain ⟨hm, hhm⟩ : ∃ hm, (n / 32 % 2 == 1) = hm := ⟨_, rfl⟩
    have hal : Below p w2 (w2.alloc (.cells #[.int .i64 ((n : Int) / 64), .int .i64 ((n : Int) % 32), .bool hm, .int .i64 0] 65)) := by rw [← hp]; exact (Below.refl _ w2).alloc (Nat.le_refl _) _
    have hnew := Whole.new w2 #[.int .i64 ((n : Int) / 64), .int .i64 ((n : Int) % 32), .bool hm, .int .i64 0] 65
    rw [hp] at hnew
    have STAR := Lib.hid (show Rdg 65 w (w2.alloc (.cells #[.int .i64 ((n : Int) / 64), .int .i64 ((n : Int) % 32), .bool hm, .int .i64 0] 65)) q p B o (a :: r) ((n : Int) / 64) ((n : Int) % 32) hm 0 from by
      refine ⟨(hal.block q hqp).trans ((hB2.block q hq1).trans R1.out), hnew, fun i hi => ?_, (B1.out.trans (hB2.mono (Nat.le_of_lt hq1))).trans (hal.mono (Nat.le_of_lt hqp)), HB'.out, hqp⟩
      rw [hal.cell (p := ⟨B, o + i, none⟩) (by show B < p; have := HB'.out; omega), hB2.cell (p := ⟨B, o + i, none⟩) (by show B < w1.heap.size; have := HB'.out; omega), B1.out.cell (p := ⟨B, o + i, none⟩) HB'.out]
      exact HC.out i hi)
    have T2 := Lib.hid ((T1'.out.self hB2).alloc (.cells #[.int .i64 ((n : Int) / 64), .int .i64 ((n : Int) % 32), .bool hm, .int .i64 0] 65))
    unfold Hd.agg
    rw [hhm]
    have HHM := Lib.hid hhm
    have HN := Lib.hid hn
    have HL := Lib.hid hL
    have HP := Lib.hid (And.intro hqp hp)
    clear hB2 hal hnew hhm hn hL T1' B1 R1 S1 HC hq1
    go_wp2_with fail
    clear hp
    generalize w2.alloc (.cells #[.int .i64 ((n : Int) / 64), .int .i64 ((n : Int) % 32), .bool hm, .int .i64 0] 65) = w3 at *
    obtain ⟨K, hK⟩ : ∃ K, kd ((n : Int) / 64) ((n : Int) % 32) hm = K := ⟨_, rfl⟩
    have hkd := kind_any w3 T2.out ((n : Int) / 64) ((n : Int) % 32) hm
    rw [hK] at hkd
    have HK := Lib.hid hK
    clear hK
    refine hkd.mono ?_
    rintro e w4 ⟨rfl, hB4⟩
    have R4 := Lib.hid (STAR.out.below hB4 STAR.out.head.lt)
    clear hkd hB4 STAR T2
    have z := R4.out.res.frozen
    have zc := fun i => R4.out.res.cell i
    cases K with
    | false =>
      go_wp2_with fail
      have hr : rdH (a :: r) = (.z, 0, 13) := by
        apply rdH_no
        have := HK.out
        rw [← HHM.out, ← HN.out] at this
        exact this
      rw [hr]
      exact rp_leave R4.out .z _ 0 13 rfl rfl rfl rfl ⟨rfl, below_put4 R4.out.bel (Nat.le_refl _) _ _ _ _⟩
    | true =>
      have KT : kd (hdC a) (hdT a) (hdM a) = true := by
        have := HK.out
        rw [← HHM.out, ← HN.out] at this
        exact this
      have HR := Lib.hid (rdH_rl a r KT)
      have hrl := rlen_any w4 B o c a r (by rw [HL.out]; exact hlc) R4.out.byte
      rw [HL.out] at hrl
      obtain ⟨⟨n1, n2, n3⟩, hz⟩ : ∃ x, rl r = x := ⟨_, rfl⟩
      rw [hz] at hrl HR
      dsimp only at hrl HR
      have HRL := Lib.hid hrl
      clear KT HK hrl hz
      go_wp2_with fail
      refine HRL.out.mono ?_
      rintro e w5 ⟨rfl, rfl⟩
      clear HRL
      by_cases h0 : n3 = 0
      · subst h0
        have z3 := R4.out.head.frozen
        have hh := R4.out.head
        have l0 := hh.cell 0
        have l1 := hh.cell 1
        have l2 := hh.cell 2
        have l3 := hh.cell 3
        simp only [List.getElem?_toArray, List.getElem?_cons_succ, List.getElem?_cons_zero] at l0 l1 l2 l3
        clear hh
        go_upto_region 11 with (fail)
        have R5 := Lib.hid (R4.out.set3 (n1 : Int))
        clear z zc z3 l0 l1 l2 l3
        generalize w5.setCell ⟨p, 3, none⟩ (.int .i64 (n1 : Int)) = w6 at *
        have z := R5.out.res.frozen
        have zc := fun i => R5.out.res.cell i
        have hh := R5.out.head
        have l0 := hh.cell 0
        have l1 := hh.cell 1
        have l2 := hh.cell 2
        have l3 := hh.cell 3
        simp only [List.getElem?_toArray, List.getElem?_cons_succ, List.getElem?_cons_zero] at l0 l1 l2 l3
        clear hh
        go_wp2_with fail
        rw [HR.out, if_pos trivial]
        have e1 : hdC a = (n : Int) / 64 := by rw [← HN.out]
        have e2 : hdT a = (n : Int) % 32 := by rw [← HN.out]
        have e3 : hdM a = hm := by rw [← HHM.out, ← HN.out]
        rw [e1, e2, e3]
        exact rp_leave R5.out ⟨(n : Int) / 64, (n : Int) % 32, hm, (n1 : Int)⟩ _ n2 0 rfl rfl rfl rfl ⟨rfl, below_put4 R5.out.bel (Nat.le_refl _) _ _ _ _⟩
      · have h0' : (n3 != 0) = true := bne_iff_ne.2 h0
        go_wp2_with fail
        rw [HR.out, if_neg h0]
        exact rp_leave R4.out .z _ n2 n3 rfl rfl rfl rfl ⟨rfl, below_put4 R4.out.bel (Nat.le_refl _) _ _ _ _⟩
theorem read_any (w : World) (hT : Tb w) (A : Option Addr) (c : Nat) (xs : List UInt8) (hb : Byt w w.heap.size A xs) (hlc : xs.length ≤ c) (_ : c ≤ 140737488351232) :
    Calls Tryd.prog 45 #[.slice A xs.length c] w fun e w' => e = .returned (.tuple #[(rdH xs).1.agg, .int .i64 ((rdH xs).2.1 : Nat), .int .i64 (rdH xs).2.2]) ∧ Below w.heap.size w w' := read_big w hT A c xs hb hlc
end Go.Proofs.YtnjnghbonmdbdaaDoor


/- Layer 11's own small functions: whether bytes may be a thing's, a copy of bytes. -/
namespace Go.Proofs.YtnjnghbonmdbdaaDoor
open Go.RowKit Nd

/-- May bytes be a thing's? -/
def wb (k t : Int) (m : Bool) (xs : List UInt8) : Int := if m = false ∧ k = 0 then ckE t xs else 0
theorem wb_made (k t : Int) (xs : List UInt8) : wb k t true xs = 0 := by unfold wb; rw [if_neg (by simp)]
theorem wb_kd {k t : Int} {m : Bool} (h : kd k t m = true) (xs : List UInt8) : wb k t m xs = 0 ∨ wb k t m xs = 13 := by
  unfold wb
  split
  · rename_i h0
    obtain ⟨rfl, rfl⟩ := h0
    have ht : t ∈ tgs := by
      unfold kd at h
      rw [if_neg (by omega), if_pos rfl] at h
      split at h
      · rename_i h1
        unfold tgs
        rcases h1 with rfl | rfl | rfl | rfl | rfl | rfl | rfl | rfl | rfl | rfl | rfl | rfl | rfl | rfl | rfl | rfl | rfl <;> decide
      · split at h <;> cases h
    rw [ck_in ht xs]
    split
    · exact .inl rfl
    · exact .inr rfl
  · exact .inl rfl

set_option maxRecDepth 100000 in
set_option maxHeartbeats 400000 in
theorem wrongb_any (w : World) (k t : Int) (hw : -9223372036854775808 ≤ t ∧ t ≤ 9223372036854775807) (m : Bool) (A : Option Addr) (c : Nat) (xs : List UInt8) (hb : Byt w w.heap.size A xs) (hl : xs.length ≤ c) (hm : xs.length ≤ 140737488351232) :
    Calls Tryd.prog 46 #[.int .i64 k, .int .i64 t, .bool m, .slice A xs.length c] w fun e w' => e = .returned (.int .i64 (wb k t m xs)) ∧ Below w.heap.size w w' := by
  have HC := Lib.hid (check_any w t hw A c xs hb hl hm)
  obtain ⟨R, hR⟩ : ∃ R, wb k t m xs = R := ⟨_, rfl⟩
  rw [hR]
  unfold wb at hR
  have HR := Lib.hid hR
  generalize xs.length = L at *
  clear hb hl hm hw hR
  cases m with
  | true =>
    go_enter Tryd.func46, Tryd.ntmps46
    go_wp2_with fail
    go_ret
    exact ⟨by rw [← HR.out, if_neg (by simp)]; rfl, Below.refl _ _⟩
  | false =>
    rcases Decidable.em (k = 0) with g | g
    · have g' : (k != 0) = false := by rw [g]; rfl
      have HE := Lib.hid (show ckE t xs = R by rw [← HR.out, if_pos ⟨rfl, g⟩])
      clear g
      go_enter Tryd.func46, Tryd.ntmps46
      go_wp2_with fail
      refine HC.out.mono ?_
      rintro e w' ⟨rfl, b⟩
      have B := Lib.hid b
      clear b
      go_wp2_with fail
      go_ret
      exact ⟨by rw [HE.out]; rfl, B.out⟩
    · have g' : (k != 0) = true := bne_iff_ne.2 g
      have HE := Lib.hid (show 0 = R by rw [← HR.out, if_neg (fun h => g h.2)])
      clear g
      go_enter Tryd.func46, Tryd.ntmps46
      go_wp2_with fail
      go_ret
      exact ⟨by rw [← HE.out]; rfl, Below.refl _ _⟩

set_option maxRecDepth 100000 in
theorem dclone_any (w : World) (A : Option Addr) (c : Nat) (xs : List UInt8) (hl : Byt w w.heap.size A xs) (hm : xs.length ≤ 140737488355328) :
    Calls Tryd.prog 32 #[.slice A xs.length c] w fun e w' => ∃ v', e = .returned v' ∧ Own8 w.heap.size w w' v' xs := by
  have HL := Lib.hid hl
  have HM := Lib.hid hm
  cases A with
  | none =>
    have e0 : xs = [] := by
      rcases Nat.eq_zero_or_pos xs.length with h | h
      · exact List.eq_nil_of_length_eq_zero h
      · obtain ⟨_, _, h, _⟩ := hl h
        cases h
    subst e0
    clear hl hm
    have he : ∀ w : World, (binOp .eql 22 (.slice none 0 c) (.slice none 0 0)).run Tryd.prog w = .ok (.bool true) w := fun _ => by kernel_rfl
    go_enter Tryd.func32, Tryd.ntmps32
    go_wp2_with fail
    go_ret
    exact ⟨_, rfl, World.ownsRow_nil _ _ _ _, fun k hk => by simp [Value.ownBlock] at hk, Below.refl _ _, Nat.le_refl _⟩
  | some a =>
    clear hl hm
    have he : ∀ w : World, (binOp .eql 22 (.slice (some a) xs.length c) (.slice none 0 0)).run Tryd.prog w = .ok (.bool false) w := fun _ => by kernel_rfl
    have HA := Lib.hid (app_more (own8_none w.heap.size w w (Below.refl _ _) (Nat.le_refl _)) (A := some a) (bs := xs) ((HL.out.grew (grew_alloc (grew_refl _ none) _) (fun _ h => by cases h)).more (by simp)) c (by have := HM.out; simp; omega))
    go_enter Tryd.func32, Tryd.ntmps32
    go_wp2_with (at_builtin; refine wpList_append_run _ rfl (.tmp 5) (.tmp 6) 22 rfl rfl rfl HA.out ?_; rintro v' w1 a1; rw [List.nil_append] at a1; have A1 := Lib.hid a1; clear a1)
    go_ret
    exact ⟨_, rfl, A1.out⟩
end Go.Proofs.YtnjnghbonmdbdaaDoor


/- Layer 11: the head of the thing that begins at a place. -/
namespace Go.Proofs.YtnjnghbonmdbdaaDoor
open Go.RowKit Nd

/-- A thing's head, and the place behind it; or what is wrong with the thing but for those in it, and where. -/
def rh (ys : List UInt8) : Hd × Nat × Int :=
  if (rdH ys).2.2 ≠ 0 then (.z, (rdH ys).2.1, (rdH ys).2.2)
  else if ((ys.length : Int) - (rdH ys).2.1) < (rdH ys).1.l then (.z, ys.length, 4)
  else if wb (rdH ys).1.c (rdH ys).1.t (rdH ys).1.m ((ys.drop (rdH ys).2.1).take (rdH ys).1.l.toNat) ≠ 0 then (.z, (rdH ys).2.1, 13)
  else ((rdH ys).1, (rdH ys).2.1, 0)

/-- What is read begins with a head. -/
theorem rn_rh (n : Nat) (xs : List UInt8) : rn (n + 1) xs =
    if (rh xs).2.2 ≠ 0 then ⟨(rh xs).2.2, (rh xs).2.1, .z⟩
    else if (rh xs).1.m = false then ⟨0, (rh xs).2.1 + (rh xs).1.l.toNat, .mk (rh xs).1.c (rh xs).1.t false none 0 ((xs.drop (rh xs).2.1).take (rh xs).1.l.toNat) none 0 []⟩
    else
      let r := lstN (rn n) (rh xs).1.l.toNat [] (rh xs).2.1 ((xs.drop (rh xs).2.1).take (rh xs).1.l.toNat)
      if r.1 = 0 then ⟨0, (rh xs).2.1 + (rh xs).1.l.toNat, .mk (rh xs).1.c (rh xs).1.t true none 0 [] none 0 r.2.2⟩ else ⟨r.1, r.2.1, .z⟩ := by
  rw [rn]
  unfold rh
  generalize rdH xs = r
  obtain ⟨⟨k, t, m, l⟩, z, e⟩ := r
  dsimp only
  by_cases h1 : e ≠ 0
  · rw [if_pos h1, if_pos h1]
    dsimp only
    rw [if_pos h1]
  rw [if_neg h1, if_neg h1]
  by_cases h2 : ((xs.length : Int) - (z : Int)) < l
  · rw [if_pos h2, if_pos h2]
    rfl
  rw [if_neg h2, if_neg h2]
  cases m with
  | true =>
    rw [wb_made, if_neg (by simp)]
    rfl
  | false =>
    have e1 : wb k t false ((xs.drop z).take l.toNat) = if k = 0 then ckE t ((xs.drop z).take l.toNat) else 0 := by
      unfold wb
      by_cases hk : k = 0
      · rw [if_pos ⟨rfl, hk⟩, if_pos hk]
      · rw [if_neg (fun h => hk h.2), if_neg hk]
    rw [e1, if_pos (show false = false from rfl)]
    by_cases hk : k = 0
    · rw [if_pos hk]
      by_cases hc : ckE t ((xs.drop z).take l.toNat) = 0
      · rw [if_neg (fun h => h.2 hc), if_neg (show ¬ (ckE t ((xs.drop z).take l.toNat) ≠ 0) from fun h => h hc)]
        rfl
      · rw [if_pos ⟨hk, hc⟩, if_pos hc]
        rfl
    · rw [if_neg (fun h => hk h.1), if_neg hk, if_neg (by simp)]
      rfl

/-- A head that there is. -/
theorem rh_good (ys : List UInt8) : (rh ys).2.1 ≤ ys.length ∧ ((rh ys).2.2 = 0 → kd (rh ys).1.c (rh ys).1.t (rh ys).1.m = true ∧ 0 ≤ (rh ys).1.l ∧ (rh ys).1.l ≤ 16777215 ∧ 2 ≤ (rh ys).2.1 ∧ (rh ys).2.1 + (rh ys).1.l.toNat ≤ ys.length) := by
  have hg := rdH_good ys
  have hz : (rdH ys).2.1 ≤ ys.length := by
    rcases hg with h | h
    · exact h.2.2
    · rw [h.2.2.2.1]; exact h.2.2.2.2.length_le
  unfold rh
  split
  · rename_i h1
    exact ⟨hz, fun h => absurd h h1⟩
  split
  · exact ⟨Nat.le_refl _, fun h => absurd (show (4 : Int) = 0 from h) (by decide)⟩
  split
  · exact ⟨hz, fun h => absurd (show (13 : Int) = 0 from h) (by decide)⟩
  · rename_i h1 h2 _
    refine ⟨hz, fun _ => ?_⟩
    rcases hg with h | h
    · exact absurd (Classical.not_not.1 h1) h.1
    · exact ⟨h.2.1, h.2.2.1.1, h.2.2.1.2, by dsimp only; rw [h.2.2.2.1]; exact putH_ge2 _, by dsimp only; have := h.2.2.1.1; omega⟩

/-- 'b[l:]' of any list. -/
theorem slice_off (w : World) (A : Option Addr) (n c l : Nat) (hl : l ≤ n) (_ : n ≤ c) :
    (Instr.slice 22 (.slice A n c) (some (.int .i64 (l : Int))) none none).run Tryd.prog w = .ok (.slice (cutAt A c l) (n - l) (c - l)) w := by
  rw [run_slice_l w 22 A n c under_bytes .i64 _ (by omega) (by omega), elem_u8, size_of_u8]
  simp [Result.andThen, sliced, cutAt]

/-- 'readHead' leaves with what lies in its result. -/
theorem rh_leave {W : World} {q : Nat} {a0 a1 a2 a3 : Value} (h : Whole W q #[a0, a1, a2, a3] 65) (x : Hd) (a : Act) (k e : Int)
    (h2 : a.tmps.getD 4 undef = .pointer (some ⟨q, 0, none⟩)) (h3 : a.tmps.getD 5 undef = .int .i64 k) (h4 : a.tmps.getD 6 undef = .int .i64 e) (hd : a.defers = []) {E : Ending → World → Prop}
    (hE : E (.returned (.tuple #[x.agg, .int .i64 k, .int .i64 e])) (put4 W q (.int .i64 x.c) (.int .i64 x.t) (.bool x.m) (.int .i64 x.l))) :
    bodyPost Tryd.prog Tryd.f31 E Exit.ret a (put4 W q (.int .i64 x.c) (.int .i64 x.t) (.bool x.m) (.int .i64 x.l)) := by
  refine bodyPost_ret (results_cell_tmps rfl _ _ q _ _ _ _ h2 (h.put4 _ _ _ _) Tryd.underlying65 rfl (by kernel_rfl)) hd ?_
  rw [h3, h4]
  exact hE

set_option maxRecDepth 100000 in
set_option maxHeartbeats 1000000 in
theorem readhead_any (w : World) (hT : Tb w) (A : Option Addr) (c : Nat) (xs : List UInt8) (i : Nat) (hb : Byt w w.heap.size A xs) (hc : xs.length ≤ c) (hl : xs.length ≤ 1099511627776) (hi : i ≤ xs.length) :
    Calls Tryd.prog 31 #[.slice A xs.length c, .int .i64 (i : Int)] w fun e w' => e = .returned (.tuple #[(rh (xs.drop i)).1.agg, .int .i64 ((i + (rh (xs.drop i)).2.1 : Nat) : Int), .int .i64 (rh (xs.drop i)).2.2]) ∧ Below w.heap.size w w' := by
  obtain ⟨ys, hys⟩ : ∃ ys, xs.drop i = ys := ⟨_, rfl⟩
  have hyl : ys.length = xs.length - i := by rw [← hys, List.length_drop]
  have hbs : Byt w w.heap.size (cutAt A c i) ys := by rw [← hys]; exact hb.drop hc
  rw [hys]
  obtain ⟨R, hR⟩ : ∃ R, rh ys = R := ⟨_, rfl⟩
  rw [hR]
  have hR2 := hR.symm
  unfold rh at hR2
  have HR := Lib.hid hR2
  have HYL := Lib.hid hyl
  have HB := Lib.hid hb
  have HYS := Lib.hid hys
  have HC := Lib.hid hc
  obtain ⟨q, hq⟩ : ∃ q, w.heap.size = q := ⟨_, rfl⟩
  obtain ⟨w1, hw1⟩ : ∃ w1, w.alloc (.cells #[.int .i64 0, .int .i64 0, .bool false, .int .i64 0] 65) = w1 := ⟨_, rfl⟩
  have HQ := Lib.hid hq
  have HW1 := Lib.hid (show Whole w1 q #[.int .i64 0, .int .i64 0, .bool false, .int .i64 0] 65 by rw [← hw1, ← hq]; exact Whole.new _ _ _)
  have B1 := Lib.hid (show Below w.heap.size w w1 ∧ w1.heap.size = q + 1 from ⟨by rw [← hw1]; exact (Below.refl _ w).alloc (Nat.le_refl _) _, by rw [← hw1, World.size_alloc, hq]⟩)
  have GOOD := Lib.hid (rdH_good ys)
  have hrd := read_big w1 (hT.self B1.out.1) (cutAt A c i) (c - i) ys ((byt_below hbs B1.out.1 (Nat.le_refl _)).more B1.out.1.size) (by omega)
  obtain ⟨L, hL⟩ : ∃ L, xs.length = L := ⟨_, rfl⟩
  have HL := Lib.hid hL
  rw [hyl, hL] at hrd
  rw [hL] at hl hi ⊢
  have HRD := Lib.hid hrd
  have hs1 : (Instr.slice 22 (.slice A L c) (some (.int .i64 (i : Int))) none none).run Tryd.prog w1 = .ok (.slice (cutAt A c i) (L - i) (c - i)) w1 := slice_off w1 A L c i hi (by omega)
  have hLI : (L : Int) ≤ 1099511627776 := by omega
  have hiI : (i : Int) ≤ 1099511627776 := by omega
  have HIL := Lib.hid hi
  have HBS := Lib.hid hbs
  obtain ⟨r, hr⟩ : ∃ r, rdH ys = r := ⟨_, rfl⟩
  rw [hr] at HRD GOOD HR
  obtain ⟨⟨k, t, m, l⟩, z, e0⟩ := r
  clear hr hb hc hl hi hL hys hyl hbs hR hR2 hrd hT
  go_enter Tryd.func31, Tryd.ntmps31
  go_wp2_with fail
  refine HRD.out.mono ?_
  change ∀ (e : Ending) (w' : World), e = .returned (.tuple #[.agg #[.int .i64 k, .int .i64 t, .bool m, .int .i64 l], .int .i64 (z : Int), .int .i64 e0]) ∧ Below w1.heap.size w1 w' → _
  rintro e w2 ⟨rfl, b2⟩
  have B2 := Lib.hid (show Below w.heap.size w w2 ∧ q + 1 ≤ w2.heap.size from ⟨B1.out.1.trans (b2.mono (by have := B1.out.1.size; omega)), by have := b2.size; have := B1.out.2; omega⟩)
  have HW2 := Lib.hid (HW1.out.below b2 HW1.out.lt)
  clear b2 HRD hs1
  go_upto_region 2 with (fail)
  obtain ⟨p, hp⟩ : ∃ p, w2.heap.size = p := ⟨_, rfl⟩
  rw [hp]
  obtain ⟨w3, hw3⟩ : ∃ w3, w2.alloc (.cells #[.int .i64 k, .int .i64 t, .bool m, .int .i64 l] 65) = w3 := ⟨_, rfl⟩
  rw [hw3]
  have G3 : Grew w2 w3 none := by rw [← hw3]; exact grew_alloc (grew_refl _ _) _
  have HP3 := Lib.hid (show Whole w3 p #[.int .i64 k, .int .i64 t, .bool m, .int .i64 l] 65 by rw [← hw3, ← hp]; exact Whole.new _ _ _)
  have HW3 := Lib.hid (HW2.out.grew G3 (by simp))
  have B3 := Lib.hid (show Below w.heap.size w w3 ∧ q < p ∧ w3.heap.size = p + 1 from ⟨B2.out.1.trans (grew_below G3 B2.out.1.size (fun _ e => by cases e)), by have := B2.out.2; omega, by rw [← hw3, World.size_alloc, hp]⟩)
  clear G3 hp hw3 HW2 B2 HW1 B1 hw1 hq w2 w1
  have hzl : z ≤ ys.length := by
    rcases GOOD.out with h | h
    · exact h.2.2
    · rw [h.2.2.2.1]; exact h.2.2.2.2.length_le
  obtain ⟨F, hF⟩ : ∃ F, i + z = F := ⟨_, rfl⟩
  have hFI : (i : Int) + (z : Int) = (F : Int) := by omega
  have hFL : F ≤ L := by have := HYL.out; have := HL.out; have := HIL.out; omega
  have hFb : (F : Int) ≤ 1099511627776 := by omega
  have HZL := Lib.hid (And.intro hzl (And.intro hF hFL))
  clear hzl hF hFL
  have zf := HW3.out.frozen
  have zc := fun i => HW3.out.cell i
  go_upto_region 3 with (fail)
  rcases (Decidable.em (e0 = 0)).symm with g0 | g0
  · have g0' : (e0 != 0) = true := bne_iff_ne.2 g0
    have HE := Lib.hid (show R = (.z, z, e0) by rw [HR.out, if_pos g0])
    clear g0 HR
    go_wp2_with fail
    rw [HE.out]
    exact rh_leave HW3.out .z _ _ _ rfl (by first | (dsimp only; rw [HZL.out.2.1]; rfl) | (dsimp only; rw [hFI]; rfl)) rfl rfl ⟨rfl, below_put4 B3.out.1 (by rw [HQ.out]; exact Nat.le_refl _) _ _ _ _⟩
  subst g0
  have HR1 := Lib.hid HR.out
  rw [if_neg (by simp)] at HR1
  obtain ⟨hk, hl0, hl1⟩ : kd k t m = true ∧ 0 ≤ l ∧ l ≤ 16777215 := by
    rcases GOOD.out with h | h
    · exact absurd rfl h.1
    · exact ⟨h.2.1, h.2.2.1⟩
  obtain ⟨N, rfl⟩ := Int.eq_ofNat_of_zero_le hl0
  rw [show ((N : Int)).toNat = N from rfl] at HR1
  clear HR GOOD hl0
  have HK := Lib.hid hk
  have m3 : w3.cell? ⟨p, 3, none⟩ = some (.int .i64 (N : Int)) := HP3.out.cell 3
  clear hk
  have hLF : (F : Int) ≤ (L : Int) := by have := HZL.out; omega
  rcases Decidable.em (L < F + N) with g1 | g1
  · have g1' : (L : Int) - (F : Int) < (N : Int) := by omega
    have HE := Lib.hid (show R = (.z, ys.length, 4) by rw [HR1.out, if_pos (by have := HYL.out; have := HZL.out; have := HL.out; omega)])
    have HIY := Lib.hid (show i + ys.length = L by have := HYL.out; have := HIL.out; have := HL.out; omega)
    clear g1 HR1
    go_wp2_with fail
    rw [HE.out]
    exact rh_leave HW3.out .z _ _ _ rfl (by dsimp only; rw [HIY.out]; rfl) rfl rfl ⟨rfl, below_put4 B3.out.1 (by rw [HQ.out]; exact Nat.le_refl _) _ _ _ _⟩
  have g1' : ¬ (L : Int) - (F : Int) < (N : Int) := by omega
  have HR2 := Lib.hid HR1.out
  rw [if_neg (by have := HYL.out; have := HZL.out; have := HL.out; omega)] at HR2
  obtain ⟨T, hTT⟩ : ∃ T, F + N = T := ⟨_, rfl⟩
  have hTI : (F : Int) + (N : Int) = (T : Int) := by omega
  have hTL : T ≤ L := by omega
  obtain ⟨zs, hzs⟩ : ∃ zs, (ys.drop z).take N = zs := ⟨_, rfl⟩
  rw [hzs] at HR2
  have hzN : zs.length = T - F := by rw [← hzs, List.length_take, List.length_drop]; have := HYL.out; have := HZL.out; have := HL.out; omega
  have hbz : Byt w3 w3.heap.size (cutAt A c F) zs := by
    have e : zs = (xs.drop F).take N := by rw [← hzs, ← HYS.out, List.drop_drop, HZL.out.2.1]
    rw [e]
    exact (((byt_below HB.out B3.out.1 (Nat.le_refl _)).more B3.out.1.size).drop HC.out).take _
  have HKB := kd_bounds HK.out
  have HWB := Lib.hid (fun x => wrongb_any (World.pad w3 x) k t (by omega) m (cutAt A c F) (c - F) zs ((hbz.grew (grew_pad w3 x) (fun _ e => by cases e)).more (grew_pad w3 x).size) (by have := HC.out; have := HL.out; omega) (by omega))
  have hs2 : ∀ w' : World, (Instr.slice 22 (.slice A L c) (some (.int .i64 (F : Int))) (some (.int .i64 (T : Int))) none).run Tryd.prog w' = .ok (.slice (cutAt A c F) (T - F) (c - F)) w' := fun w' => slice_cut w' A L c F T (by omega) (by have := HC.out; have := HL.out; omega)
  rw [hzN] at HWB
  have HWK := Lib.hid (wb_kd HK.out zs)
  generalize wb k t m zs = E at *
  have y0 := fun x => pad_cell (show w3.cell? ⟨p, 0, none⟩ = some (.int .i64 k) from HP3.out.cell 0) x
  have y1 := fun x => pad_cell (show w3.cell? ⟨p, 1, none⟩ = some (.int .i64 t) from HP3.out.cell 1) x
  have y2 := fun x => pad_cell (show w3.cell? ⟨p, 2, none⟩ = some (.bool m) from HP3.out.cell 2) x
  have y3 := fun x => pad_cell (show w3.cell? ⟨p, 3, none⟩ = some (.int .i64 (N : Int)) from HP3.out.cell 3) x
  have hTb : (T : Int) ≤ 1099511627776 := by omega
  have HCO := Lib.hid (fun x => (HWB.out x).mono (fun e w' h => (⟨h.1, grew_of_below h.2⟩ : e = .returned (.int .i64 E) ∧ Grew (World.pad w3 x) w' none)))
  clear hzN hbz hzs HWB g1 HR1 HKB hTL hTT
  go_upto_region 7 with (fail)
  refine wp_region_pad (by kernel_rfl) (by kernel_rfl) ?_
  repeat (go_big_quiet_step (fail))
  go_big_quiet_step ((go_at_call 46; exact pad_call (HCO.out _)))
  repeat (go_big_quiet_step (fail))
  refine wpQuiet_nil ?_
  rintro _ ⟨xq, rfl⟩
  have HP4 := Lib.hid (HP3.out.grew (grew_pad w3 xq) (by simp))
  have HW4 := Lib.hid (HW3.out.grew (grew_pad w3 xq) (by simp))
  have B4 := Lib.hid (B3.out.1.trans (grew_below (grew_pad w3 xq) B3.out.1.size (fun _ e => by cases e)))
  clear y0 y1 y2 y3 zf zc m3 hs2 HCO HP3 HW3
  generalize World.pad w3 xq = w4 at *
  have zf := HW4.out.frozen
  have zc := fun i => HW4.out.cell i
  have m0 : w4.cell? ⟨p, 0, none⟩ = some (.int .i64 k) := HP4.out.cell 0
  have m1 : w4.cell? ⟨p, 1, none⟩ = some (.int .i64 t) := HP4.out.cell 1
  have m2 : w4.cell? ⟨p, 2, none⟩ = some (.bool m) := HP4.out.cell 2
  have m3 : w4.cell? ⟨p, 3, none⟩ = some (.int .i64 (N : Int)) := HP4.out.cell 3
  rcases (Decidable.em (E = 0)).symm with g2 | g2
  · have g2' : (E != 0) = true := bne_iff_ne.2 g2
    have HE := Lib.hid (show R = (.z, z, 13) by rw [HR2.out, if_pos g2])
    have h13 : E = 13 := by rcases HWK.out with h | h; exact absurd h g2; exact h
    subst h13
    clear g2 HR2
    go_wp2_with fail
    rw [HE.out]
    exact rh_leave HW4.out .z _ _ _ rfl (by first | (dsimp only; rw [HZL.out.2.1]; rfl) | (dsimp only; rw [hFI]; rfl)) rfl rfl ⟨rfl, below_put4 B4.out (by rw [HQ.out]; exact Nat.le_refl _) _ _ _ _⟩
  · have g2' : (E != 0) = false := by rw [g2]; rfl
    have HE := Lib.hid (show R = (⟨k, t, m, (N : Int)⟩, z, 0) by rw [HR2.out, if_neg (fun h => h g2)])
    clear g2 HR2
    go_wp2_with fail
    rw [HE.out]
    exact rh_leave HW4.out ⟨k, t, m, (N : Int)⟩ _ _ _ rfl (by first | (dsimp only; rw [HZL.out.2.1]; rfl) | (dsimp only; rw [hFI]; rfl)) rfl rfl ⟨rfl, below_put4 B4.out (by rw [HQ.out]; exact Nat.le_refl _) _ _ _ _⟩
end Go.Proofs.YtnjnghbonmdbdaaDoor


/- Layer 11: one thing that is read, by the closure: what it leaves; lists that no string holds. -/
namespace Go.Proofs.YtnjnghbonmdbdaaDoor
open Go.RowKit Nd

namespace Nd
/-- Each list that it has lies in a block of its own, whole, of which nothing is frozen. -/
inductive Cl (w : World) : Nd → Prop
  | mk {k t : Int} {m : Bool} {B : Option Addr} {d : Nat} {bs : List UInt8} {A : Option Addr} {c : Nat} {ls : List Nd} (h : 0 < ls.length → ∃ b cs, A = some ⟨b, 0, none⟩ ∧ Whole w b cs 27) (hp : ∀ p ∈ ls, Cl w p) : Cl w (.mk k t m B d bs A c ls)
theorem Cl.parts {w : World} {v : Nd} (h : Cl w v) : ∀ p ∈ v.ls, Cl w p := by
  cases h with
  | mk _ hp => exact hp
theorem Cl.list {w : World} {v : Nd} (h : Cl w v) : 0 < v.ls.length → ∃ b cs, v.A = some ⟨b, 0, none⟩ ∧ Whole w b cs 27 := by
  cases h with
  | mk h _ => exact h
theorem Cl.grew {w w' : World} {v : Nd} (h : Cl w v) (g : Grew w w' none) : Cl w' v := by
  induction h with
  | mk h _ ih => exact .mk (fun h0 => by obtain ⟨b, cs, e, hW⟩ := h h0; exact ⟨b, cs, e, hW.grew g (by simp)⟩) ih
theorem Cl.fr {w w' : World} {F : Nat → Prop} {v : Nd} (h : Cl w v) (g : Fr w w' F) (ho : Off F v) : Cl w' v := by
  induction h with
  | mk h _ ih =>
    cases ho with
    | mk _ h2 h3 => exact .mk (fun h0 => by obtain ⟨b, cs, e, hW⟩ := h h0; exact ⟨b, cs, e, hW.fr g (h2 h0 _ e)⟩) (fun p hp => ih p hp (h3 p hp))
theorem z_cl (w : World) : Cl w .z := .mk (fun h => by simp at h) (fun p hp => by simp at hp)
end Nd

/-- What is left where a thing is read: from place i on. -/
def ThP (w : World) (i : Nat) (R : Rn) (e : Ending) (w' : World) : Prop :=
  ∃ v : Nd, e = .returned (.tuple #[.agg #[.int .i64 v.k, .int .i64 v.t, .bool v.m, .slice v.B v.bs.length v.d, .slice v.A v.ls.length v.c], .int .i64 ((i + R.n : Nat) : Int), .int .i64 R.e]) ∧ v.nf = R.v ∧ (v.In w' ∧ v.Cl w' ∧ v.Off (· < w.heap.size)) ∧ Below w.heap.size w w'
theorem z_off (F : Nat → Prop) : Nd.Off F .z := .mk (fun h => by simp at h) (fun h => by simp at h) (fun p hp => by simp at hp)
theorem ThP.err {w w' : World} {i : Nat} {R : Rn} {E : Int} {n : Nat} (h : R = ⟨E, n, .z⟩) (b : Below w.heap.size w w') : ThP w i R (.returned (.tuple #[.agg #[.int .i64 0, .int .i64 0, .bool false, .slice none 0 0, .slice none 0 0], .int .i64 ((i + n : Nat) : Int), .int .i64 E])) w' := by
  subst h
  exact ⟨.z, rfl, rfl, ⟨z_in _, z_cl _, z_off _⟩, b⟩

/-- The closure leaves with what lies in its result. -/
theorem th_leave {W : World} {q : Nat} {a0 a1 a2 a3 a4 : Value} (h : Whole W q #[a0, a1, a2, a3, a4] 27) (v0 v1 v2 v3 v4 : Value) (a : Act) (x y : Value)
    (h8 : a.tmps.getD 8 undef = .pointer (some ⟨q, 0, none⟩)) (h9 : a.tmps.getD 9 undef = x) (h10 : a.tmps.getD 10 undef = y) (hd : a.defers = []) {E : Ending → World → Prop}
    (hE : E (.returned (.tuple #[.agg #[v0, v1, v2, v3, v4], x, y])) (put5 W q v0 v1 v2 v3 v4)) :
    bodyPost Tryd.prog Tryd.f30 E Exit.ret a (put5 W q v0 v1 v2 v3 v4) := by
  refine bodyPost_ret (results_cell_tmps rfl _ _ q _ _ _ _ h8 (h.put5 _ _ _ _ _) Tryd.underlying27 rfl (by kernel_rfl)) hd ?_
  rw [h9, h10]
  exact hE
theorem th_leave0 {W : World} {q : Nat} {v0 v1 v2 v3 v4 : Value} (h : Whole W q #[v0, v1, v2, v3, v4] 27) (a : Act) (x y : Value)
    (h8 : a.tmps.getD 8 undef = .pointer (some ⟨q, 0, none⟩)) (h9 : a.tmps.getD 9 undef = x) (h10 : a.tmps.getD 10 undef = y) (hd : a.defers = []) {E : Ending → World → Prop}
    (hE : E (.returned (.tuple #[.agg #[v0, v1, v2, v3, v4], x, y])) W) :
    bodyPost Tryd.prog Tryd.f30 E Exit.ret a W := by
  refine bodyPost_ret (results_cell_tmps rfl _ _ q _ _ _ _ h8 h Tryd.underlying27 rfl (by kernel_rfl)) hd ?_
  rw [h9, h10]
  exact hE

theorem OneI.cl {w w3 w4 : World} {q u : Nat} {k t : Int} {vL vL' : Value} {ps : List Nd} (h : OneI w w3 q u k t vL ps) (hc : ∀ p ∈ ps, p.Cl w3) {v : Nd} (hv : v.Cl w3) (ho : v.Off (fun i => i ≤ u ∨ vL.ownBlock = some i)) (hA : AppLeft w3 27 5 vL (ps.length + 1) (flat (ps ++ [v])) vL' w4) :
    ∀ p ∈ ps ++ [v], p.Cl (w4.setCell ⟨u, 4, none⟩ vL') := by
  have f1 : Fr w4 (w4.setCell ⟨u, 4, none⟩ vL') (fun i => i = u) := (Fr.refl w4 (fun i => i = u)).set (.inl rfl) 4 none _
  have f0 : Fr w3 (w4.setCell ⟨u, 4, none⟩ vL') (fun i => i = u ∨ vL.ownBlock = some i) :=
    (Fr.of_grew' hA.2.1 (F := fun i => i = u ∨ vL.ownBlock = some i) (fun i e => .inr e)).trans f1 (fun i _ e => .inl e)
  intro p hp
  have : p.Cl w3 ∧ p.Off (fun i => i ≤ u ∨ vL.ownBlock = some i) := by
    rcases List.mem_append.1 hp with hp | hp
    · exact ⟨hc p hp, h.off p hp⟩
    · rw [List.mem_singleton.1 hp]; exact ⟨hv, ho⟩
  exact this.1.fr f0 (this.2.mono (fun i e => e.elim (fun e => .inl (by omega)) .inr))

/-- 'b[:h]' of any list. -/
theorem slice_upto (w : World) (A : Option Addr) (n c h : Nat) (hh : h ≤ c) :
    (Instr.slice 22 (.slice A n c) none (some (.int .i64 (h : Int))) none).run Tryd.prog w = .ok (.slice A h c) w := by
  rw [run_slice_h w 22 A n c under_bytes .i64 _ (by omega) (by omega), elem_u8, size_of_u8]
  cases A <;> simp [Result.andThen, sliced, Addr.add]

/-- What the closure's two boxes hold. -/
def BoxT (w : World) (P U : Nat) (bv : Value) : Prop :=
  Whole w P #[bv] 22 ∧ Whole w U #[.func (.func 30) #[] #[.pointer (some ⟨P, 0, none⟩), .pointer (some ⟨U, 0, none⟩)]] 63
theorem BoxT.below {n : Nat} {w w' : World} {P U : Nat} {bv : Value} (h : BoxT w P U bv) (b : Below n w w') (hn : w.heap.size ≤ n) : BoxT w' P U bv :=
  ⟨h.1.below b (Nat.lt_of_lt_of_le h.1.lt hn), h.2.below b (Nat.lt_of_lt_of_le h.2.lt hn)⟩

/-- What the closure answers, so many things deep. -/
def ThC (n : Nat) : Prop := ∀ (D : Nat), n + D = 9 → ∀ (w : World) (A : Option Addr) (c : Nat) (xs : List UInt8) (i j P U : Nat), Tb w → Byt w w.heap.size A xs → xs.length ≤ c → xs.length ≤ 1099511627776 → i ≤ j → j ≤ xs.length → BoxT w P U (.slice A xs.length c) →
    Calls Tryd.prog 30 #[.int .i64 (i : Int), .int .i64 (j : Int), .int .i64 (D : Int), .pointer (some ⟨P, 0, none⟩), .pointer (some ⟨U, 0, none⟩)] w (ThP w i (rn n ((xs.drop i).take (j - i))))

set_option maxRecDepth 100000 in
set_option maxHeartbeats 400000 in
theorem th_zero (w : World) (i j P U : Nat) (ys : List UInt8) :
    Calls Tryd.prog 30 #[.int .i64 (i : Int), .int .i64 (j : Int), .int .i64 9, .pointer (some ⟨P, 0, none⟩), .pointer (some ⟨U, 0, none⟩)] w (ThP w i (rn 0 ys)) := by
  have HE := Lib.hid (show rn 0 ys = ⟨14, 0, .z⟩ from rfl)
  generalize rn 0 ys = R at *
  have HW := Whole.new w #[.int .i64 0, .int .i64 0, .bool false, .slice none 0 0, .slice none 0 0] 27
  go_enter Tryd.func30, Tryd.ntmps30
  go_wp2_with fail
  refine th_leave0 HW _ _ _ rfl rfl rfl rfl ?_
  exact ThP.err (n := 0) HE.out ((Below.refl _ w).alloc (Nat.le_refl _) _)
end Go.Proofs.YtnjnghbonmdbdaaDoor


/- Layer 11: one thing that is read, by the closure that is called by itself. -/
namespace Go.Proofs.YtnjnghbonmdbdaaDoor
open Go.RowKit Nd

set_option maxRecDepth 100000 in
set_option maxHeartbeats 1600000 in
theorem th_succ (n : Nat) (ih : ThC n) : ThC (n + 1) := by
  intro D hD w A c xs i j P U hT hb hc hl hij hj hBx
  obtain ⟨ys, hys⟩ : ∃ ys, (xs.drop i).take (j - i) = ys := ⟨_, rfl⟩
  have hyl : ys.length = j - i := by rw [← hys, List.length_take, List.length_drop]; omega
  rw [hys]
  obtain ⟨R, hR⟩ : ∃ R, rn (n + 1) ys = R := ⟨_, rfl⟩
  rw [hR]
  have hR2 := hR.symm
  rw [rn_rh] at hR2
  have HR := Lib.hid hR2
  have HYS := Lib.hid hys
  have HYL := Lib.hid hyl
  have HB := Lib.hid hb
  have HC := Lib.hid hc
  have HIH := Lib.hid ih
  have HTB := Lib.hid hT
  have HBX := Lib.hid hBx
  obtain ⟨L, hL⟩ : ∃ L, xs.length = L := ⟨_, rfl⟩
  have HL := Lib.hid hL
  rw [hL] at hl hj HBX
  have hDI : (D : Int) ≤ 8 := by omega
  have hD0 : (0 : Int) ≤ (D : Int) := by omega
  have hLI : (L : Int) ≤ 1099511627776 := by omega
  have hiI : (i : Int) ≤ 1099511627776 := by omega
  have hjI : (j : Int) ≤ 1099511627776 := by omega
  have HIJ := Lib.hid (And.intro hij hj)
  obtain ⟨q, hq⟩ : ∃ q, w.heap.size = q := ⟨_, rfl⟩
  obtain ⟨w1, hw1⟩ : ∃ w1, w.alloc (.cells #[.int .i64 0, .int .i64 0, .bool false, .slice none 0 0, .slice none 0 0] 27) = w1 := ⟨_, rfl⟩
  have HQ := Lib.hid hq
  have HW1 := Lib.hid (show Whole w1 q #[.int .i64 0, .int .i64 0, .bool false, .slice none 0 0, .slice none 0 0] 27 by rw [← hw1, ← hq]; exact Whole.new _ _ _)
  have B1 := Lib.hid (show Below w.heap.size w w1 ∧ w1.heap.size = q + 1 from ⟨by rw [← hw1]; exact (Below.refl _ w).alloc (Nat.le_refl _) _, by rw [← hw1, World.size_alloc, hq]⟩)
  have p1 : w1.cell? ⟨P, 0, none⟩ = some (.slice A L c) := (HBX.out.below B1.out.1 (Nat.le_refl _)).1.cell 0
  have hs1 : (Instr.slice 22 (.slice A L c) none (some (.int .i64 (j : Int))) none).run Tryd.prog w1 = .ok (.slice A j c) w1 := slice_upto w1 A L c j (by omega)
  have hrd := readhead_any w1 (hT.self B1.out.1) A c (xs.take j) i (((byt_below hb B1.out.1 (Nat.le_refl _)).more B1.out.1.size).take _) (by rw [List.length_take]; omega) (by rw [List.length_take]; omega) (by rw [List.length_take]; omega)
  rw [List.drop_take, hys, show (xs.take j).length = j by rw [List.length_take]; omega] at hrd
  have GOOD := Lib.hid (rh_good ys)
  have HRD := Lib.hid hrd
  obtain ⟨r, hr⟩ : ∃ r, rh ys = r := ⟨_, rfl⟩
  rw [hr] at HRD GOOD HR
  obtain ⟨⟨k, t, m, l⟩, z, e0⟩ := r
  clear hr hb hc hl hij hj hL hys hyl hR hR2 ih hT hBx hrd
  go_enter Tryd.func30, Tryd.ntmps30
  go_wp2_with fail
  refine HRD.out.mono ?_
  change ∀ (e : Ending) (w' : World), e = .returned (.tuple #[.agg #[.int .i64 k, .int .i64 t, .bool m, .int .i64 l], .int .i64 ((i + z : Nat) : Int), .int .i64 e0]) ∧ Below w1.heap.size w1 w' → _
  rintro e w2 ⟨rfl, b2⟩
  have B2 := Lib.hid (show Below w.heap.size w w2 ∧ q + 1 ≤ w2.heap.size from ⟨B1.out.1.trans (b2.mono (by have := B1.out.1.size; omega)), by have := b2.size; have := B1.out.2; omega⟩)
  have HW2 := Lib.hid (HW1.out.below b2 HW1.out.lt)
  clear b2 HRD hs1 p1
  obtain ⟨F, hF⟩ : ∃ F, i + z = F := ⟨_, rfl⟩
  rw [hF]
  have hFb : (F : Int) ≤ 1099511627776 := by have := HYL.out; have := HIJ.out; have := GOOD.out.1; omega
  go_upto_region 4 with (fail)
  obtain ⟨p, hp⟩ : ∃ p, w2.heap.size = p := ⟨_, rfl⟩
  rw [hp]
  obtain ⟨w3, hw3⟩ : ∃ w3, w2.alloc (.cells #[.int .i64 k, .int .i64 t, .bool m, .int .i64 l] 65) = w3 := ⟨_, rfl⟩
  rw [hw3]
  have G3 : Grew w2 w3 none := by rw [← hw3]; exact grew_alloc (grew_refl _ _) _
  have HP3 := Lib.hid (show Whole w3 p #[.int .i64 k, .int .i64 t, .bool m, .int .i64 l] 65 by rw [← hw3, ← hp]; exact Whole.new _ _ _)
  have HW3 := Lib.hid (HW2.out.grew G3 (by simp))
  have B3 := Lib.hid (show Below w.heap.size w w3 ∧ q < p ∧ w3.heap.size = p + 1 from ⟨B2.out.1.trans (grew_below G3 B2.out.1.size (fun _ e => by cases e)), by have := B2.out.2; omega, by rw [← hw3, World.size_alloc, hp]⟩)
  clear G3 hp hw3 HW2 B2 HW1 B1 hw1 hq w2 w1
  have HZ := Lib.hid hF
  clear hF
  have zf := HW3.out.frozen
  have zc := fun i => HW3.out.cell i
  rcases (Decidable.em (e0 = 0)).symm with g0 | g0
  · have g0' : (e0 != 0) = true := bne_iff_ne.2 g0
    have HE := Lib.hid (show R = ⟨e0, z, .z⟩ by rw [HR.out, if_pos g0])
    clear g0 HR
    go_wp2_with fail
    refine th_leave HW3.out _ _ _ _ _ _ (.int .i64 ((i + z : Nat) : Int)) _ rfl (by rw [HZ.out]; rfl) rfl rfl ?_
    exact ThP.err HE.out (below_put5 B3.out.1 (by rw [HQ.out]; exact Nat.le_refl _) _ _ _ _ _)
  subst g0
  have HR1 := Lib.hid HR.out
  rw [if_neg (by simp)] at HR1
  obtain ⟨hk, hl0, hl1, hz2, hzl⟩ := GOOD.out.2 rfl
  obtain ⟨N, rfl⟩ := Int.eq_ofNat_of_zero_le hl0
  rw [show ((N : Int)).toNat = N from rfl] at HR1 hzl
  clear HR GOOD hl0
  have HK := Lib.hid hk
  obtain ⟨T, hTT⟩ : ∃ T, F + N = T := ⟨_, rfl⟩
  have hTI : (F : Int) + (N : Int) = (T : Int) := by omega
  have HT := Lib.hid (show F + N = T ∧ T ≤ j ∧ 2 ≤ z from ⟨hTT, by have := HYL.out; have := HIJ.out; have := HZ.out; omega, hz2⟩)
  have hTb : (T : Int) ≤ 1099511627776 := by have := HIJ.out; have := HT.out; omega
  obtain ⟨zs, hzs⟩ : ∃ zs, (ys.drop z).take N = zs := ⟨_, rfl⟩
  rw [hzs] at HR1
  have HZS := Lib.hid (show (xs.drop F).take (T - F) = zs ∧ zs.length = N by
    have e : (xs.drop F).take (T - F) = zs := by
      rw [← hzs, ← HYS.out, List.drop_take, List.drop_drop, List.take_take, HZ.out, show min N (j - i - z) = T - F by have := HT.out; have := HZ.out; omega]
    refine ⟨e, ?_⟩
    rw [← e, List.length_take, List.length_drop]
    have := HT.out; have := HIJ.out; have := HL.out; omega)
  have m0 : w3.cell? ⟨p, 0, none⟩ = some (.int .i64 k) := HP3.out.cell 0
  have m1 : w3.cell? ⟨p, 1, none⟩ = some (.int .i64 t) := HP3.out.cell 1
  have m2 : w3.cell? ⟨p, 2, none⟩ = some (.bool m) := HP3.out.cell 2
  clear hk hTT hzs hz2 hzl
  go_upto_region 7 with (fail)
  obtain ⟨u, hu⟩ : ∃ u, w3.heap.size = u := ⟨_, rfl⟩
  rw [hu]
  obtain ⟨w4, hw4⟩ : ∃ w4, w3.alloc (.cells #[.int .i64 k, .int .i64 t, .bool m, .slice none 0 0, .slice none 0 0] 27) = w4 := ⟨_, rfl⟩
  rw [hw4]
  have G4 : Grew w3 w4 none := by rw [← hw4]; exact grew_alloc (grew_refl _ _) _
  have HX4 := Lib.hid (show Whole w4 u #[.int .i64 k, .int .i64 t, .bool m, .slice none 0 0, .slice none 0 0] 27 by rw [← hw4, ← hu]; exact Whole.new _ _ _)
  have HP4 := Lib.hid (HP3.out.grew G4 (by simp))
  have HW4 := Lib.hid (HW3.out.grew G4 (by simp))
  have B4 := Lib.hid (show Below w.heap.size w w4 ∧ q < p ∧ p < u ∧ w4.heap.size = u + 1 from ⟨B3.out.1.trans (grew_below G4 B3.out.1.size (fun _ e => by cases e)), B3.out.2.1, by have := B3.out.2.2; omega, by rw [← hw4, World.size_alloc, hu]⟩)
  clear G4 hu hw4 HW3 B3 HP3 m0 m1 m2 zf zc w3
  have HBX4 := Lib.hid (HBX.out.below B4.out.1 (Nat.le_refl _))
  have m2 : w4.cell? ⟨p, 2, none⟩ = some (.bool m) := HP4.out.cell 2
  have m3 : w4.cell? ⟨p, 3, none⟩ = some (.int .i64 (N : Int)) := HP4.out.cell 3
  have HKB := Lib.hid (kd_bounds HK.out)
  cases m with
  | false =>
    have HR3 := Lib.hid HR1.out
    rw [if_pos rfl] at HR3
    clear HR1
    have p4 : w4.cell? ⟨P, 0, none⟩ = some (.slice A L c) := HBX4.out.1.cell 0
    have hs2 : (Instr.slice 22 (.slice A L c) (some (.int .i64 (F : Int))) (some (.int .i64 (T : Int))) none).run Tryd.prog w4 = .ok (.slice (cutAt A c F) (T - F) (c - F)) w4 := slice_cut w4 A L c F T (by have := HT.out; omega) (by have := HT.out; have := HIJ.out; have := HC.out; have := HL.out; omega)
    have hbz : Byt w4 w4.heap.size (cutAt A c F) zs := by
      rw [← HZS.out.1]
      exact ((byt_below HB.out B4.out.1 (Nat.le_refl _)).more B4.out.1.size).drop HC.out |>.take _
    have hcl := dclone_any w4 (cutAt A c F) (c - F) zs hbz (by have := HZS.out.2; omega)
    rw [HZS.out.2, show N = T - F by have := HT.out; omega] at hcl
    have HCL := Lib.hid hcl
    clear hbz hcl
    go_wp2_with fail
    refine HCL.out.mono ?_
    rintro e w5 ⟨v5, rfl, a1⟩
    have A1 := Lib.hid a1
    obtain ⟨A5, d5, rfl, hd5, hb5⟩ := a1.form
    have HB5 := Lib.hid (And.intro hd5 hb5)
    clear hd5 hb5 a1 HCL m2 m3 p4 hs2
    have HX5 := Lib.hid (HX4.out.below A1.out.bel HX4.out.lt)
    have xf := HX5.out.frozen
    have xc := fun i => HX5.out.cell i
    go_upto_region 10 with (fail)
    clear xf xc
    have F6 : Fr w5 (w5.setCell ⟨u, 3, none⟩ (.slice A5 zs.length d5)) (fun i => i = u) := (Fr.refl w5 (fun i => i = u)).set (.inl rfl) 3 none _
    have HX6 := Lib.hid (show Whole (w5.setCell ⟨u, 3, none⟩ (.slice A5 zs.length d5)) u #[.int .i64 k, .int .i64 t, .bool false, .slice A5 zs.length d5, .slice none 0 0] 27 from HX5.out.set 3 _)
    have HW6 := Lib.hid ((HW4.out.below A1.out.bel HW4.out.lt).fr F6 (by have := B4.out; omega))
    have HBY6 := Lib.hid (show ByF (w5.setCell ⟨u, 3, none⟩ (.slice A5 zs.length d5)) (fun i => u < i) A5 zs from ((own_by A1.out.own).mono (fun i hi => (by have := A1.out.blk i hi; have := B4.out.2.2.2; omega : u < i))).fr F6 (fun i hi e => by omega))
    have B6 := Lib.hid (show Below w.heap.size w (w5.setCell ⟨u, 3, none⟩ (.slice A5 zs.length d5)) from (B4.out.1.trans (A1.out.bel.mono B4.out.1.size)).setCell (p := ⟨u, 3, none⟩) (by rw [HQ.out]; have := B4.out; show q ≤ u; omega) _)
    clear F6 HX5 A1 HX4 HW4 HP4
    generalize w5.setCell ⟨u, 3, none⟩ (.slice A5 zs.length d5) = w6 at *
    have HE := Lib.hid (show R = ⟨0, z + N, .mk k t false none 0 zs none 0 []⟩ from HR3.out)
    have zf := HW6.out.frozen
    have zc := fun i => HW6.out.cell i
    have xc := fun i => HX6.out.cell i
    clear HR3
    go_wp2_with fail
    refine th_leave HW6.out _ _ _ _ _ _ (.int .i64 (T : Int)) _ rfl rfl rfl rfl ?_
    refine ⟨.mk k t false A5 d5 zs none 0 [], ?_, by rw [HE.out]; rfl, ⟨.mk (by have := HKB.out; omega) ?_ ⟨HB5.out.1, by have := HZS.out.2; omega⟩ (by simp) (by simp) (Lie.nil _ _) (fun p hp => by simp at hp), .mk (fun h => by simp at h) (fun p hp => by simp at hp), .mk (fun h a e f => ?_) (fun h => by simp at h) (fun p hp => by simp at hp)⟩, below_put5 B6.out (by rw [HQ.out]; exact Nat.le_refl _) _ _ _ _ _⟩
    · rw [HE.out]
      dsimp only
      rw [show i + (z + N) = T by have := HT.out; have := HZ.out; omega]
      rfl
    · exact (HBY6.out.fr (fr_put5 _ _ _ _ _ _ _) (fun i hi e => by have := B4.out; omega)).byt
    · obtain ⟨b, o, e', hbu, _⟩ := HBY6.out h
      rw [e'] at e; cases e; have := B4.out; have := HQ.out; simp at f; omega
  | true =>
    have HR3 := Lib.hid HR1.out
    rw [if_neg (by simp)] at HR3
    clear HR1
    go_upto_region 11 with (fail)
    clear m2 m3
    have HI0 := Lib.hid (show OneI w w4 q u k t (.slice none 0 0) [] from ⟨HW4.out, HX4.out, ⟨rfl, .inl ⟨rfl, rfl⟩⟩, (fun b e => by cases e), (fun p hp => by simp at hp), (fun p hp => by simp at hp), B4.out.1, HQ.out, by have := B4.out; omega, by have := B4.out; omega⟩)
    clear HW4 HX4 B4 HP4 HBX4
    have HS0 := Lib.hid (show lstN (rn n) N [] z zs = lstN (rn n) N (nfs []) (F - i) ((xs.drop F).take (T - F)) by rw [HZS.out.1, show F - i = z by have := HZ.out; omega]; rfl)
    go_loopw [12] (fun at_ wr => ∃ (a : Nat) (ps : List Nd) (vL : Value) (kf : Nat), F ≤ a ∧ a ≤ T ∧ at_ = .int .i64 (a : Int) ∧ Hid (OneI w wr q u k t vL ps ∧ ∀ p ∈ ps, p.Cl wr) ∧ Hid (ps.length ≤ a - F ∧ T - a ≤ kf ∧ lstN (rn n) N [] z zs = lstN (rn n) kf (nfs ps) (a - i) ((xs.drop a).take (T - a)))) (fun at_ _ => T - (intOf at_).toNat)
    case atStart => exact ⟨F, [], .slice none 0 0, N, Nat.le_refl _, by have := HT.out; omega, rfl, Lib.hid ⟨HI0.out, fun p hp => by simp at hp⟩, Lib.hid ⟨Nat.zero_le _, by have := HT.out; omega, HS0.out⟩⟩
    case round =>
      clear HI0 HS0
      obtain ⟨a, ps, vL, kf, hFa, haT, rfl, HI, HS⟩ := hrel
      have haI : (a : Int) ≤ 1099511627776 := by omega
      by_cases hlt : a < T
      · have hltI : (a : Int) < (T : Int) := by omega
        go_upto_region 13 with (fail)
        obtain ⟨g, hg⟩ : ∃ g, wr.heap.size = g := ⟨_, rfl⟩
        rw [hg]
        obtain ⟨w1, hw1⟩ : ∃ w1, wr.alloc (.cells #[.int .i64 0, .int .i64 0, .bool false, .slice none 0 0, .slice none 0 0] 27) = w1 := ⟨_, rfl⟩
        rw [hw1]
        have HG1 := Lib.hid (show Whole w1 g #[.int .i64 0, .int .i64 0, .bool false, .slice none 0 0, .slice none 0 0] 27 by rw [← hw1, ← hg]; exact Whole.new _ _ _)
        have BG := Lib.hid (show Below g wr w1 ∧ w1.heap.size = g + 1 from ⟨by rw [← hw1, ← hg]; exact (Below.refl _ wr).alloc (Nat.le_refl _) _, by rw [← hw1, World.size_alloc, hg]⟩)
        have HGS := Lib.hid hg
        have HUG := Lib.hid (show u < g from by have := HI.out.1.ord.2.2; omega)
        have HOW := Lib.hid (show ∀ i, vL.ownBlock = some i → i < g from fun i e => by have := own_lt HI.out.1.own i e; omega)
        have BW := Lib.hid (HI.out.1.bel.trans (BG.out.1.mono (by rw [← hg]; exact HI.out.1.bel.size)))
        have BX1 := Lib.hid (HBX.out.below BW.out (Nat.le_refl _))
        obtain ⟨r, hr⟩ : ∃ r, rn n ((xs.drop a).take (T - a)) = r := ⟨_, rfl⟩
        have hal : ((xs.drop a).take (T - a)).length = T - a := by rw [List.length_take, List.length_drop]; have := HT.out; have := HIJ.out; have := HL.out; omega
        have HC1 := Lib.hid (HIH.out (D + 1) (by omega) w1 A c xs a T P U (HTB.out.self BW.out) ((byt_below HB.out BW.out (Nat.le_refl _)).more BW.out.size) HC.out (by have := HL.out; omega) (by omega) (by have := HT.out; have := HIJ.out; have := HL.out; omega) (by rw [HL.out]; exact BX1.out))
        rw [hr, show ((D + 1 : Nat) : Int) = (D : Int) + 1 by omega] at HC1
        have HRG := Lib.hid (rn_good n ((xs.drop a).take (T - a)))
        rw [hr, hal] at HRG
        obtain ⟨kg, hkg⟩ : ∃ kg, kf = kg + 1 := ⟨kf - 1, by have := HS.out.2.1; omega⟩
        subst hkg
        have hne : ((xs.drop a).take (T - a)).length ≠ 0 := by rw [hal]; omega
        have hrI : (r.n : Int) ≤ 1099511627776 := by have := HRG.out.1; omega
        have harI : (a : Int) + (r.n : Int) ≤ 1099511627776 := by have := HRG.out.1; have := HT.out; have := HIJ.out; omega
        have u1 : w1.cell? ⟨U, 0, none⟩ = some (.func (.func 30) #[] #[.pointer (some ⟨P, 0, none⟩), .pointer (some ⟨U, 0, none⟩)]) := BX1.out.2.cell 0
        have HHR := Lib.hid hr
        have HNE := Lib.hid hne
        clear hne hr hal HIH hg BX1 hw1
        go_wp2_with fail
        refine HC1.out.mono ?_
        rintro e w2 ⟨v, rfl, hnf, ⟨hvi, hvc, hvo⟩, b2⟩
        have HV := Lib.hid (show v.In w2 ∧ v.Cl w2 ∧ v.nf = r.v ∧ v.Off (· < w1.heap.size) from ⟨hvi, hvc, hnf, hvo⟩)
        have HG2 := Lib.hid (HG1.out.below b2 HG1.out.lt)
        have B2 := Lib.hid (show Below g wr w2 from BG.out.1.trans (b2.mono (by have := BG.out.2; omega)))
        clear b2 HC1 hnf hvi hvc hvo u1 HG1
        have gf := HG2.out.frozen
        have gc := fun i => HG2.out.cell i
        go_upto_region 14 with (fail)
        obtain ⟨w3, hw3⟩ : ∃ w3, put5 w2 g (.int .i64 v.k) (.int .i64 v.t) (.bool v.m) (.slice v.B v.bs.length v.d) (.slice v.A v.ls.length v.c) = w3 := ⟨_, rfl⟩
        have FP := fr_put5 w2 g (.int .i64 v.k) (.int .i64 v.t) (.bool v.m) (.slice v.B v.bs.length v.d) (.slice v.A v.ls.length v.c)
        rw [hw3] at FP
        have HG3 := Lib.hid (show Whole w3 g #[.int .i64 v.k, .int .i64 v.t, .bool v.m, .slice v.B v.bs.length v.d, .slice v.A v.ls.length v.c] 27 by rw [← hw3]; exact HG2.out.put5 _ _ _ _ _)
        have B3 := Lib.hid (show Below g wr w3 by rw [← hw3]; exact below_put5 B2.out (Nat.le_refl _) _ _ _ _ _)
        have GR := Lib.hid (show Grew wr w3 none from grew_of_below (by rw [HGS.out]; exact B3.out))
        have HV3 := Lib.hid (show v.In w3 ∧ v.Cl w3 ∧ v.nf = r.v ∧ v.Off (· < w1.heap.size) from ⟨HV.out.1.fr2 FP (HV.out.2.2.2.mono (fun i e => by have := BG.out.2; omega)), HV.out.2.1.fr FP (HV.out.2.2.2.mono (fun i e => by have := BG.out.2; omega)), HV.out.2.2⟩)
        have HI3 := Lib.hid (HI.out.1.grew GR.out)
        have HCL3 := Lib.hid (show ∀ p ∈ ps, p.Cl w3 from fun p hp => (HI.out.2 p hp).grew GR.out)
        unfold put5 at hw3
        rw [hw3]
        clear hw3 FP gf gc HG2 B2 HV
        have zf := HI3.out.res.frozen
        have zc := fun i => HI3.out.res.cell i
        rcases Decidable.em (r.e = 0) with g3 | g3
        · have HS2 := Lib.hid (lstN_step (g := rn n) (k := kg) (acc := nfs ps) (o := a - i) HNE.out (by rw [HHR.out]; exact g3))
          rw [HHR.out] at HS2
          have HSN := Lib.hid (show ∀ v : Nd, v.nf = r.v → (ps ++ [v]).length ≤ a + r.n - F ∧ T - (a + r.n) ≤ kg ∧ lstN (rn n) N [] z zs = lstN (rn n) kg (nfs (ps ++ [v])) (a + r.n - i) ((xs.drop (a + r.n)).take (T - (a + r.n))) by
            intro v hv
            have h1 := HS.out
            have h2 := HRG.out.2.1 g3
            refine ⟨by rw [List.length_append]; simp; omega, by omega, ?_⟩
            rw [h1.2.2, HS2.out, List.drop_take, List.drop_drop, nfs_append, show nfs [v] = [r.v] by rw [nfs, nfs, hv], show a - i + r.n = a + r.n - i by have := HZ.out; omega, show T - a - r.n = T - (a + r.n) by omega])
          have HRB := Lib.hid (show r.n ≤ T - a ∧ 2 ≤ r.n from ⟨HRG.out.1, HRG.out.2.1 g3⟩)
          have HPN := Lib.hid (show ps.length ≤ 1099511627776 by have := HS.out.1; omega)
          have g3' : (r.e != 0) = false := by rw [g3]; rfl
          clear g3 HS HS2 HRG HHR HNE HI zf zc
          obtain ⟨A6, c6, rfl, hc6, hl6⟩ := Lie.of_own HI3.out.own
          clear hc6 hl6
          have x4 : w3.cell? ⟨u, 4, none⟩ = some (.slice A6 ps.length c6) := HI3.out.box.cell 4
          have y0 : w3.cell? ⟨g, 0, none⟩ = some (.int .i64 v.k) := HG3.out.cell 0
          have y1 : w3.cell? ⟨g, 1, none⟩ = some (.int .i64 v.t) := HG3.out.cell 1
          have y2 : w3.cell? ⟨g, 2, none⟩ = some (.bool v.m) := HG3.out.cell 2
          have y3 : w3.cell? ⟨g, 3, none⟩ = some (.slice v.B v.bs.length v.d) := HG3.out.cell 3
          have y4 : w3.cell? ⟨g, 4, none⟩ = some (.slice v.A v.ls.length v.c) := HG3.out.cell 4
          have HI4 := Lib.hid (HI3.out.grew (grew_alloc (grew_refl w3 none) (.cells #[.int .i64 v.k, .int .i64 v.t, .bool v.m, .slice v.B v.bs.length v.d, .slice v.A v.ls.length v.c] 27)))
          have HV4 := Lib.hid (HV3.out.1.grew (grew_alloc (grew_refl w3 none) (.cells #[.int .i64 v.k, .int .i64 v.t, .bool v.m, .slice v.B v.bs.length v.d, .slice v.A v.ls.length v.c] 27)))
          have HVC4 := Lib.hid (HV3.out.2.1.grew (grew_alloc (grew_refl w3 none) (.cells #[.int .i64 v.k, .int .i64 v.t, .bool v.m, .slice v.B v.bs.length v.d, .slice v.A v.ls.length v.c] 27)))
          have HVO := Lib.hid (show v.Off (fun i => i ≤ u ∨ (Value.slice A6 ps.length c6).ownBlock = some i) from HV3.out.2.2.2.mono (fun i e => e.elim (fun e => by have := HUG.out; have := BG.out; omega) (fun e => by have := HOW.out i e; have := BG.out; omega)))
          have HCL4 := Lib.hid (show ∀ p ∈ ps, p.Cl _ from fun p hp => (HCL3.out p hp).grew (grew_alloc (grew_refl w3 none) (.cells #[.int .i64 v.k, .int .i64 v.t, .bool v.m, .slice v.B v.bs.length v.d, .slice v.A v.ls.length v.c] 27)))
          have HA := Lib.hid (fun ty => append_nodes (w3.alloc (.cells #[.int .i64 v.k, .int .i64 v.t, .bool v.m, .slice v.B v.bs.length v.d, .slice v.A v.ls.length v.c] 27)) ty HI4.out.own (ps := [v]) (Lie.whole (Whole.new _ _ _) rfl) 1 (by have := HPN.out; simp; omega))
          go_upto_region 17 with (at_builtin; refine wpList_append_run _ rfl (.tmp 76) (.tmp 78) 25 rfl rfl rfl HA.out ?_; rintro vN w5 aL; obtain ⟨A7, c7, rfl, hc7, hl7⟩ := Lie.of_own aL.1; clear hc7 hl7; have AL := Lib.hid aL; clear aL HA; have HB4 := Lib.hid (HI4.out.box4 AL.out); have xf := HB4.out.frozen; have xc := fun i => HB4.out.cell i; clear x4 y0 y1 y2 y3 y4)
          have HI5 := Lib.hid (HI4.out.app HV4.out HVO.out AL.out)
          have HC5 := Lib.hid (HI4.out.cl HCL4.out HVC4.out HVO.out AL.out)
          have HSM := Lib.hid (HSN.out v HV3.out.2.2.1)
          rw [show (ps ++ [v]).length = ps.length + 1 by simp] at HI5 HC5
          generalize w5.setCell ⟨u, 4, none⟩ (.slice A7 (ps.length + 1) c7) = w6 at *
          clear xf xc HB4 AL HI4 HV4 HI3 HV3 HG3 HSN HCL4 HVC4 HVO HCL3 B3 GR HUG HOW BG BW HGS
          go_wp2_with fail
          go_roundw
          case rel => exact ⟨a + r.n, ps ++ [v], .slice A7 (ps.length + 1) c7, kg, by omega, by have := HRB.out; omega, by go_num, Lib.hid ⟨HI5.out, HC5.out⟩, HSM⟩
          case measure => have := HRB.out; simp [intOf]; omega
        · have HS2 := Lib.hid (lstN_stop (g := rn n) (k := kg) (acc := nfs ps) (o := a - i) HNE.out (by rw [HHR.out]; exact g3))
          rw [HHR.out] at HS2
          have HE := Lib.hid (show R = ⟨r.e, a - i + r.n, .z⟩ by rw [HR3.out, HS.out.2.2, HS2.out]; dsimp only; rw [if_neg g3])
          have HPL := Lib.hid (show i + (a - i + r.n) = a + r.n by have := HZ.out; omega)
          have g3' : (r.e != 0) = true := bne_iff_ne.2 g3
          clear g3 HS HS2 HRG HNE
          go_wp2_with fail
          refine th_leave HI3.out.res _ _ _ _ _ _ (.int .i64 ((i + (a - i + r.n) : Nat) : Int)) _ rfl (by rw [HPL.out]; rfl) rfl rfl ?_
          exact ThP.err HE.out (below_put5 HI3.out.bel (by rw [HQ.out]; exact Nat.le_refl _) _ _ _ _ _)
      · obtain rfl : a = T := by omega
        have HE := Lib.hid (show R = ⟨0, z + N, .mk k t true none 0 [] none 0 (nfs ps)⟩ by rw [HR3.out, HS.out.2.2, Nat.sub_self, List.take_zero, lstN_end]; rfl)
        have HPN := Lib.hid (show ps.length ≤ 1099511627776 by have := HS.out.1; omega)
        obtain ⟨A6, c6, rfl, hc6, hl6⟩ := Lie.of_own HI.out.1.own
        have HL6 := Lib.hid (And.intro hc6 hl6)
        clear hc6 hl6 HS HR3
        have zf := HI.out.1.res.frozen
        have zc := fun i => HI.out.1.res.cell i
        have xc := fun i => HI.out.1.box.cell i
        go_wp2_with fail
        refine th_leave HI.out.1.res _ _ _ _ _ _ (.int .i64 (a : Int)) _ rfl rfl rfl rfl ?_
        have FQ := fr_put5 wr q (.int .i64 k) (.int .i64 t) (.bool true) (.slice none 0 0) (.slice A6 ps.length c6)
        refine ⟨.mk k t true none 0 [] A6 c6 ps, ?_, by rw [HE.out]; rfl, ⟨.mk (by have := HKB.out; omega) (fun h => by simp at h) (by simp) HL6.out.1 (by have := HPN.out; omega) ?_ ?_, .mk (fun h0 => ?_) (fun p hp => ?_), .mk (fun h => by simp at h) (fun _ b e => ?_) (fun p hp => ?_)⟩, below_put5 HI.out.1.bel (by rw [HQ.out]; exact Nat.le_refl _) _ _ _ _ _⟩
        · rw [HE.out]
          dsimp only
          rw [show i + (z + N) = a by have := HT.out; have := HZ.out; omega]
          rfl
        · refine HL6.out.2.fr FQ (fun b e => ?_)
          have := HI.out.1.ups b.block (by rw [e]; simp [Value.ownBlock])
          have := HI.out.1.ord
          omega
        · intro p hp
          exact (HI.out.1.ins p hp).fr2 FQ ((HI.out.1.off p hp).mono (fun i e => .inl (by have := HI.out.1.ord; omega)))
        · rcases HI.out.1.own.2 with ⟨h1, h2⟩ | ⟨b, cap, cur, h1, _, hh, _⟩
          · omega
          · injection h1 with h1 _ _
            refine ⟨b, cur, h1, ?_⟩
            have hW : Whole wr b cur 27 := hh
            refine hW.fr FQ (fun e => ?_)
            have := HI.out.1.ups b (by rw [h1]; simp [Value.ownBlock])
            have := HI.out.1.ord
            omega
        · exact (HI.out.2 p hp).fr FQ ((HI.out.1.off p hp).mono (fun i e => .inl (by have := HI.out.1.ord; omega)))
        · have := HI.out.1.ups b.block (by rw [e]; simp [Value.ownBlock])
          have := HI.out.1.ord
          omega
        · exact (HI.out.1.off p hp).mono (fun i e => .inl (by have := HI.out.1.ord; omega))
theorem th_any : ∀ n : Nat, ThC n
  | 0 => fun D hD w A c xs i j P U _ _ _ _ _ _ _ => by
    obtain rfl : D = 9 := by omega
    exact th_zero w i j P U _
  | n + 1 => th_succ n (th_any n)
end Go.Proofs.YtnjnghbonmdbdaaDoor

