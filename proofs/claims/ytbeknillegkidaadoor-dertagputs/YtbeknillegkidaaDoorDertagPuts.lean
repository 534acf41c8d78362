/- Of any head the bytes are the document's, or why there are none; whether there is such a thing: for every head the law returns true, and it reads as it did. Condition: the table of the package holds what the program's own text lays there (the card). -/
import Derived.Test.YtbeknillegkidaaDoorLw9
import Derived.Test.YtbeknillegkidaaDoorOh
namespace Go.Proofs.YtbeknillegkidaaDoor
open Go.ChangeShapes Go.WideShapes Go.ChangeAt Go.RowKit

theorem enter_rput : ∀ args w, (callFunc 15 args).run Tryd.prog w = .ok (.enter 15 args) w := fun _ _ => by kernel_rfl
section
variable {ρ : Operand → Value} {o : Oper}
theorem run_convS {x : Operand} {A : Option Addr} {n c : Nat} {xs : List UInt8} (ho : o.op = .convert 22 9 x) (hx : ρ x = .slice A n c) {w : World} {B : Nat} (h : Byt w B A xs) (hn : n = xs.length) : (execOp ρ o).run Tryd.prog w = .ok (.value (.string (txt xs))) w := by
  have := conv_txt (P := Tryd.prog) w Tryd.underlying22 Tryd.underlying5 Tryd.underlying9 h hn c
  simp [execOp, ho, hx, this]
theorem run_eqlS {t u : TypeId} {x y : Operand} {s : ByteArray} (ho : o.op = .binOp .eql t x y u) (hx : ρ x = .string s) (hy : ρ y = .string s) (w : World) : (execOp ρ o).run Tryd.prog w = .ok (.value (.bool true)) w := by
  simp [execOp, ho, hx, hy, go_sem]
end

set_option maxRecDepth 100000 in
set_option maxHeartbeats 4000000 in
theorem dertagPuts_walk (w : World) (h : Hd) (_ : (Lit.int .i64 h.l).wf = true) (hL : laidMetH Tryd.prog laidList w) :
    Calls Tryd.prog 4 #[h.agg] w fun e w' => e = .returned (.bool true) ∧ Below w.heap.size w w' := by
  have HT := Lib.hid (tb_of_laid hL)
  clear hL
  obtain ⟨q, hq⟩ : ∃ q, w.heap.size = q := ⟨_, rfl⟩
  have hq0 : 0 < q := by rw [← hq]; exact HT.out.lt
  cases hkd : kd h.c h.t h.m with
  | false =>
    have hp := fun W (hW : Tb W) => put_no W hW h hkd
    have hk := fun W (hW : Tb W) => kind_any W hW h.c h.t h.m
    have hr := fun W => rkind_any W h.c h.t h.m
    rw [hkd] at hr hk
    obtain ⟨c, t, m, l⟩ := h
    have hbox := Whole.new w #[.int .i64 c, .int .i64 t, .bool m, .int .i64 l] 24
    have b0 : Below q w (w.alloc (.cells #[.int .i64 c, .int .i64 t, .bool m, .int .i64 l] 24)) := by rw [← hq]; exact (Below.refl _ w).alloc (Nat.le_refl _) _
    have s0 : q < (w.alloc (.cells #[.int .i64 c, .int .i64 t, .bool m, .int .i64 l] 24)).heap.size := by rw [World.size_alloc]; omega
    dsimp only [Hd.agg] at hp hk hr ⊢
    rw [hq] at hbox ⊢
    have HP := Lib.hid hp
    have HK := Lib.hid hk
    have HR := Lib.hid hr
    have HBOX := Lib.hid hbox
    have B0 := Lib.hid (And.intro b0 s0)
    clear hp hk hr hkd hbox b0 s0
    go_enter Tryd.func4, Tryd.ntmps4
    go_wp2_with fail
    generalize w.alloc (.cells #[.int .i64 c, .int .i64 t, .bool m, .int .i64 l] 24) = W0 at *
    refine (HP.out W0 (HT.out.below B0.out.1 hq0)).mono ?_
    rintro e w1 ⟨rfl, hB1⟩
    have HBOX1 := Lib.hid (whole_below HBOX.out hB1 HBOX.out.lt)
    have B1 := Lib.hid (show Below q w w1 ∧ q < w1.heap.size from ⟨B0.out.1.trans (hB1.mono (Nat.le_of_lt B0.out.2)), Nat.lt_of_lt_of_le B0.out.2 hB1.size⟩)
    obtain ⟨c0, c1, c2, c3⟩ := whole_head HBOX1.out
    clear hB1 HBOX B0 HP
    go_wp2_with fail
    refine (HR.out w1).mono ?_
    rintro e w2 ⟨rfl, rfl⟩
    clear c0 c1 c2 c3
    go_wp2_with fail
    refine (alive9_any w2 (HT.out.below B1.out.1 hq0)).mono ?_
    rintro e w3 ⟨rfl, hB3⟩
    have HBOX3 := Lib.hid (whole_below HBOX1.out hB3 HBOX1.out.lt)
    have B3 := Lib.hid (show Below q w w3 ∧ q < w3.heap.size from ⟨B1.out.1.trans (hB3.mono (Nat.le_of_lt B1.out.2)), Nat.lt_of_lt_of_le B1.out.2 hB3.size⟩)
    obtain ⟨c0, c1, c2, c3⟩ := whole_head HBOX3.out
    clear hB3 HBOX1 B1 HR
    go_wp2_with fail
    refine (HK.out w3 (HT.out.below B3.out.1 hq0)).mono ?_
    rintro e w4 ⟨rfl, hB4⟩
    have HBOX4 := Lib.hid (whole_below HBOX3.out hB4 HBOX3.out.lt)
    have B4 := Lib.hid (show Below q w w4 ∧ q < w4.heap.size from ⟨B3.out.1.trans (hB4.mono (Nat.le_of_lt B3.out.2)), Nat.lt_of_lt_of_le B3.out.2 hB4.size⟩)
    clear c0 c1 c2 c3 hB4 B3 HBOX3
    obtain ⟨c0, c1, c2, c3⟩ := whole_head HBOX4.out
    go_wp2_with fail
    refine (HK.out w4 (HT.out.below B4.out.1 hq0)).mono ?_
    rintro e w5 ⟨rfl, hB5⟩
    have B5 := Lib.hid (B4.out.1.trans (hB5.mono (Nat.le_of_lt B4.out.2)))
    clear c0 c1 c2 c3 hB5 B4 HBOX4
    go_wp2_with fail
    go_ret
    exact ⟨rfl, B5.out⟩
  | true =>
    have hp := fun W (hW : Tb W) => put_yes W hW h hkd
    have hk := fun W (hW : Tb W) => kind_any W hW h.c h.t h.m
    have hr := fun W => rkind_any W h.c h.t h.m
    have hrp := fun W (h0 : 0 ≤ h.l) (h1 : h.l ≤ 16777215) => rput_any W h hkd h0 h1
    rw [hkd] at hr hk
    obtain ⟨ys, hys⟩ : ∃ ys, putH h = ys := ⟨_, rfl⟩
    have hy0 : 0 < ys.length := by rw [← hys]; simp [putH]
    have HY0 := Lib.hid hy0
    rw [hys] at hp hrp
    clear hys hy0
    obtain ⟨c, t, m, l⟩ := h
    have hbox := Whole.new w #[.int .i64 c, .int .i64 t, .bool m, .int .i64 l] 24
    have b0 : Below q w (w.alloc (.cells #[.int .i64 c, .int .i64 t, .bool m, .int .i64 l] 24)) := by rw [← hq]; exact (Below.refl _ w).alloc (Nat.le_refl _) _
    have s0 : q < (w.alloc (.cells #[.int .i64 c, .int .i64 t, .bool m, .int .i64 l] 24)).heap.size := by rw [World.size_alloc]; omega
    dsimp only [Hd.agg] at hp hk hr hrp ⊢
    rw [hq] at hbox ⊢
    have HP := Lib.hid hp
    have HK := Lib.hid hk
    have HR := Lib.hid hr
    have HRP := Lib.hid hrp
    have HBOX := Lib.hid hbox
    have B0 := Lib.hid (And.intro b0 s0)
    clear hp hk hr hrp hkd hbox b0 s0
    go_enter Tryd.func4, Tryd.ntmps4
    go_wp2_with fail
    generalize w.alloc (.cells #[.int .i64 c, .int .i64 t, .bool m, .int .i64 l] 24) = W0 at *
    refine (HP.out W0 (HT.out.below B0.out.1 hq0)).mono ?_
    rintro e w1 ⟨hor, hB1⟩
    have HBOX1 := Lib.hid (whole_below HBOX.out hB1 HBOX.out.lt)
    have B1 := Lib.hid (show Below q w w1 ∧ q < w1.heap.size from ⟨B0.out.1.trans (hB1.mono (Nat.le_of_lt B0.out.2)), Nat.lt_of_lt_of_le B0.out.2 hB1.size⟩)
    obtain ⟨c0, c1, c2, c3⟩ := whole_head HBOX1.out
    clear hB1 HBOX B0 HP
    rcases hor with ⟨hbad, rfl⟩ | ⟨⟨g0, g1⟩, v, rfl, own, -⟩
    · have g : l < 0 ∨ 16777215 < l := by omega
      clear hbad
      go_wp2_with fail
      refine (HR.out w1).mono ?_
      rintro e w2 ⟨rfl, rfl⟩
      clear c0 c1 c2 c3
      go_wp2_with fail
      refine (alive9_any w2 (HT.out.below B1.out.1 hq0)).mono ?_
      rintro e w3 ⟨rfl, hB3⟩
      have HBOX3 := Lib.hid (whole_below HBOX1.out hB3 HBOX1.out.lt)
      have B3 := Lib.hid (show Below q w w3 ∧ q < w3.heap.size from ⟨B1.out.1.trans (hB3.mono (Nat.le_of_lt B1.out.2)), Nat.lt_of_lt_of_le B1.out.2 hB3.size⟩)
      obtain ⟨c0, c1, c2, c3⟩ := whole_head HBOX3.out
      clear hB3 HBOX1 B1 HR
      go_wp2_with fail
      refine (HK.out w3 (HT.out.below B3.out.1 hq0)).mono ?_
      rintro e w4 ⟨rfl, hB4⟩
      have HBOX4 := Lib.hid (whole_below HBOX3.out hB4 HBOX3.out.lt)
      have B4 := Lib.hid (show Below q w w4 ∧ q < w4.heap.size from ⟨B3.out.1.trans (hB4.mono (Nat.le_of_lt B3.out.2)), Nat.lt_of_lt_of_le B3.out.2 hB4.size⟩)
      clear c0 c1 c2 c3 hB4 B3 HBOX3
      obtain ⟨c0, c1, c2, c3⟩ := whole_head HBOX4.out
      by_cases g0 : l < 0
      · go_wp2_with fail
        go_ret
        exact ⟨rfl, B4.out.1⟩
      · have g1 : 16777215 < l := by omega
        go_wp2_with fail
        go_ret
        exact ⟨rfl, B4.out.1⟩
    · obtain ⟨bo, cap, rfl, -, -⟩ := own_slice own HY0.out
      obtain ⟨N, hN⟩ : ∃ N, ys.length = N := ⟨_, rfl⟩
      have hby0 := (own_by own).byt
      rw [hN]
      have HBY := Lib.hid hby0
      have HNN := Lib.hid hN
      clear own hby0 hN
      go_wp2_with fail
      refine (HR.out w1).mono ?_
      rintro e w2 ⟨rfl, rfl⟩
      clear c0 c1 c2 c3
      go_wp2_with fail
      refine (alive9_any w2 (HT.out.below B1.out.1 hq0)).mono ?_
      rintro e w3 ⟨rfl, hB3⟩
      have HBOX3 := Lib.hid (whole_below HBOX1.out hB3 HBOX1.out.lt)
      have B3 := Lib.hid (show Below q w w3 ∧ q < w3.heap.size from ⟨B1.out.1.trans (hB3.mono (Nat.le_of_lt B1.out.2)), Nat.lt_of_lt_of_le B1.out.2 hB3.size⟩)
      have HBY3 := Lib.hid ((byt_below HBY.out hB3 (Nat.le_refl _)).more (B' := w3.heap.size) hB3.size)
      obtain ⟨c0, c1, c2, c3⟩ := whole_head HBOX3.out
      clear hB3 HBOX1 B1 HR
      go_wp2_with fail
      refine (HK.out w3 (HT.out.below B3.out.1 hq0)).mono ?_
      rintro e w4 ⟨rfl, hB4⟩
      have HBOX4 := Lib.hid (whole_below HBOX3.out hB4 HBOX3.out.lt)
      have B4 := Lib.hid (show Below q w w4 ∧ q < w4.heap.size from ⟨B3.out.1.trans (hB4.mono (Nat.le_of_lt B3.out.2)), Nat.lt_of_lt_of_le B3.out.2 hB4.size⟩)
      have HBY4 := Lib.hid ((byt_below HBY3.out hB4 (Nat.le_refl _)).more (B' := w4.heap.size) hB4.size)
      clear c0 c1 c2 c3 hB4 B3 HBOX3
      obtain ⟨c0, c1, c2, c3⟩ := whole_head HBOX4.out
      have g0' : ¬ l < 0 := by omega
      have g1' : ¬ 16777215 < l := by omega
      go_upto_region 9 with (fail)
      clear c0 c1 c2 c3
      have GS := Lib.hid (show (fun w' => Whole w' q #[.int .i64 c, .int .i64 t, .bool m, .int .i64 l] 24 ∧ Byt w' w4.heap.size (some ⟨bo, 0, none⟩) ys) w4.drew from ⟨HBOX4.out, HBY4.out⟩)
      have BD := Lib.hid (show Below q w w4.drew from B4.out.1.drew)
      have XD := Lib.hid (show q < w4.drew.heap.size from B4.out.2)
      have XE := Lib.hid (show w4.heap.size = w4.drew.heap.size from rfl)
      clear HBOX4 B4 HBY4
      refine act_letterC (fun A1 hA1 => ?_)
      have d1 : A1.eval (.tmp 1) = .pointer (some ⟨q, 0, none⟩) := by rw [← hA1]; rfl
      have d3 : A1.eval (.tmp 3) = .slice (some ⟨bo, 0, none⟩) N cap := by rw [← hA1]; rfl
      have d4 : A1.eval (.tmp 4) = .int .i64 0 := by rw [← hA1]; rfl
      have szA1 : A1.tmps.size = 76 := by rw [← hA1]; rfl
      have HA1 := Lib.hid hA1
      clear hA1
      refine wp_region_held (S := fun w' => Whole w' q #[.int .i64 c, .int .i64 t, .bool m, .int .i64 l] 24 ∧ Byt w' w4.heap.size (some ⟨bo, 0, none⟩) ys) (by kernel_rfl) ?_
      change wpAnyH _ _ _ _ _ _ _ _ (World.drew w4)
      refine wpAnyH_take (i := 0) (v := .int .i64 0) rfl (by kernel_rfl) (by kernel_rfl) (by kernel_rfl) (fun _ _ _ h => h) (.inl ⟨rfl, fun w g => run_moveV rfl d4 w⟩) GS.out ?_
      refine act_letter (fun A2 hA2 => ?_)
      replace d1 : A2.eval (.tmp 1) = .pointer (some ⟨q, 0, none⟩) := by rw [← hA2]; exact (ev_ne A1 (m := 66) (n := 1) (.int .i64 0) (by decide)).trans d1
      replace d3 : A2.eval (.tmp 3) = .slice (some ⟨bo, 0, none⟩) N cap := by rw [← hA2]; exact (ev_ne A1 (m := 66) (n := 3) (.int .i64 0) (by decide)).trans d3
      have e66 : A2.eval (.tmp 66) = .int .i64 0 := by rw [← hA2]; exact ev_self A1 66 (.int .i64 0) (by omega)
      have szA2 : A2.tmps.size = 76 := by rw [← hA2]; exact (sz_put A1 66 (.int .i64 0)).trans szA1
      have HA2 := Lib.hid (show A1.put (some 66) (.int .i64 0) = A2 from hA2)
      clear hA2 szA1 d4
      have d66 := e66
      clear e66
      refine wpAnyH_take (i := 1) (v := .bool true) rfl (by kernel_rfl) (by kernel_rfl) (by kernel_rfl) (fun _ _ _ h => h) (.inl ⟨rfl, fun w g => run_eql (y := .const (.int .i64 0)) (a := 0) (b := 0) rfl d66 rfl w⟩) GS.out ?_
      refine act_letter (fun A3 hA3 => ?_)
      replace d1 : A3.eval (.tmp 1) = .pointer (some ⟨q, 0, none⟩) := by rw [← hA3]; exact (ev_ne A2 (m := 67) (n := 1) (.bool true) (by decide)).trans d1
      replace d3 : A3.eval (.tmp 3) = .slice (some ⟨bo, 0, none⟩) N cap := by rw [← hA3]; exact (ev_ne A2 (m := 67) (n := 3) (.bool true) (by decide)).trans d3
      have e67 : A3.eval (.tmp 67) = .bool true := by rw [← hA3]; exact ev_self A2 67 (.bool true) (by omega)
      have szA3 : A3.tmps.size = 76 := by rw [← hA3]; exact (sz_put A2 67 (.bool true)).trans szA2
      have HA3 := Lib.hid (show A2.put (some 67) (.bool true) = A3 from hA3)
      clear hA3 szA2 d66
      have d67 := e67
      clear e67
      refine wpAnyH_take (i := 2) (v := .bool true) rfl (by kernel_rfl) (by kernel_rfl) (by kernel_rfl) (fun _ _ _ h => h) (.inl ⟨rfl, fun w g => run_moveV rfl d67 w⟩) GS.out ?_
      refine act_letter (fun A4 hA4 => ?_)
      replace d1 : A4.eval (.tmp 1) = .pointer (some ⟨q, 0, none⟩) := by rw [← hA4]; exact (ev_ne A3 (m := 68) (n := 1) (.bool true) (by decide)).trans d1
      replace d3 : A4.eval (.tmp 3) = .slice (some ⟨bo, 0, none⟩) N cap := by rw [← hA4]; exact (ev_ne A3 (m := 68) (n := 3) (.bool true) (by decide)).trans d3
      have e68 : A4.eval (.tmp 68) = .bool true := by rw [← hA4]; exact ev_self A3 68 (.bool true) (by omega)
      have szA4 : A4.tmps.size = 76 := by rw [← hA4]; exact (sz_put A3 68 (.bool true)).trans szA3
      have HA4 := Lib.hid (show A3.put (some 68) (.bool true) = A4 from hA4)
      clear hA4 szA3 d67
      have d68 := e68
      clear e68
      refine wpAnyH_take (i := 3) (v := .slice (some ⟨bo, 0, none⟩) N cap) rfl (by kernel_rfl) (by kernel_rfl) (by kernel_rfl) (fun _ _ _ h => h) (.inl ⟨wanted_yes (j := 2) (d := 68) rfl rfl d68, fun w g => run_moveV rfl d3 w⟩) GS.out ?_
      refine act_letter (fun A5 hA5 => ?_)
      replace d1 : A5.eval (.tmp 1) = .pointer (some ⟨q, 0, none⟩) := by rw [← hA5]; exact (ev_ne A4 (m := 69) (n := 1) (.slice (some ⟨bo, 0, none⟩) N cap) (by decide)).trans d1
      replace d68 : A5.eval (.tmp 68) = .bool true := by rw [← hA5]; exact (ev_ne A4 (m := 69) (n := 68) (.slice (some ⟨bo, 0, none⟩) N cap) (by decide)).trans d68
      have e69 : A5.eval (.tmp 69) = .slice (some ⟨bo, 0, none⟩) N cap := by rw [← hA5]; exact ev_self A4 69 (.slice (some ⟨bo, 0, none⟩) N cap) (by omega)
      have szA5 : A5.tmps.size = 76 := by rw [← hA5]; exact (sz_put A4 69 (.slice (some ⟨bo, 0, none⟩) N cap)).trans szA4
      have HA5 := Lib.hid (show A4.put (some 69) (.slice (some ⟨bo, 0, none⟩) N cap) = A5 from hA5)
      clear hA5 szA4 d3
      have d69 := e69
      clear e69
      refine wpAnyH_take (i := 4) (v := .string (txt ys)) rfl (by kernel_rfl) (by kernel_rfl) (by kernel_rfl) (fun _ _ _ h => h) (.inl ⟨wanted_yes (j := 2) (d := 68) rfl rfl d68, fun w g => run_convS rfl d69 g.2 HNN.out.symm⟩) GS.out ?_
      refine act_letter (fun A6 hA6 => ?_)
      replace d1 : A6.eval (.tmp 1) = .pointer (some ⟨q, 0, none⟩) := by rw [← hA6]; exact (ev_ne A5 (m := 70) (n := 1) (.string (txt ys)) (by decide)).trans d1
      replace d68 : A6.eval (.tmp 68) = .bool true := by rw [← hA6]; exact (ev_ne A5 (m := 70) (n := 68) (.string (txt ys)) (by decide)).trans d68
      have e70 : A6.eval (.tmp 70) = .string (txt ys) := by rw [← hA6]; exact ev_self A5 70 (.string (txt ys)) (by omega)
      have szA6 : A6.tmps.size = 76 := by rw [← hA6]; exact (sz_put A5 70 (.string (txt ys))).trans szA5
      have HA6 := Lib.hid (show A5.put (some 70) (.string (txt ys)) = A6 from hA6)
      clear hA6 szA5 d69
      have d70 := e70
      clear e70
      refine wpAnyH_take (i := 5) (v := .agg #[.int .i64 c, .int .i64 t, .bool m, .int .i64 l]) rfl (by kernel_rfl) (by kernel_rfl) (by kernel_rfl) (fun _ _ _ h => h) (.inl ⟨wanted_yes (j := 2) (d := 68) rfl rfl d68, fun w g => run_ldRow rfl d1 (head_load g.1)⟩) GS.out ?_
      refine act_letter (fun A7 hA7 => ?_)
      replace d68 : A7.eval (.tmp 68) = .bool true := by rw [← hA7]; exact (ev_ne A6 (m := 71) (n := 68) (.agg #[.int .i64 c, .int .i64 t, .bool m, .int .i64 l]) (by decide)).trans d68
      replace d70 : A7.eval (.tmp 70) = .string (txt ys) := by rw [← hA7]; exact (ev_ne A6 (m := 71) (n := 70) (.agg #[.int .i64 c, .int .i64 t, .bool m, .int .i64 l]) (by decide)).trans d70
      have e71 : A7.eval (.tmp 71) = .agg #[.int .i64 c, .int .i64 t, .bool m, .int .i64 l] := by rw [← hA7]; exact ev_self A6 71 (.agg #[.int .i64 c, .int .i64 t, .bool m, .int .i64 l]) (by omega)
      have szA7 : A7.tmps.size = 76 := by rw [← hA7]; exact (sz_put A6 71 (.agg #[.int .i64 c, .int .i64 t, .bool m, .int .i64 l])).trans szA6
      have HA7 := Lib.hid (show A6.put (some 71) (.agg #[.int .i64 c, .int .i64 t, .bool m, .int .i64 l]) = A7 from hA7)
      clear hA7 szA6 d1
      have d71 := e71
      clear e71
      refine wpAnyH_ready (rs := [6]) (by kernel_rfl) (by simp) ?_
      refine AllReadyH.cons rfl (fun K hK => ?_) AllReadyH.nil
      refine wp_callG rfl (wanted_yes (j := 2) (d := 68) rfl rfl d68) enter_rput (vs := #[.agg #[.int .i64 c, .int .i64 t, .bool m, .int .i64 l]]) (by simp [d71]) ((HRP.out w4.drew g0 g1).mono ?_)
      rintro e x1 ⟨v2, rfl, own1, hB1, -⟩
      refine ⟨_, rfl, hK.out _ _ (⟨whole_below GS.out.1 hB1 GS.out.1.lt, byt_below GS.out.2 hB1 (by rw [XE.out]; exact Nat.le_refl _)⟩) (fun _ => ?_)⟩
      clear hK K
      have S1 := Lib.hid (show (fun w' => Whole w' q #[.int .i64 c, .int .i64 t, .bool m, .int .i64 l] 24 ∧ Byt w' w4.heap.size (some ⟨bo, 0, none⟩) ys) x1 from ⟨whole_below GS.out.1 hB1 GS.out.1.lt, byt_below GS.out.2 hB1 (by rw [XE.out]; exact Nat.le_refl _)⟩)
      have B5 := Lib.hid (BD.out.trans (hB1.mono (Nat.le_of_lt XD.out)))
      have OW := Lib.hid own1
      clear hB1 own1
      clear GS
      refine act_letter (fun A8 hA8 => ?_)
      replace d68 : A8.eval (.tmp 68) = .bool true := by rw [← hA8]; exact (ev_ne A7 (m := 72) (n := 68) (v2) (by decide)).trans d68
      replace d70 : A8.eval (.tmp 70) = .string (txt ys) := by rw [← hA8]; exact (ev_ne A7 (m := 72) (n := 70) (v2) (by decide)).trans d70
      have e72 : A8.eval (.tmp 72) = v2 := by rw [← hA8]; exact ev_self A7 72 (v2) (by omega)
      have szA8 : A8.tmps.size = 76 := by rw [← hA8]; exact (sz_put A7 72 (v2)).trans szA7
      have HA8 := Lib.hid (show A7.put (some 72) (v2) = A8 from hA8)
      clear hA8 szA7 d71
      have d72 := e72
      clear e72
      obtain ⟨b2, cap2, hv2, -, -⟩ := own_slice OW.out HY0.out
      have HB2 := Lib.hid (show Byt x1 x1.heap.size (some ⟨b2, 0, none⟩) ys from by have := OW.out; rw [hv2] at this; exact (own_by this).byt)
      have HV2 := Lib.hid hv2
      clear hv2
      refine wpAnyH_ready (rs := [7]) (by kernel_rfl) (by simp) ?_
      refine AllReadyH.cons rfl (fun K hK => ?_) AllReadyH.nil
      refine wp_runG (wanted_yes (j := 2) (d := 68) rfl rfl d68) (w' := x1) (run_convS rfl (d72.trans HV2.out) HB2.out rfl) (hK.out _ _ (S1.out) (fun _ => ?_))
      clear hK K
      have S2 := Lib.hid (show (fun w' => Whole w' q #[.int .i64 c, .int .i64 t, .bool m, .int .i64 l] 24 ∧ Byt w' w4.heap.size (some ⟨bo, 0, none⟩) ys) (x1) from S1.out)
      clear S1
      refine act_letter (fun A9 hA9 => ?_)
      replace d68 : A9.eval (.tmp 68) = .bool true := by rw [← hA9]; exact (ev_ne A8 (m := 73) (n := 68) (.string (txt ys)) (by decide)).trans d68
      replace d70 : A9.eval (.tmp 70) = .string (txt ys) := by rw [← hA9]; exact (ev_ne A8 (m := 73) (n := 70) (.string (txt ys)) (by decide)).trans d70
      have e73 : A9.eval (.tmp 73) = .string (txt ys) := by rw [← hA9]; exact ev_self A8 73 (.string (txt ys)) (by omega)
      have szA9 : A9.tmps.size = 76 := by rw [← hA9]; exact (sz_put A8 73 (.string (txt ys))).trans szA8
      have HA9 := Lib.hid (show A8.put (some 73) (.string (txt ys)) = A9 from hA9)
      clear hA9 szA8 d72
      have d73 := e73
      clear e73
      refine wpAnyH_take (i := 8) (v := .bool true) rfl (by kernel_rfl) (by kernel_rfl) (by kernel_rfl) (fun _ _ _ h => h) (.inl ⟨wanted_yes (j := 2) (d := 68) rfl rfl d68, fun w g => run_eqlS rfl d70 d73 w⟩) S2.out ?_
      refine act_letter (fun A10 hA10 => ?_)
      replace d68 : A10.eval (.tmp 68) = .bool true := by rw [← hA10]; exact (ev_ne A9 (m := 74) (n := 68) (.bool true) (by decide)).trans d68
      have e74 : A10.eval (.tmp 74) = .bool true := by rw [← hA10]; exact ev_self A9 74 (.bool true) (by omega)
      have szA10 : A10.tmps.size = 76 := by rw [← hA10]; exact (sz_put A9 74 (.bool true)).trans szA9
      have HA10 := Lib.hid (show A9.put (some 74) (.bool true) = A10 from hA10)
      clear hA10 szA9 d70 d73
      have d74 := e74
      clear e74
      refine wpAnyH_take (i := 9) (v := .bool true) rfl (by kernel_rfl) (by kernel_rfl) (by kernel_rfl) (fun _ _ _ h => h) (.inl ⟨rfl, fun w g => run_pickT rfl d68 d74 w⟩) S2.out ?_
      refine act_letter (fun A11 hA11 => ?_)
      have e75 : A11.eval (.tmp 75) = .bool true := by rw [← hA11]; exact ev_self A10 75 (.bool true) (by omega)
      have szA11 : A11.tmps.size = 76 := by rw [← hA11]; exact (sz_put A10 75 (.bool true)).trans szA10
      have HA11 := Lib.hid (show A10.put (some 75) (.bool true) = A11 from hA11)
      clear hA11 szA10 d68 d74
      have d75 := e75
      clear e75
      refine wpAnyH_take (i := 10) (v := .bool true) rfl (by kernel_rfl) (by kernel_rfl) (by kernel_rfl) (fun _ _ _ h => h) (.inl ⟨rfl, fun w g => run_asgn rfl d75 w⟩) S2.out ?_
      refine act_letter (fun A12 hA12 => ?_)
      replace d75 : A12.eval (.tmp 75) = .bool true := by rw [← hA12]; exact (ev_ne A11 (m := 2) (n := 75) (.bool true) (by decide)).trans d75
      have e2 : A12.eval (.tmp 2) = .bool true := by rw [← hA12]; exact ev_self A11 2 (.bool true) (by omega)
      have szA12 : A12.tmps.size = 76 := by rw [← hA12]; exact (sz_put A11 2 (.bool true)).trans szA11
      have HA12 := Lib.hid (show A11.put (some 2) (.bool true) = A12 from hA12)
      clear hA12 szA11
      have d2 := e2
      clear e2
      refine wpAnyH_done (by kernel_rfl) ?_ _
      rw [← HA12.out, ← HA11.out, ← HA10.out, ← HA9.out, ← HA8.out, ← HA7.out, ← HA6.out, ← HA5.out, ← HA4.out, ← HA3.out, ← HA2.out, ← HA1.out]
      clear HA2 HA3 HA4 HA5 HA6 HA7 HA8 HA9 HA10 HA11 HA12 HA1 d75 d2 szA12
      simp only [Act.put, List.setIfInBounds_toArray, List.set_cons_zero, List.set_cons_succ]
      go_wp2_with fail
      go_ret
      exact ⟨rfl, B5.out⟩

set_option maxRecDepth 100000 in
theorem dertagPuts_lifted (os : Os) (started : os.Started) (H : Type) (enc : TypeId × Value → H) :
    ReturnsInHanded {} Tryd.checked os 4 .any (fun w args => (Rows.dertagPutsSpec.pre enc Tryd.prog Tryd.f4 [] false w args ∧ laidMetH Tryd.prog laidList w) ∧ sizedMet enc Tryd.prog Tryd.f4 (OpenSpec.ofChange Rows.dertagPutsSpec) false w args)
      (Rows.dertagPutsSpec.post enc Tryd.prog Tryd.f4 false true false false) := by
  refine returnsInHanded_of_change_and (C := Tryd.checked) (X := fun w _ => laidMetH Tryd.prog laidList w) (fun _ _ _ hh h => h.of_heap hh) own started (by kernel_rfl) Tryd.func4
    (ChangeSpec.witness_shaped (enc := enc) (C := Tryd.checked) (os := os) (X := fun w _ => laidMetH Tryd.prog laidList w) false (World.doorLaid Tryd.prog doorSteps os) #[.agg #[.int .i64 0, .int .i64 0, .bool false, .int .i64 0]] 8 rfl (World.shaped_of_RefB (by kernel_rfl) (by kernel_rfl)) (by kernel_rfl) (by kernel_rfl) (by kernel_rfl) (door_met os _)) ?_
  intro W base args ds gs before hval0 hW hcnd hsz0 hL _
  have hval : ∀ (j : Nat) t v, Tryd.f4.params[j]? = some t → args[j]? = some v → Value.okWide Tryd.prog W .any base t v := hval0
  have hsz : (DataW.weightsEach Tryd.prog (Tryd.f4.params.toList ++ Rows.dertagPutsSpec.plain.varTypes Tryd.prog) (ds ++ gs)).all (· ≤ reachBytes) = true := hsz0
  have hW' := hW
  obtain ⟨p, q, hA0, hV, rfl, hfz, hnd⟩ := hW
  have hA : DataW.TrodAll enc Tryd.prog W 0 (fun _ => true) true Tryd.f4.params.toList args.toList ds p := hA0
  rw [Tryd.params4] at hA hval hsz
  obtain ⟨v0, vs0, d0, ds0, p0, q0, hargs, rfl, rfl, h0, r0⟩ := trodAll_cons hA
  obtain ⟨rfl, rfl, rfl⟩ := trodAll_nil r0
  obtain rfl : args = #[v0] := by cases args; simp_all
  obtain ⟨rfl, rfl⟩ := trodVars_none hV
  have k0 := h0
  have lt0 : ∀ x ∈ p0, x.block < W.heap.size := by obtain ⟨m, hm⟩ := k0; exact DataW.trod_lt m _ _ _ hm
  obtain ⟨f0, rfl, n0⟩ := arg_head (hval 0 24 v0 rfl rfl) h0
  clear hA0 hval0 hsz0
  refine (dertagPuts_walk W f0 n0 hL).mono fun e W' ⟨he, bel⟩ => ?_
  subst he
  exact ⟨_, rfl, _, _, _, [], _, [], hW', trodAll_mk1 (shut_bool Tryd.underlying4 _), (trodAll_cons_mk (Below.trod laidOut (by kernel_rfl) (of_decide_eq_true (by kernel_rfl)) k0 bel lt0) trodAll_mk0), rfl, bel.frame _, fun h => by cases h⟩

theorem dertagPuts_over : Rows.dertagPutsRow.holds Tryd.pinned (OpenSpec.ofChange Rows.dertagPutsSpec) :=
  OpenClaim.holds_of_wide 4 Tryd.f4 rfl rfl rfl rfl rfl rfl rfl ⟨rfl, rfl, rfl, rfl, rfl⟩ rfl rfl rfl rfl rfl (by kernel_rfl) Tryd.func4 (by kernel_rfl)
    (of_decide_eq_true (by kernel_rfl)) (by unfold Func.isWrapper; first | (rw [if_pos (by decide +kernel)]; kernel_rfl) | (rw [if_neg (by decide +kernel)]; exact ⟨rfl, rfl⟩))
    (fun os started H enc _ => dertagPuts_lifted os started H enc)

theorem dertagPuts_holds : Rows.DertagPutsSaid := dertagPuts_over
#print axioms dertagPuts_holds

/-- The row's card: what it lists of the package's variables is what the program's own text lays there. -/
theorem dertagPuts_card : Rows.DertagPutsCardSaid :=
  Claim7.holds_tied_plain_at .later [] [.data] true Rows.dertagPutsCard.stood.harness false
    dertagPuts_holds (fun _ h => by cases h) (by kernel_rfl) (fun _ h => by cases h) dertagPuts_row_tie rfl ⟨rfl, rfl⟩ (by kernel_rfl) rfl
    (fun f fn hf hfn => by
      obtain rfl : f = 4 := Option.some.inj ((show Tryd.prog.funcNamed "passepartout/passepartoutlaw09.DertagPuts" = some 4 by kernel_rfl).symm.trans hf) |>.symm
      obtain rfl : fn = Tryd.f4 := (Option.some.inj (Tryd.func4.symm.trans hfn)).symm
      exact ⟨by kernel_rfl, fun j t ht => by
        rw [Tryd.params4] at ht
        have hm : t ∈ [24] := by simpa using Array.mem_of_getElem? ht
        have hall : ([24].all fun u => !Tryd.prog.wantsStandIn u) = true := by kernel_rfl
        exact (show Tryd.prog.wantsStandIn t = false by simpa using List.all_eq_true.1 hall t hm)⟩)
    (by kernel_rfl)
#print axioms dertagPuts_card
end Go.Proofs.YtbeknillegkidaaDoor

