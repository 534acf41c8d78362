/- The document's own answers of layer 11: Write. -/
import Derived.Test.YtnjnghbonmdbdaaDoorQ4
import Derived.Test.YtnjnghbonmdbdaaDoorTie
import Derived.Test.YtnjnghbonmdbdaaDoorCards
import Derived.Test.YtnjnghbonmdbdaaDoorQ1
import Derived.LaidMore
import Derived.Lib.LaidTab
import Derived.ProofKit
import Derived.OpenShut
import Derived.Stop.Joined
import Derived.ChangeSame
import Derived.Test.YtnjnghbonmdbdaaDoorRows
import Derived.Lib.Hide
import Derived.Deep.Cut
import Derived.OrdersHeld
import Derived.Deep.RegionHeld
namespace Go.Proofs.YtnjnghbonmdbdaaDoor
open Go.RowKit Nd

/-- A thing's bytes, where it isn't too deep; an error. -/
def Nd.wr (f : Nd) : List UInt8 × Int := if 8 < f.dep then ([], 14) else f.wn

set_option maxRecDepth 100000 in
set_option maxHeartbeats 1000000 in
theorem rWrite_any (f : Nd) (w : World) (hin : f.In w) (hcnt : f.cnt ≤ 1000000) : Calls Tryd.prog 16 #[f.val] w (WrP w f.wr) := by
  obtain ⟨W, hW⟩ : ∃ W, w.alloc (.cells f.cells 27) = W := ⟨_, rfl⟩
  have hg : Grew w W none := by rw [← hW]; exact grew_alloc (grew_refl _ _) _
  have hwh : Whole W w.heap.size f.cells 27 := by rw [← hW]; exact Whole.new _ _ _
  have HD := Lib.hid (rdepth_any f W 9 (hin.grew hg) (by omega))
  have HWR := Lib.hid (fun (w' : World) (g : Grew w w' none) => rwrite_any f w' (hin.grew g) hcnt)
  have HG := Lib.hid hg
  have HH := Lib.hid hwh
  have HX := Lib.hid (show f.wr = if 8 < f.dep then ([], 14) else f.wn from rfl)
  obtain ⟨k, t, m, B, d, bs, A, c, ls⟩ := f
  generalize Nd.wr (.mk k t m B d bs A c ls) = X at *
  clear hin hcnt hg hwh
  change Calls Tryd.prog 16 #[.agg #[.int .i64 k, .int .i64 t, .bool m, .slice B bs.length d, .slice A ls.length c]] w _
  change w.alloc (.cells #[.int .i64 k, .int .i64 t, .bool m, .slice B bs.length d, .slice A ls.length c] 27) = W at hW
  go_enter Tryd.func16, Tryd.ntmps16
  go_upto_region 1 with (fail)
  generalize w.heap.size = q at *
  have c0 : W.cell? ⟨q, 0, none⟩ = some (.int .i64 k) := HH.out.cell 0
  have c1 : W.cell? ⟨q, 1, none⟩ = some (.int .i64 t) := HH.out.cell 1
  have c2 : W.cell? ⟨q, 2, none⟩ = some (.bool m) := HH.out.cell 2
  have c3 : W.cell? ⟨q, 3, none⟩ = some (.slice B bs.length d) := HH.out.cell 3
  have c4 : W.cell? ⟨q, 4, none⟩ = some (.slice A ls.length c) := HH.out.cell 4
  go_wp2_with fail
  refine HD.out.mono ?_
  rintro e w2 ⟨rfl, g2⟩
  have HG2 := Lib.hid (grew_trans HG.out g2)
  have HH2 := Lib.hid (HH.out.grew g2 (by simp))
  clear c0 c1 c2 c3 c4 g2 HD hW
  generalize (Nd.mk k t m B d bs A c ls).dep = D at *
  obtain ⟨M, hM⟩ : ∃ M, min D (9 + 1) = M := ⟨_, rfl⟩
  rw [hM]
  by_cases h8 : 8 < D
  · have h8' : 8 < (M : Int) := by omega
    have HE := Lib.hid (show X = ([], 14) by rw [HX.out, if_pos h8])
    clear h8 hM
    go_wp2_with fail
    go_ret2
    exact WrP.err HE.out HG2.out
  · have h8' : ¬ 8 < (M : Int) := by omega
    have HE := Lib.hid (show X = (Nd.mk k t m B d bs A c ls).wn by rw [HX.out, if_neg h8])
    clear h8 hM HX
    have c0 : w2.cell? ⟨q, 0, none⟩ = some (.int .i64 k) := HH2.out.cell 0
    have c1 : w2.cell? ⟨q, 1, none⟩ = some (.int .i64 t) := HH2.out.cell 1
    have c2 : w2.cell? ⟨q, 2, none⟩ = some (.bool m) := HH2.out.cell 2
    have c3 : w2.cell? ⟨q, 3, none⟩ = some (.slice B bs.length d) := HH2.out.cell 3
    have c4 : w2.cell? ⟨q, 4, none⟩ = some (.slice A ls.length c) := HH2.out.cell 4
    go_wp2_with fail
    refine (HWR.out w2 HG2.out).mono ?_
    rintro e w3 ⟨A7, d7, rfl, hd7, hb7, g7⟩
    have HF := Lib.hid (show WrP w X (.returned (.tuple #[.slice A7 (Nd.mk k t m B d bs A c ls).wn.1.length d7, .int .i64 (Nd.mk k t m B d bs A c ls).wn.2])) w3 from by rw [HE.out]; exact ⟨A7, d7, rfl, hd7, hb7, grew_trans HG2.out g7⟩)
    clear hd7 hb7 g7 HE HWR
    generalize (Nd.mk k t m B d bs A c ls).wn.1.length = N at *
    generalize (Nd.mk k t m B d bs A c ls).wn.2 = E at *
    go_wp2_with fail
    go_ret2
    exact HF.out
end Go.Proofs.YtnjnghbonmdbdaaDoor


/- What the listed table of the package holds, as the walks ask it. -/
namespace Go.Proofs.YtnjnghbonmdbdaaDoor
open Go.RowKit Go.ChangeShapes Go.WideShapes Go.ChangeAt

/-- How many steps the program's own laying of its variables takes. -/
abbrev doorSteps : Nat := 33
abbrev laidList : List (String × DataW Unit) := [("passepartout/dertag.universal", Rows.laid_passepartout_dertag_universal)]
def tagTab : List (Int × Bool) := [(1, false), (2, false), (3, false), (4, false), (5, false), (6, false), (10, false), (12, false), (16, true), (17, true), (18, false), (19, false), (20, false), (22, false), (23, false), (24, false), (26, false), (28, false), (30, false)]
def tagCells : List Value := tagTab.flatMap fun x => [.int .i64 x.1, .bool x.2]
set_option maxRecDepth 100000 in
theorem laid_tab : (Rows.laid_passepartout_dertag_universal : DataW Unit) = .agg (tagTab.map fun x => .agg [.lit (.int .i64 x.1), .lit (.bool x.2)]) := rfl
set_option maxRecDepth 100000 in
theorem door_met (os : Os) (args : Array Value) : laidMetH Tryd.prog laidList ((World.doorLaid Tryd.prog doorSteps os).forCall (fun _ _ => 0) ⟨#[], args, []⟩).memory :=
  laidMetH_of_parts3 (fuel := 8) (laidMet_of_run' 8 (by kernel_rfl) (by kernel_rfl)) (by kernel_rfl) (by kernel_rfl)
set_option maxRecDepth 100000 in
theorem gTab : Tryd.prog.globalNamed "passepartout/dertag.universal" = some 0 := by kernel_rfl
set_option maxRecDepth 100000 in
theorem tTab : (Tryd.prog.globals[0]?).map (·.type) = some 113 := by kernel_rfl
set_option maxRecDepth 100000 in
theorem cTab : Tryd.prog.cellsOf 113 = 38 := by kernel_rfl
set_option maxRecDepth 100000 in
theorem cThing : Tryd.prog.cellsOf 106 = 2 := by kernel_rfl
set_option maxRecDepth 100000 in
theorem cInt9 : Tryd.prog.cellsOf 3 = 1 := by kernel_rfl
set_option maxRecDepth 100000 in
theorem cBool9 : Tryd.prog.cellsOf 4 = 1 := by kernel_rfl

/-- The table's block. -/
def Tb (w : World) : Prop := ∃ t, Whole w 0 tagCells.toArray t
set_option maxRecDepth 100000 in
theorem Tb.lt {w : World} (h : Tb w) : 0 < w.heap.size := h.elim fun _ k => k.lt
set_option maxRecDepth 100000 in
theorem Tb.below {n : Nat} {w w' : World} (h : Tb w) (b : Below n w w') (hn : 0 < n) : Tb w' := h.elim fun t k => ⟨t, (b.block 0 hn).trans k⟩
set_option maxRecDepth 100000 in
theorem Tb.self {w w' : World} (h : Tb w) (b : Below w.heap.size w w') : Tb w' := h.below b h.lt
set_option maxRecDepth 100000 in
theorem Tb.alloc {w : World} (h : Tb w) (o : Obj) : Tb (w.alloc o) := h.self ((Below.refl _ w).alloc (Nat.le_refl _) o)
set_option maxRecDepth 100000 in
theorem Tb.drew {w : World} (h : Tb w) : Tb w.drew := h

set_option maxRecDepth 100000 in
theorem thing_open {H : Type} {enc : TypeId × Value → H} {W : World} {base : Nat} {sp : Nat → Bool} {held : Bool} {fuel : Nat} {cs : List Value} {z : Int} {b : Bool} {p : List MemPlace}
    (h : DataW.trod enc Tryd.prog W base sp held fuel 106 cs = some (.agg [.lit (.int .i64 z), .lit (.bool b)], p)) : cs = [.int .i64 z, .bool b] := by
  obtain ⟨y0, y1, n, hx, hl, h0, h1⟩ := trod_struct2 Tryd.underlying106 h
  rw [cThing] at hl
  match cs, hl with
  | [v0, v1], _ =>
    simp only [cInt9, cBool9, List.drop_zero, List.take_succ_cons, List.take_zero, List.drop_succ_cons] at h0 h1
    obtain ⟨a0, e0, x0, _⟩ := DataW.trod_int Tryd.underlying3 h0
    obtain ⟨a1, e1, x1⟩ := DataW.trod_bool Tryd.underlying4 h1
    subst x0 x1
    simp only [List.cons.injEq, and_true] at e0 e1
    subst e0 e1
    simp only [Prod.mk.injEq, DataW.agg.injEq, List.cons.injEq, DataW.lit.injEq, Lit.int.injEq, Lit.bool.injEq, true_and, and_true] at hx
    obtain ⟨⟨rfl, rfl⟩, _⟩ := hx
    rfl

set_option maxRecDepth 100000 in
theorem tb_of_laid {W : World} (h : laidMetH Tryd.prog laidList W) : Tb W := by
  rw [MakeChecks.laidMetH_plain _ _ _ (by kernel_rfl)] at h
  obtain ⟨ps, ⟨g', t', cs, fuel, p, q, hg', ht', hvar, hd, hps, hps2⟩, _, hpl⟩ := h
  obtain rfl := Option.some.inj (gTab.symm.trans hg')
  obtain rfl := Option.some.inj (tTab.symm.trans ht')
  have hcell := World.var?_cell gTab hvar
  have hcs : cs.toList = tagCells := by
    rw [laid_tab] at hd
    cases fuel with
    | zero => simp [DataW.trod] at hd
    | succ fuel =>
      simp only [DataW.trod, Tryd.underlying113, cThing, cTab] at hd
      split at hd
      · rename_i hl
        obtain ⟨xs, hm, hx⟩ := Option.map_eq_some_iff.1 hd
        have hxs : xs.map (·.1) = tagTab.map fun x => (.agg [.lit (.int .i64 x.1), .lit (.bool x.2)] : DataW Unit) := by
          have := congrArg Prod.fst hx
          simpa using this
        have hxl : xs.length = 19 := by simpa using Lib.mapM_length hm
        have each : ∀ i, i < 19 → (cs.toList.drop (i * 2)).take 2 = [.int .i64 (tagTab.getD i default).1, .bool (tagTab.getD i default).2] := by
          intro i hi
          obtain ⟨b, hb, hf⟩ := Lib.mapM_at hm i i (by simp [hi])
          have h2 : (xs.map (·.1))[i]? = some b.1 := by simp [hb]
          rw [hxs] at h2
          have hi' : i < tagTab.length := hi
          rw [List.getElem?_map, List.getElem?_eq_getElem hi'] at h2
          simp only [Option.map_some, Option.some.injEq] at h2
          have hb2 : b = (.agg [.lit (.int .i64 tagTab[i].1), .lit (.bool tagTab[i].2)], b.2) := by rw [h2]
          rw [hb2] at hf
          have := thing_open hf
          rw [this]
          simp [List.getD_eq_getElem?_getD, List.getElem?_eq_getElem hi']
        apply List.ext_getElem?
        intro k
        have hk2 : k = k / 2 * 2 + k % 2 := by omega
        rcases Nat.lt_or_ge k 38 with hk | hk
        · have e := each (k / 2) (by omega)
          have e2 := congrArg (·[k % 2]?) e
          have e2 : ((cs.toList.drop (k / 2 * 2)).take 2)[k % 2]? = [Value.int .i64 (tagTab.getD (k / 2) default).1, Value.bool (tagTab.getD (k / 2) default).2][k % 2]? := e2
          rw [List.getElem?_take_of_lt (by omega), List.getElem?_drop, ← hk2] at e2
          rw [e2]
          have hall : ∀ k, k < 38 → [Value.int .i64 (tagTab.getD (k / 2) default).1, Value.bool (tagTab.getD (k / 2) default).2][k % 2]? = tagCells[k]? := by
            intro k hk
            have : k = 0 ∨ k = 1 ∨ k = 2 ∨ k = 3 ∨ k = 4 ∨ k = 5 ∨ k = 6 ∨ k = 7 ∨ k = 8 ∨ k = 9 ∨ k = 10 ∨ k = 11 ∨ k = 12 ∨ k = 13 ∨ k = 14 ∨ k = 15 ∨ k = 16 ∨ k = 17 ∨ k = 18 ∨ k = 19 ∨ k = 20 ∨ k = 21 ∨ k = 22 ∨ k = 23 ∨ k = 24 ∨ k = 25 ∨ k = 26 ∨ k = 27 ∨ k = 28 ∨ k = 29 ∨ k = 30 ∨ k = 31 ∨ k = 32 ∨ k = 33 ∨ k = 34 ∨ k = 35 ∨ k = 36 ∨ k = 37 := by omega
            rcases this with rfl | rfl | rfl | rfl | rfl | rfl | rfl | rfl | rfl | rfl | rfl | rfl | rfl | rfl | rfl | rfl | rfl | rfl | rfl | rfl | rfl | rfl | rfl | rfl | rfl | rfl | rfl | rfl | rfl | rfl | rfl | rfl | rfl | rfl | rfl | rfl | rfl | rfl <;> rfl
          exact hall k hk
        · rw [List.getElem?_eq_none (by omega), List.getElem?_eq_none (by show 38 ≤ k; exact hk)]
      · cases hd
  have hcs' : cs = tagCells.toArray := by rw [← hcs]
  subst hcs'
  obtain ⟨⟨c, t, hc⟩, _⟩ := hpl 0 0 (by rw [hps2]; simp [MemPlace.row, tagCells, tagTab])
  refine ⟨t, ?_⟩
  have : W.var? Tryd.prog "passepartout/dertag.universal" = some c := by simp [World.var?, gTab, hc]
  rw [hvar] at this
  cases this
  exact hc

set_option maxRecDepth 100000 in
/-- What a walk reads of the table. -/
theorem Tb.load {w : World} (h : Tb w) : (loadVar 113 ⟨0, 0, none⟩).run Tryd.prog w = .ok (.agg tagCells.toArray) w := by
  obtain ⟨t, k⟩ := h
  exact run_loadVar_row w 0 t 113 tagCells.toArray _ _ k Tryd.underlying113 rfl (by kernel_rfl)
set_option maxRecDepth 100000 in
theorem tab_index (w : World) (i : Nat) (hi : i < 19) : (Instr.index 113 (.agg tagCells.toArray) (.int .i64 (i : Int))).run Tryd.prog w = .ok (.agg #[.int .i64 (tagTab.getD i default).1, .bool (tagTab.getD i default).2]) w := by
  have : i = 0 ∨ i = 1 ∨ i = 2 ∨ i = 3 ∨ i = 4 ∨ i = 5 ∨ i = 6 ∨ i = 7 ∨ i = 8 ∨ i = 9 ∨ i = 10 ∨ i = 11 ∨ i = 12 ∨ i = 13 ∨ i = 14 ∨ i = 15 ∨ i = 16 ∨ i = 17 ∨ i = 18 := by omega
  rcases this with rfl | rfl | rfl | rfl | rfl | rfl | rfl | rfl | rfl | rfl | rfl | rfl | rfl | rfl | rfl | rfl | rfl | rfl | rfl <;> rfl
end Go.Proofs.YtnjnghbonmdbdaaDoor


/- The program's own answers of layer 9: which things there are (the table is gone through), Kind. -/
namespace Go.Proofs.YtnjnghbonmdbdaaDoor
open Go.RowKit

set_option maxRecDepth 100000 in
set_option maxHeartbeats 2000000 in
theorem isuni_any (w : World) (hT : Tb w) (z : Int) (b : Bool) : Calls Tryd.prog 59 #[.agg #[.int .i64 z, .bool b]] w fun e w' => e = .returned (.bool (decide ((z, b) ∈ tagTab))) ∧ Below w.heap.size w w' := by
  obtain ⟨q, hq⟩ : ∃ q, w.heap.size = q := ⟨_, rfl⟩
  have hbox := Whole.new w #[.int .i64 z, .bool b] 106
  have hbel := (Below.refl _ w).alloc (Nat.le_refl _) (.cells #[.int .i64 z, .bool b] 106)
  have hix := fun (w : World) (i : Nat) (hi : i < 19) => tab_index w i hi
  obtain ⟨tt, hk⟩ := hT.alloc (.cells #[.int .i64 z, .bool b] 106)
  have hg1 : (w.alloc (.cells #[.int .i64 z, .bool b] 106)).heap[0]? = _ := hk
  have hi38 : (Tryd.prog.info? 113).map (·.size) = some tagCells.toArray.size := by kernel_rfl
  have hq0 : 0 < q := by rw [← hq]; exact hT.lt
  obtain ⟨cs, hcs⟩ : ∃ cs, tagCells.toArray = cs := ⟨_, rfl⟩
  rw [hcs] at hix hg1 hi38
  rw [hq] at hbox hbel ⊢
  clear hcs hT hk
  go_enter Tryd.func59, Tryd.ntmps59
  go_wp2_with (refine wpList_load_row rfl 113 _ rfl 0 rfl tt _ (0, 0) _ hg1 Tryd.underlying113 rfl hi38 ?_)
  clear hg1
  have HBOX := Lib.hid hbox
  have HBEL := Lib.hid hbel
  clear hbox hbel hi38
  go_loopw [6] (fun i wr => ∃ j : Nat, j ≤ 19 ∧ i = .int .i64 j ∧ Hid (∀ k, k < j → tagTab.getD k default ≠ (z, b)) ∧ Hid (Whole wr q #[.int .i64 z, .bool b] 106 ∧ Below q w wr)) (fun i _ => 19 - (intOf i).toNat)
  case atStart => exact ⟨0, Nat.zero_le _, rfl, Lib.hid (fun k hk => absurd hk (Nat.not_lt_zero k)), Lib.hid ⟨HBOX.out, HBEL.out⟩⟩
  case round =>
    obtain ⟨j, hj, rfl, hno, hR⟩ := hrel
    by_cases hlt : j < 19
    · have hix1 := fun W => hix W j hlt
      obtain ⟨⟨z1, b1⟩, hzb⟩ : ∃ x, tagTab.getD j default = x := ⟨_, rfl⟩
      rw [hzb] at hix1
      have hlt' : (j : Int) < 19 := by omega
      have h1 := hR.out.1
      have hs : q < wr.heap.size := h1.lt
      have m0 : ∀ o, (wr.alloc o).cell? ⟨q, 0, none⟩ = some (.int .i64 z) := fun o => (h1.grew (grew_alloc (grew_refl wr none) o) (by simp)).cell 0
      have m1 : ∀ o, (wr.alloc o).cell? ⟨q, 1, none⟩ = some (.bool b) := fun o => (h1.grew (grew_alloc (grew_refl wr none) o) (by simp)).cell 1
      have HZB := Lib.hid hzb
      clear h1 hzb hix
      have hB2 := hR.out.2
      have hal : ∀ o, Hid (Whole (wr.alloc o) q #[.int .i64 z, .bool b] 106 ∧ Below q w (wr.alloc o)) := fun o => Lib.hid ⟨hR.out.1.grew (grew_alloc (grew_refl wr none) o) (by simp), hB2.alloc (by omega) o⟩
      have HAL := Lib.hid hal
      clear hal hB2 hR
      by_cases hz : z1 = z
      · by_cases hbb : b1 = b
        · subst hz hbb
          go_wp2_with fail
          go_ret
          refine ⟨?_, (HAL.out _).out.2⟩
          rw [decide_eq_true]
          · rfl
          · have : tagTab.getD j default ∈ tagTab := by
              rw [List.getD_eq_getElem?_getD, List.getElem?_eq_getElem (show j < tagTab.length from hlt)]
              exact List.getElem_mem _
            rw [HZB.out] at this
            exact this
        · subst hz
          have hbf : (b1 == b) = false := beq_eq_false_iff_ne.2 hbb
          have HBB := Lib.hid hbb
          clear hbb
          go_wp2_with fail
          go_roundw
          case rel =>
            refine ⟨j + 1, hlt, rfl, Lib.hid (fun k hk => ?_), HAL.out _⟩
            rcases Nat.lt_or_ge k j with h | h
            · exact hno.out k h
            · obtain rfl : k = j := by omega
              rw [HZB.out]
              intro e
              exact HBB.out (Prod.ext_iff.1 e).2
          case measure => simp [intOf]; omega
      · have hzf : (z1 == z) = false := beq_eq_false_iff_ne.2 hz
        have HZ := Lib.hid hz
        clear hz
        go_wp2_with fail
        go_roundw
        case rel =>
          refine ⟨j + 1, hlt, rfl, Lib.hid (fun k hk => ?_), HAL.out _⟩
          rcases Nat.lt_or_ge k j with h | h
          · exact hno.out k h
          · obtain rfl : k = j := by omega
            rw [HZB.out]
            intro e
            exact HZ.out (Prod.ext_iff.1 e).1
        case measure => simp [intOf]; omega
    · obtain rfl : j = 19 := by omega
      go_wp2_with fail
      go_ret
      refine ⟨?_, hR.out.2⟩
      rw [decide_eq_false]
      · rfl
      · intro hm
        obtain ⟨k, hk, e⟩ := List.getElem_of_mem hm
        exact hno.out k hk (by rw [List.getD_eq_getElem?_getD, List.getElem?_eq_getElem hk]; exact e)

/-- The table's things are the chapter's. -/
theorem kd_tab (z : Int) (b : Bool) : kd 0 z b = decide ((z, b) ∈ tagTab) := by
  unfold kd tagTab
  rw [if_neg (by decide), if_pos rfl, Bool.eq_iff_iff]
  cases b <;> simp <;> omega

set_option maxRecDepth 100000 in
set_option maxHeartbeats 2000000 in
/-- What Kind answers. -/
theorem kind_any (w : World) (hT : Tb w) (c z : Int) (b : Bool) : Calls Tryd.prog 50 #[.int .i64 c, .int .i64 z, .bool b] w fun e w' => e = .returned (.int .i64 (if kd c z b then 0 else 13)) ∧ Below w.heap.size w w' := by
  by_cases h0 : c = 0
  · subst h0
    have hu := isuni_any w hT z b
    rw [← kd_tab] at hu
    cases hk : kd 0 z b with
    | true =>
      rw [hk] at hu
      clear hk hT
      go_enter Tryd.func50, Tryd.ntmps50
      go_wp2_with fail
      refine hu.mono ?_
      rintro e w' ⟨rfl, hB⟩
      go_wp2_with fail
      go_ret
      exact ⟨rfl, hB⟩
    | false =>
      rw [hk] at hu
      clear hk hT
      go_enter Tryd.func50, Tryd.ntmps50
      go_wp2_with fail
      refine hu.mono ?_
      rintro e w' ⟨rfl, hB⟩
      go_wp2_with fail
      go_ret
      exact ⟨rfl, hB⟩
  · by_cases h2 : c = 2
    · subst h2
      have hk : kd 2 z b = decide (0 ≤ z ∧ z ≤ 30) := by unfold kd; rw [if_pos rfl]
      rw [hk]
      clear hk
      by_cases g1 : 0 ≤ z
      · by_cases g2 : z ≤ 30
        · rw [decide_eq_true (show 0 ≤ z ∧ z ≤ 30 from ⟨g1, g2⟩)]
          go_enter Tryd.func50, Tryd.ntmps50
          go_wp2_with fail
          go_ret
          exact ⟨rfl, Below.refl _ _⟩
        · rw [decide_eq_false (show ¬ (0 ≤ z ∧ z ≤ 30) from fun h => g2 h.2)]
          go_enter Tryd.func50, Tryd.ntmps50
          go_wp2_with fail
          go_ret
          exact ⟨rfl, Below.refl _ _⟩
      · rw [decide_eq_false (show ¬ (0 ≤ z ∧ z ≤ 30) from fun h => g1 h.1)]
        go_enter Tryd.func50, Tryd.ntmps50
        go_wp2_with fail
        go_ret
        exact ⟨rfl, Below.refl _ _⟩
    · have hk : kd c z b = false := by unfold kd; rw [if_neg h2, if_neg h0]
      rw [hk]
      go_enter Tryd.func50, Tryd.ntmps50
      go_wp2_with fail
      go_ret
      exact ⟨rfl, Below.refl _ _⟩
end Go.Proofs.YtnjnghbonmdbdaaDoor


/- The program's own answers of layer 9: how many bytes follow a length's first one; a length behind bytes. -/
namespace Go.Proofs.YtnjnghbonmdbdaaDoor
open Go.RowKit

/-- How many bytes follow a length's first one. -/
def nd (n : Nat) : Nat := if n < 128 then 0 else if n < 256 then 1 else if n < 65536 then 2 else 3

set_option maxRecDepth 100000 in
set_option maxHeartbeats 2000000 in
theorem needed_any (w : World) (n : Nat) (hn : n < 16777216) : Calls Tryd.prog 60 #[.int .i64 (n : Int)] w fun e w' => e = .returned (.int .i64 (nd n : Nat)) ∧ w' = w := by
  by_cases h1 : n < 128
  · have h1' : (n : Int) < 128 := by omega
    have e : nd n = 0 := by unfold nd; rw [if_pos h1]
    rw [e]
    go_enter Tryd.func60, Tryd.ntmps60
    go_wp2_with fail
    go_ret
    exact ⟨rfl, rfl⟩
  · have h1' : ¬ (n : Int) < 128 := by omega
    go_enter Tryd.func60, Tryd.ntmps60
    go_wp2_with fail
    go_loopw [3] (fun i wr => ∃ j : Nat, 1 ≤ j ∧ j ≤ nd n ∧ i = .int .i64 j ∧ wr = w) (fun i _ => 4 - (intOf i).toNat)
    case atStart => exact ⟨1, Nat.le_refl _, by unfold nd; rw [if_neg h1]; split <;> (try split) <;> omega, rfl, rfl⟩
    case round =>
      obtain ⟨j, hj1, hj2, rfl, rfl⟩ := hrel
      have hj3 : j ≤ 3 := by unfold nd at hj2; split at hj2 <;> (try split at hj2) <;> (try split at hj2) <;> omega
      have : j = 1 ∨ j = 2 ∨ j = 3 := by omega
      rcases this with rfl | rfl | rfl
      · by_cases h2 : n < 256
        · have e : nd n = 1 := by unfold nd; rw [if_neg h1, if_pos h2]
          have h2' : (n : Int) / 256 ≤ 0 := by omega
          go_wp2_with fail
          go_ret
          exact ⟨by rw [e]; rfl, rfl⟩
        · have e : 2 ≤ nd n := by unfold nd; rw [if_neg h1, if_neg h2]; split <;> omega
          have h2' : 0 < (n : Int) / 256 := by omega
          go_wp2_with fail
          exact ⟨⟨2, by omega, e, rfl, trivial⟩, by simp [intOf]⟩
      · have h2 : ¬ n < 256 := fun h => by unfold nd at hj2; rw [if_neg h1, if_pos h] at hj2; omega
        by_cases h3 : n < 65536
        · have e : nd n = 2 := by unfold nd; rw [if_neg h1, if_neg h2, if_pos h3]
          have h3' : (n : Int) / 65536 ≤ 0 := by omega
          go_wp2_with fail
          go_ret
          exact ⟨by rw [e]; rfl, rfl⟩
        · have e : 3 ≤ nd n := by unfold nd; rw [if_neg h1, if_neg h2, if_neg h3]; exact Nat.le_refl _
          have h3' : 0 < (n : Int) / 65536 := by omega
          go_wp2_with fail
          exact ⟨⟨3, by omega, e, rfl, trivial⟩, by simp [intOf]⟩
      · have h2 : ¬ n < 256 := fun h => by unfold nd at hj2; rw [if_neg h1, if_pos h] at hj2; omega
        have h3 : ¬ n < 65536 := fun h => by unfold nd at hj2; rw [if_neg h1, if_neg h2, if_pos h] at hj2; omega
        have e : nd n = 3 := by unfold nd; rw [if_neg h1, if_neg h2, if_neg h3]
        have h3' : (n : Int) / 16777216 ≤ 0 := by omega
        go_wp2_with fail
        go_ret
        exact ⟨by rw [e]; rfl, rfl⟩

theorem nd_le (n : Nat) : nd n ≤ 3 := by unfold nd; split <;> (try split) <;> (try split) <;> omega
theorem lenB_length (n : Nat) : (lenB n).length = 1 + nd n := by unfold lenB nd; split <;> (try split) <;> (try split) <;> rfl

/-- 'append' of one byte, in new memory, to a row of bytes. -/
theorem app_one (w : World) {v : Value} {n : Nat} {ys : List UInt8} (own : w.ownsRow 0 5 1 v n (cellsOf ys)) (hn : n ≤ 100) (x : UInt8) :
    ∀ ty, ∃ v' w', (Builtin.append_ #[22, 22] ty #[v, .slice (some ⟨w.heap.size, 0, none⟩) 1 1]).run Tryd.prog (w.alloc (.cells #[.int .u8 (x.toNat : Int)] 5)) = .ok v' w' ∧
    AppLeft (w.alloc (.cells #[.int .u8 (x.toNat : Int)] 5)) 5 1 v (n + 1) (cellsOf (ys ++ [x])) v' w' := fun ty => by
  have h2 := own_fr own ((Fr.refl w (fun _ => False)).alloc (.cells #[.int .u8 (x.toNat : Int)] 5)) (fun _ _ h => h)
  have h3 := own_by (own_new w #[.int .u8 (x.toNat : Int)] [x] rfl (by simp))
  exact append_bytes (P := Tryd.prog) _ 22 ty 5 Tryd.underlying22 info_u8 h2 h3 1 (by simp; omega)

/-- What appending to a row leaves: the row, as it is now; nothing but its block has turned. -/
def Apd (w : World) (v : Value) (v' : Value) (n : Nat) (ys : List UInt8) (w' : World) : Prop :=
  w'.ownsRow 0 5 1 v' n (cellsOf ys) ∧ Grew w w' v.ownBlock ∧ (∀ k, v'.ownBlock = some k → v.ownBlock = some k ∨ w.heap.size ≤ k)
theorem Apd.more {w w1 w2 : World} {v v1 v2 : Value} {n m : Nat} {ys zs : List UInt8} {o : Obj} (h : Apd w v v1 n ys w1) (k : AppLeft (w1.alloc o) 5 1 v1 m (cellsOf zs) v2 w2) : Apd w v v2 m zs w2 := by
  obtain ⟨h1, h2, h3⟩ := h
  obtain ⟨k1, k2, k3⟩ := k
  have hs := h2.size
  have ob : ∀ i, v2.ownBlock = some i → v.ownBlock = some i ∨ w.heap.size ≤ i := by
    intro i hi
    rcases k3 with e | e
    · exact h3 i (by rw [← e]; exact hi)
    · rw [hi] at e
      right
      cases e
      simp
      omega
  refine ⟨k1, ?_, ob⟩
  have g1 : Grew w (w1.alloc o) v.ownBlock := grew_alloc h2 o
  cases hv : v1.ownBlock with
  | none => rw [hv] at k2; exact grew_trans g1 (grew_weak k2)
  | some b =>
    rw [hv] at k2
    rcases h3 b hv with e | e
    · rw [e]; rw [e] at g1; exact grew_trans g1 k2
    · exact grew_own g1 k2 e
end Go.Proofs.YtnjnghbonmdbdaaDoor


/- A length's bytes, as numbers; what a head's reading tells, without its bytes: the program's way and the chapter's are one. -/
namespace Go.Proofs.YtnjnghbonmdbdaaDoor
open Go.RowKit

theorem bval_snoc (xs : List UInt8) (x : UInt8) : bval (xs ++ [x]) = 256 * bval xs + x.toNat := by simp [bval]
theorem bval_lt (xs : List UInt8) : bval xs < 256 ^ xs.length := by
  have : ∀ (n : Nat) (xs : List UInt8), xs.length = n → bval xs < 256 ^ n := by
    intro n
    induction n with
    | zero => intro xs h; obtain rfl := List.eq_nil_of_length_eq_zero h; simp [bval]
    | succ n ih =>
      intro xs h
      have hne : xs ≠ [] := fun e => by rw [e] at h; simp at h
      obtain ⟨ys, y, rfl⟩ : ∃ ys y, xs = ys ++ [y] := ⟨xs.dropLast, xs.getLast hne, (List.dropLast_concat_getLast hne).symm⟩
      rw [bval_snoc]
      have h1 := ih ys (by simpa using h)
      have h2 := y.toNat_lt
      rw [Nat.pow_succ]
      omega
  exact this _ xs rfl
theorem bval_take {s : List UInt8} {j : Nat} (h : j < s.length) : bval (s.take (j + 1)) = 256 * bval (s.take j) + (s.getD j 0).toNat := by
  rw [List.take_add_one, List.getElem?_eq_getElem h, Option.toList_some, bval_snoc, List.getD_eq_getElem?_getD, List.getElem?_eq_getElem h]
  rfl

/-- A list is another's beginning if all its places agree. -/
theorem pre_iff (xs ys : List UInt8) : (xs <+: ys) ↔ ∀ i, i < xs.length → i < ys.length ∧ xs.getD i 0 = ys.getD i 0 := by
  constructor
  · rintro ⟨t, rfl⟩ i hi
    refine ⟨by simp; omega, ?_⟩
    rw [List.getD_eq_getElem?_getD, List.getD_eq_getElem?_getD, List.getElem?_append_left hi]
  · intro h
    rw [List.prefix_iff_eq_take]
    apply List.ext_getElem?
    intro i
    by_cases hi : i < xs.length
    · obtain ⟨h1, h2⟩ := h i hi
      rw [List.getElem?_take_of_lt hi, List.getElem?_eq_getElem hi, List.getElem?_eq_getElem h1]
      rw [List.getD_eq_getElem?_getD, List.getD_eq_getElem?_getD, List.getElem?_eq_getElem hi, List.getElem?_eq_getElem h1] at h2
      simpa using h2
    · rw [List.getElem?_eq_none (by omega), List.getElem?_eq_none (by rw [List.length_take]; omega)]


/-- The length behind a head's first byte: what the program's own reading answers of the bytes behind it. -/
def rl (r : List UInt8) : Nat × Nat × Int :=
  match r with
  | [] => (0, 1, 4)
  | b :: s =>
    if b.toNat < 128 then (b.toNat, 2, 0)
    else if b.toNat = 128 ∨ 131 < b.toNat then (0, 1, 13)
    else if s.length < b.toNat - 128 then (0, s.length + 2, 4)
    else if nd (bval (s.take (b.toNat - 128))) < b.toNat - 128 then (0, 1, 13)
    else (bval (s.take (b.toNat - 128)), 2 + (b.toNat - 128), 0)

theorem lenB_low {n : Nat} (h : n < 128) : lenB n = [.ofNat n] := by unfold lenB; rw [if_pos h]
theorem nd_pow {n k : Nat} (h : n < 256 ^ k) (hk : k ≤ 3) : nd n ≤ k := by
  have : k = 0 ∨ k = 1 ∨ k = 2 ∨ k = 3 := by omega
  unfold nd
  rcases this with rfl | rfl | rfl | rfl
  · split
    · omega
    · simp at h; omega
  · simp at h
    split
    · omega
    · simp
  · simp at h
    split
    · omega
    · split
      · omega
      · simp
  · split
    · omega
    · split
      · omega
      · split <;> omega
theorem u8_eq (x y : UInt8) (h : x.toNat = y.toNat) : x = y := UInt8.toNat_inj.1 h
theorem u8_of (x : UInt8) (n : Nat) (h : x.toNat = n) : UInt8.ofNat n = x := by rw [← h]; simp
/-- So many bytes as a number needs are its own. -/
theorem lenB_take (s : List UInt8) (k : Nat) (hk : k ≤ s.length) (hn : nd (bval (s.take k)) = k) (h0 : 0 < k) : lenB (bval (s.take k)) = .ofNat (128 + k) :: s.take k := by
  have h3 := nd_le (bval (s.take k))
  rw [hn] at h3
  have : k = 1 ∨ k = 2 ∨ k = 3 := by omega
  rcases this with rfl | rfl | rfl
  · match s, hk with
    | a :: s, _ =>
      have hb : bval ((a :: s).take 1) = a.toNat := by simp [bval]
      rw [hb] at hn ⊢
      have ha := a.toNat_lt
      unfold nd at hn
      unfold lenB
      split at hn
      · omega
      · rename_i g
        rw [if_neg g, if_pos (by omega)]
        simp
  · match s, hk with
    | a :: b :: s, _ =>
      have hb : bval ((a :: b :: s).take 2) = 256 * a.toNat + b.toNat := by simp [bval]
      rw [hb] at hn ⊢
      have ha := a.toNat_lt
      have hb' := b.toNat_lt
      unfold nd at hn
      unfold lenB
      split at hn
      · omega
      · split at hn
        · omega
        · rename_i g1 g2
          rw [if_neg g1, if_neg g2, if_pos (by omega)]
          rw [u8_of a ((256 * a.toNat + b.toNat) / 256) (by omega), u8_of b ((256 * a.toNat + b.toNat) % 256) (by omega)]
          rfl
  · match s, hk with
    | a :: b :: c :: s, _ =>
      have hb : bval ((a :: b :: c :: s).take 3) = 256 * (256 * a.toNat + b.toNat) + c.toNat := by simp [bval]
      rw [hb] at hn ⊢
      have ha := a.toNat_lt
      have hb' := b.toNat_lt
      have hc' := c.toNat_lt
      unfold nd at hn
      unfold lenB
      split at hn
      · omega
      · split at hn
        · omega
        · split at hn
          · omega
          · rename_i g1 g2 g3
            rw [if_neg g1, if_neg g2, if_neg g3]
            rw [u8_of a ((256 * (256 * a.toNat + b.toNat) + c.toNat) / 65536) (by omega), u8_of b ((256 * (256 * a.toNat + b.toNat) + c.toNat) / 256 % 256) (by omega), u8_of c ((256 * (256 * a.toNat + b.toNat) + c.toNat) % 256) (by omega)]
            rfl
theorem lenB_first (n : Nat) (h : 0 < nd n) : ∃ t, lenB n = .ofNat (128 + nd n) :: t := by
  unfold nd at h ⊢
  unfold lenB
  split
  · rename_i g; rw [if_pos g] at h; omega
  · split
    · exact ⟨_, rfl⟩
    · split
      · exact ⟨_, rfl⟩
      · exact ⟨_, rfl⟩

/-- The first byte of a head that there is, told by that head. -/
theorem fb_self (a : UInt8) : UInt8.ofNat (fb (hdC a) (hdT a) (hdM a)) = a := by
  apply u8_of
  have ha := a.toNat_lt
  unfold fb hdC hdT hdM
  cases h : (a.toNat / 32 % 2 == 1)
  · have h2 : ¬ a.toNat / 32 % 2 = 1 := by simpa using h
    simp only [Bool.false_eq_true, if_false]
    omega
  · have h2 : a.toNat / 32 % 2 = 1 := by simpa using h
    simp only [if_true]
    omega

/-- The program's way of reading tells what the chapter says. -/
theorem rdH_rl (a : UInt8) (r : List UInt8) (h : kd (hdC a) (hdT a) (hdM a) = true) :
    rdH (a :: r) = if (rl r).2.2 = 0 then (⟨hdC a, hdT a, hdM a, ((rl r).1 : Nat)⟩, (rl r).2.1, 0) else (.z, (rl r).2.1, (rl r).2.2) := by
  cases r with
  | nil => rw [rdH_one h]; rfl
  | cons b s =>
    have hb256 := b.toNat_lt
    by_cases g1 : b.toNat < 128
    · have e : rl (b :: s) = (b.toNat, 2, 0) := by unfold rl; simp only; rw [if_pos g1]
      rw [e, rdH_all h (.inl g1)]
      have hof : hdOf a b s = ⟨hdC a, hdT a, hdM a, (b.toNat : Nat)⟩ := by unfold hdOf; rw [if_pos g1]
      rw [hof]
      have hp : putH ⟨hdC a, hdT a, hdM a, (b.toNat : Nat)⟩ = [a, b] := by
        show UInt8.ofNat (fb (hdC a) (hdT a) (hdM a)) :: lenB ((b.toNat : Nat) : Int).toNat = _
        rw [fb_self, Int.toNat_natCast, lenB_low g1, u8_of b _ rfl]
      rw [hp, if_pos ⟨s, rfl⟩]
      rfl
    · by_cases g2 : b.toNat = 128 ∨ 131 < b.toNat
      · have e : rl (b :: s) = (0, 1, 13) := by unfold rl; simp only; rw [if_neg g1, if_pos g2]
        rw [e, rdH_bad h g2]
        rfl
      · obtain ⟨k, hk⟩ : ∃ k, b.toNat = 128 + k := ⟨b.toNat - 128, by omega⟩
        have hk3 : k ≤ 3 := by omega
        have hk0 : 0 < k := by omega
        have ek : b.toNat - 128 = k := by omega
        by_cases g3 : s.length < k
        · have e : rl (b :: s) = (0, s.length + 2, 4) := by unfold rl; simp only; rw [if_neg g1, if_neg g2, ek, if_pos g3]
          rw [e, rdH_few h (by omega) (by omega) (by omega)]
          rfl
        · have hlt : bval (s.take k) < 256 ^ k := by
            have := bval_lt (s.take k)
            rwa [List.length_take, Nat.min_eq_left (by omega)] at this
          have hnd := nd_pow hlt hk3
          have hof : hdOf a b s = ⟨hdC a, hdT a, hdM a, (bval (s.take k) : Nat)⟩ := by unfold hdOf; rw [if_neg g1, ek]
          rw [rdH_all h (.inr ⟨by omega, by omega, by omega⟩), hof]
          have hput : putH ⟨hdC a, hdT a, hdM a, (bval (s.take k) : Nat)⟩ = a :: lenB (bval (s.take k)) := by
            show UInt8.ofNat (fb (hdC a) (hdT a) (hdM a)) :: lenB ((bval (s.take k) : Nat) : Int).toNat = _
            rw [fb_self, Int.toNat_natCast]
          rw [hput]
          by_cases g4 : nd (bval (s.take k)) < k
          · have e : rl (b :: s) = (0, 1, 13) := by unfold rl; simp only; rw [if_neg g1, if_neg g2, ek, if_neg g3, if_pos g4]
            rw [e, if_neg]
            · rfl
            · intro hpre
              rw [List.cons_prefix_cons] at hpre
              obtain ⟨_, hpre⟩ := hpre
              by_cases g5 : 0 < nd (bval (s.take k))
              · obtain ⟨t, ht⟩ := lenB_first _ g5
                rw [ht, List.cons_prefix_cons] at hpre
                have := congrArg UInt8.toNat hpre.1
                simp at this
                omega
              · have hlow : bval (s.take k) < 128 := by
                  by_cases g6 : bval (s.take k) < 128
                  · exact g6
                  · exfalso; apply g5; unfold nd; rw [if_neg g6]; split <;> (try split) <;> omega
                rw [lenB_low hlow, List.cons_prefix_cons] at hpre
                have := congrArg UInt8.toNat hpre.1
                simp at this
                omega
          · have e : rl (b :: s) = (bval (s.take k), 2 + k, 0) := by unfold rl; simp only; rw [if_neg g1, if_neg g2, ek, if_neg g3, if_neg g4]
            have hlb := lenB_take s k (by omega) (by omega) hk0
            have hb' : UInt8.ofNat (128 + k) = b := u8_of b _ hk
            rw [e, hlb, hb', if_pos]
            · simp
              omega
            · rw [List.cons_prefix_cons]
              refine ⟨rfl, ?_⟩
              rw [List.cons_prefix_cons]
              exact ⟨rfl, List.take_prefix _ _⟩
end Go.Proofs.YtnjnghbonmdbdaaDoor


/- What is read of any bytes: with an error nothing but the place; else a head that there is, whose bytes these begin with. -/
namespace Go.Proofs.YtnjnghbonmdbdaaDoor
open Go.RowKit

theorem rdH_good (xs : List UInt8) : ((rdH xs).2.2 ≠ 0 ∧ (rdH xs).1 = .z ∧ (rdH xs).2.1 ≤ xs.length) ∨
    ((rdH xs).2.2 = 0 ∧ kd (rdH xs).1.c (rdH xs).1.t (rdH xs).1.m = true ∧ (0 ≤ (rdH xs).1.l ∧ (rdH xs).1.l ≤ 16777215) ∧ (rdH xs).2.1 = (putH (rdH xs).1).length ∧ putH (rdH xs).1 <+: xs) := by
  cases xs with
  | nil => exact .inl ⟨by decide, rfl, Nat.le_refl _⟩
  | cons a r =>
    cases hk : kd (hdC a) (hdT a) (hdM a) with
    | false => rw [rdH_no hk]; exact .inl ⟨by decide, rfl, Nat.zero_le _⟩
    | true =>
      cases r with
      | nil => rw [rdH_one hk]; exact .inl ⟨by decide, rfl, by simp⟩
      | cons b s =>
        by_cases g1 : b.toNat = 128 ∨ 131 < b.toNat
        · rw [rdH_bad hk g1]; exact .inl ⟨by decide, rfl, by simp⟩
        · by_cases g2 : 128 < b.toNat ∧ s.length < b.toNat - 128
          · rw [rdH_few hk g2.1 (by omega) g2.2]; exact .inl ⟨by simp, rfl, by simp⟩
          · rw [rdH_all hk (by omega)]
            by_cases g3 : putH (hdOf a b s) <+: a :: b :: s
            · rw [if_pos g3]
              refine .inr ⟨rfl, hk, ?_, rfl, g3⟩
              dsimp only
              unfold hdOf
              dsimp only
              split
              · rename_i g4; omega
              · refine ⟨by omega, ?_⟩
                have h1 := bval_lt (s.take (b.toNat - 128))
                have h2 : (s.take (b.toNat - 128)).length ≤ 3 := by rw [List.length_take]; omega
                have h3 : 256 ^ (s.take (b.toNat - 128)).length ≤ 256 ^ 3 := Nat.pow_le_pow_right (by omega) h2
                have h4 : (256 : Nat) ^ 3 = 16777216 := rfl
                omega
            · rw [if_neg g3]; exact .inl ⟨by decide, rfl, by simp⟩
end Go.Proofs.YtnjnghbonmdbdaaDoor


/- A thing that is read: what the chapter says. -/
namespace Go.Proofs.YtnjnghbonmdbdaaDoor
open Go.RowKit

namespace Nd
/-- No thing. -/
def z : Nd := mk 0 0 false none 0 [] none 0 []
mutual
/-- A thing without its addresses. -/
def nf : Nd → Nd
  | mk k t m _ _ bs _ _ ls => mk k t m none 0 bs none 0 (nfs ls)
def nfs : List Nd → List Nd
  | [] => []
  | p :: ps => nf p :: nfs ps
end
theorem nfs_map (ls : List Nd) : nfs ls = ls.map nf := by
  induction ls with
  | nil => rfl
  | cons p ps ih => rw [nfs, ih]; rfl
theorem nfs_length (ls : List Nd) : (nfs ls).length = ls.length := by rw [nfs_map, List.length_map]
theorem nfs_append (xs ys : List Nd) : nfs (xs ++ ys) = nfs xs ++ nfs ys := by simp [nfs_map]
theorem nf_nf : ∀ v : Nd, nf (nf v) = nf v := by
  refine Nd.ind fun k t m B d bs A c ls ih => ?_
  rw [nf, nf, nfs_map, nfs_map, List.map_map]
  congr 1
  exact List.map_congr_left (fun p hp => ih p hp)
theorem sames_nfs {ls : List Nd} : ∀ (ms : List Nd), (∀ p ∈ ls, ∀ q, same p q = true ↔ nf p = nf q) → (decide (ls.length = ms.length) && sames ls ms = true ↔ nfs ls = nfs ms) := by
  induction ls with
  | nil =>
    intro ms _
    cases ms with
    | nil => simp [sames, nfs]
    | cons m ms => simp [nfs]
  | cons p ps ih =>
    intro ms h
    cases ms with
    | nil => simp [nfs]
    | cons m ms =>
      have h1 := ih ms (fun q hq => h q (by simp [hq]))
      have h2 := h p (by simp) m
      simp only [Bool.and_eq_true, decide_eq_true_eq, List.length_cons, sames, nfs, List.cons.injEq] at h1 ⊢
      rw [← h1, ← h2]
      constructor
      · rintro ⟨a, b, c⟩; exact ⟨b, by omega, c⟩
      · rintro ⟨b, a, c⟩; exact ⟨by omega, b, c⟩
/-- The same: the same but for where they lie. -/
theorem same_nf : ∀ a b : Nd, same a b = true ↔ nf a = nf b := by
  refine Nd.ind fun k t m B d bs A c ls ih => ?_
  intro b
  obtain ⟨k', t', m', B', d', bs', A', c', ms⟩ := b
  have h2 := sames_nfs ms ih
  simp only [Bool.and_eq_true, decide_eq_true_eq] at h2
  simp only [same, nf, Nd.k, Nd.t, Nd.m, Nd.bs, Nd.ls, Bool.and_eq_true, mk.injEq, true_and]
  rw [← h2]
  constructor
  · rintro ⟨⟨⟨⟨⟨a, b⟩, c⟩, d⟩, e⟩, f⟩; exact ⟨of_decide_eq_true a, of_decide_eq_true b, of_decide_eq_true c, of_decide_eq_true d, of_decide_eq_true e, f⟩
  · rintro ⟨a, b, c, d, e, f⟩; exact ⟨⟨⟨⟨⟨decide_eq_true a, decide_eq_true b⟩, decide_eq_true c⟩, decide_eq_true d⟩, decide_eq_true e⟩, f⟩
theorem wns_nfs {ls : List Nd} (h : ∀ p ∈ ls, wn (nf p) = wn p) : wns (nfs ls) = wns ls := by
  induction ls with
  | nil => rfl
  | cons p ps ih => rw [nfs, wns, wns, h p (by simp), ih (fun q hq => h q (by simp [hq]))]
theorem wn_nf : ∀ v : Nd, wn (nf v) = wn v := by
  refine Nd.ind fun k t m B d bs A c ls ih => ?_
  rw [nf, wn, wn, wns_nfs ih, nfs_length]
theorem deps_nfs {ls : List Nd} (h : ∀ p ∈ ls, dep (nf p) = dep p) : deps (nfs ls) = deps ls := by
  induction ls with
  | nil => rfl
  | cons p ps ih => rw [nfs, deps, deps, h p (by simp), ih (fun q hq => h q (by simp [hq]))]
theorem dep_nf : ∀ v : Nd, dep (nf v) = dep v := by
  refine Nd.ind fun k t m B d bs A c ls ih => ?_
  rw [nf, dep, dep, deps_nfs ih]
theorem cnts_nfs {ls : List Nd} (h : ∀ p ∈ ls, cnt (nf p) = cnt p) : cnts (nfs ls) = cnts ls := by
  induction ls with
  | nil => rfl
  | cons p ps ih => rw [nfs, cnts, cnts, h p (by simp), ih (fun q hq => h q (by simp [hq]))]
theorem cnt_nf : ∀ v : Nd, cnt (nf v) = cnt v := by
  refine Nd.ind fun k t m B d bs A c ls ih => ?_
  rw [nf, cnt, cnt, cnts_nfs ih]
end Nd

theorem putH_ge2 (h : Hd) : 2 ≤ (putH h).length := by
  unfold putH lenB
  simp only [List.length_cons]
  split
  · simp
  split
  · simp
  split
  · simp
  · simp
/-- What is read: the error, the end of the thing or where it is wrong, the thing. -/
structure Rn where
  e : Int
  n : Nat
  v : Nd
/-- Things, one behind the other, each by g. -/
def lstN (g : List UInt8 → Rn) : Nat → List Nd → Nat → List UInt8 → Int × Nat × List Nd
  | 0, acc, o, _ => (0, o, acc)
  | k + 1, acc, o, ys => if ys.length = 0 then (0, o, acc) else if (g ys).e = 0 then lstN g k (acc ++ [(g ys).v]) (o + (g ys).n) (ys.drop (g ys).n) else ((g ys).e, o + (g ys).n, [])
/-- A thing that bytes begin with, at most that deep. -/
def rn : Nat → List UInt8 → Rn
  | 0, _ => ⟨14, 0, .z⟩
  | n + 1, xs =>
    if (rdH xs).2.2 ≠ 0 then ⟨(rdH xs).2.2, (rdH xs).2.1, .z⟩
    else if ((xs.length : Int) - (rdH xs).2.1) < (rdH xs).1.l then ⟨4, xs.length, .z⟩
    else if (rdH xs).1.m = false then
      if (rdH xs).1.c = 0 ∧ ckE (rdH xs).1.t ((xs.drop (rdH xs).2.1).take (rdH xs).1.l.toNat) ≠ 0 then ⟨13, (rdH xs).2.1, .z⟩
      else ⟨0, (rdH xs).2.1 + (rdH xs).1.l.toNat, .mk (rdH xs).1.c (rdH xs).1.t false none 0 ((xs.drop (rdH xs).2.1).take (rdH xs).1.l.toNat) none 0 []⟩
    else
      let r := lstN (rn n) (rdH xs).1.l.toNat [] (rdH xs).2.1 ((xs.drop (rdH xs).2.1).take (rdH xs).1.l.toNat)
      if r.1 = 0 then ⟨0, (rdH xs).2.1 + (rdH xs).1.l.toNat, .mk (rdH xs).1.c (rdH xs).1.t true none 0 [] none 0 r.2.2⟩ else ⟨r.1, r.2.1, .z⟩

theorem lstN_end {g : List UInt8 → Rn} {k : Nat} {acc : List Nd} {o : Nat} : lstN g k acc o [] = (0, o, acc) := by
  cases k with
  | zero => rfl
  | succ k => simp [lstN]
theorem lstN_step {g : List UInt8 → Rn} {k : Nat} {acc : List Nd} {o : Nat} {ys : List UInt8} (h0 : ys.length ≠ 0) (h : (g ys).e = 0) : lstN g (k + 1) acc o ys = lstN g k (acc ++ [(g ys).v]) (o + (g ys).n) (ys.drop (g ys).n) := by rw [lstN, if_neg h0, if_pos h]
theorem lstN_stop {g : List UInt8 → Rn} {k : Nat} {acc : List Nd} {o : Nat} {ys : List UInt8} (h0 : ys.length ≠ 0) (h : (g ys).e ≠ 0) : lstN g (k + 1) acc o ys = ((g ys).e, o + (g ys).n, []) := by rw [lstN, if_neg h0, if_neg h]

/-- Where a thing is read, it has at least two bytes, and no more than there are; a place is told among the bytes. -/
theorem rn_good : ∀ (n : Nat) (xs : List UInt8), (rn n xs).n ≤ xs.length ∧ ((rn n xs).e = 0 → 2 ≤ (rn n xs).n) ∧ ((rn n xs).e ≠ 0 → (rn n xs).v = .z)
  | 0, xs => ⟨Nat.zero_le _, fun h => absurd (show (14 : Int) = 0 from h) (by decide), fun _ => rfl⟩
  | n + 1, xs => by
    have lst : ∀ (k : Nat) (acc : List Nd) (o : Nat) (ys : List UInt8), (lstN (rn n) k acc o ys).2.1 ≤ o + ys.length := by
      intro k
      induction k with
      | zero => intro acc o ys; exact Nat.le_add_right _ _
      | succ k ih =>
        intro acc o ys
        rw [lstN]
        split
        · exact Nat.le_add_right _ _
        · have := (rn_good n ys).1
          split
          · have h := ih (acc ++ [(rn n ys).v]) (o + (rn n ys).n) (ys.drop (rn n ys).n)
            rw [List.length_drop] at h
            omega
          · dsimp only; omega
    have hh := rdH_good xs
    rw [rn]
    split
    · rename_i h1
      rcases hh with h | h
      · exact ⟨h.2.2, fun h => absurd h h1, fun _ => rfl⟩
      · exact absurd h.1 h1
    · rename_i h1
      have h1' : (rdH xs).2.2 = 0 := Classical.not_not.1 h1
      rcases hh with h | ⟨_, hk, hl, hn, hp⟩
      · exact absurd h1' h.1
      split
      · exact ⟨Nat.le_refl _, fun h => absurd (show (4 : Int) = 0 from h) (by decide), fun _ => rfl⟩
      · rename_i h2
        have h5 := putH_ge2 (rdH xs).1
        have hple := hp.length_le
        split
        · split
          · exact ⟨by dsimp only; omega, fun h => absurd (show (13 : Int) = 0 from h) (by decide), fun _ => rfl⟩
          · exact ⟨by dsimp only; omega, fun _ => by dsimp only; omega, fun h => absurd rfl h⟩
        · have hl2 := lst (rdH xs).1.l.toNat [] (rdH xs).2.1 ((xs.drop (rdH xs).2.1).take (rdH xs).1.l.toNat)
          dsimp only
          generalize lstN (rn n) (rdH xs).1.l.toNat [] (rdH xs).2.1 ((xs.drop (rdH xs).2.1).take (rdH xs).1.l.toNat) = r at *
          split
          · exact ⟨by dsimp only; omega, fun _ => by dsimp only; omega, fun h => absurd rfl h⟩
          · rename_i h6
            refine ⟨?_, fun h => absurd h h6, fun _ => rfl⟩
            dsimp only
            have : ((xs.drop (rdH xs).2.1).take (rdH xs).1.l.toNat).length ≤ (xs.drop (rdH xs).2.1).length := List.length_take_le' _ _
            rw [List.length_drop] at this
            omega
end Go.Proofs.YtnjnghbonmdbdaaDoor


/- Results of a function out of its result cells. -/
namespace Go.Proofs.YtnjnghbonmdbdaaDoor
open Go.RowKit

set_option maxRecDepth 100000 in
/-- Results out of two cells; out of a slot and a cell; out of a cell and two slots. -/
theorem results_cells {P : Program} {fn : Func} {p r : Tmp} {ty tz : TypeId} (h : fn.results = #[.cell p ty, .cell r tz]) (tmps : Array Value) (w : World) (g : Nat) (t : TypeId) (cs : Array Value) (fr : Nat × Nat) (d : TypeDesc)
    (g' : Nat) (t' : TypeId) (cs' : Array Value) (fr' : Nat × Nat) (d' : TypeDesc)
    (hp : tmps.getD p undef = .pointer (some ⟨g, 0, none⟩)) (hg : w.heap[g]? = some (.cells cs t fr))
    (hu : P.underlying ty = some d) (hd : (match d with | .struct _ | .array _ _ => true | _ => false) = true) (hi : (P.info? ty).map (·.size) = some cs.size)
    (hp2 : tmps.getD r undef = .pointer (some ⟨g', 0, none⟩)) (hg2 : w.heap[g']? = some (.cells cs' t' fr'))
    (hu2 : P.underlying tz = some d') (hd2 : (match d' with | .struct _ | .array _ _ => true | _ => false) = true) (hi2 : (P.info? tz).map (·.size) = some cs'.size) :
    (results fn tmps).run P w = .ok (.tuple #[.agg cs, .agg cs']) w := by
  have hp' : tmps[p]?.getD undef = .pointer (some ⟨g, 0, none⟩) := by simpa using hp
  have hp2' : tmps[r]?.getD undef = .pointer (some ⟨g', 0, none⟩) := by simpa using hp2
  simp [results, h, hp', hp2', asAddr, run_loadVar_row w g t ty cs fr d hg hu hd hi, run_loadVar_row w g' t' tz cs' fr' d' hg2 hu2 hd2 hi2]
set_option maxRecDepth 100000 in
theorem results_tmp_cell {P : Program} {fn : Func} {p r : Tmp} {tz : TypeId} (h : fn.results = #[.tmp p, .cell r tz]) (tmps : Array Value) (w : World)
    (g' : Nat) (t' : TypeId) (cs' : Array Value) (fr' : Nat × Nat) (d' : TypeDesc)
    (hp2 : tmps.getD r undef = .pointer (some ⟨g', 0, none⟩)) (hg2 : w.heap[g']? = some (.cells cs' t' fr'))
    (hu2 : P.underlying tz = some d') (hd2 : (match d' with | .struct _ | .array _ _ => true | _ => false) = true) (hi2 : (P.info? tz).map (·.size) = some cs'.size) :
    (results fn tmps).run P w = .ok (.tuple #[tmps.getD p undef, .agg cs']) w := by
  have hp2' : tmps[r]?.getD undef = .pointer (some ⟨g', 0, none⟩) := by simpa using hp2
  simp [results, h, hp2', asAddr, run_loadVar_row w g' t' tz cs' fr' d' hg2 hu2 hd2 hi2]
set_option maxRecDepth 100000 in
theorem results_cell_tmps {P : Program} {fn : Func} {p r s : Tmp} {ty : TypeId} (h : fn.results = #[.cell p ty, .tmp r, .tmp s]) (tmps : Array Value) (w : World) (g : Nat) (t : TypeId) (cs : Array Value) (fr : Nat × Nat) (d : TypeDesc)
    (hp : tmps.getD p undef = .pointer (some ⟨g, 0, none⟩)) (hg : w.heap[g]? = some (.cells cs t fr))
    (hu : P.underlying ty = some d) (hd : (match d with | .struct _ | .array _ _ => true | _ => false) = true) (hi : (P.info? ty).map (·.size) = some cs.size) :
    (results fn tmps).run P w = .ok (.tuple #[.agg cs, tmps.getD r undef, tmps.getD s undef]) w := by
  have hp' : tmps[p]?.getD undef = .pointer (some ⟨g, 0, none⟩) := by simpa using hp
  simp [results, h, hp', asAddr, run_loadVar_row w g t ty cs fr d hg hu hd hi]
end Go.Proofs.YtnjnghbonmdbdaaDoor


/- Memory while a head is read, whoever reads it: the result's block, the head's block, the bytes. -/
namespace Go.Proofs.YtnjnghbonmdbdaaDoor
open Go.RowKit

/-- The numbers that a first byte tells, as the walk spells them. -/
theorem fb_nums (n : Nat) (h : n < 256) : IntKind.i64.wrap (n : Int) = n ∧ IntKind.i64.wrap ((n : Int) / 64) = (n : Int) / 64 ∧ (n : Int).tmod 32 = (n : Int) % 32 ∧ IntKind.u8.wrap ((n : Int) / 32) = (n : Int) / 32 ∧ (((n : Int) / 32).tmod 2 == 1) = (n / 32 % 2 == 1) := by
  refine ⟨by rw [IntWalk.i64_left, IntWalk.wrap64_in _ (by omega)], ?_, ?_, ?_, ?_⟩
  · rw [IntWalk.i64_left, IntWalk.wrap64_in _ (by omega)]
  · rw [Int.tmod_eq_emod_of_nonneg (by omega)]
  · have : IntKind.u8.wrap ((n : Int) / 32) = ((n : Int) / 32) % 256 := by rfl
    rw [this]; omega
  · rw [Int.tmod_eq_emod_of_nonneg (by omega), Bool.eq_iff_iff, beq_iff_eq, beq_iff_eq]; omega

/-- Memory while a head is read: the result's block, the head's block, the bytes, nothing old has turned. -/
structure Rdg (T : TypeId) (w W : World) (q p B o : Nat) (xs : List UInt8) (c t : Int) (m : Bool) (l : Int) : Prop where
  res : Whole W q #[.int .i64 0, .int .i64 0, .bool false, .int .i64 0] T
  head : Whole W p #[.int .i64 c, .int .i64 t, .bool m, .int .i64 l] T
  byte : ∀ i, i < xs.length → W.cell? ⟨B, o + i, none⟩ = some (.int .u8 ((xs.getD i 0).toNat : Int))
  bel : Below q w W
  lt : B < q
  ne : q < p

/-- A head stored. -/
def put4 (w : World) (q : Nat) (v0 v1 v2 v3 : Value) : World := (((w.setCell ⟨q, 0, none⟩ v0).setCell ⟨q, 1, none⟩ v1).setCell ⟨q, 2, none⟩ v2).setCell ⟨q, 3, none⟩ v3
theorem Whole.put4 {w : World} {q : Nat} {a0 a1 a2 a3 : Value} {t : TypeId} (h : Whole w q #[a0, a1, a2, a3] t) (v0 v1 v2 v3 : Value) : Whole (put4 w q v0 v1 v2 v3) q #[v0, v1, v2, v3] t := (((h.set 0 v0).set 1 v1).set 2 v2).set 3 v3
theorem below_put4 {w W : World} {n q : Nat} (h : Below n w W) (hq : n ≤ q) (v0 v1 v2 v3 : Value) : Below n w (put4 W q v0 v1 v2 v3) :=
  (((h.setCell (p := ⟨q, 0, none⟩) hq v0).setCell (p := ⟨q, 1, none⟩) hq v1).setCell (p := ⟨q, 2, none⟩) hq v2).setCell (p := ⟨q, 3, none⟩) hq v3

theorem Rdg.below {T : TypeId} {w W W' : World} {q p B o n : Nat} {xs : List UInt8} {c t : Int} {m : Bool} {l : Int} (h : Rdg T w W q p B o xs c t m l) (b : Below n W W') (hn : p < n) : Rdg T w W' q p B o xs c t m l :=
  ⟨(b.block q (Nat.lt_trans h.ne hn)).trans h.res, (b.block p hn).trans h.head, fun i hi => (b.cell (p := ⟨B, o + i, none⟩) (Nat.lt_trans h.lt (Nat.lt_trans h.ne hn))).trans (h.byte i hi), h.bel.trans (b.mono (Nat.le_of_lt (Nat.lt_trans h.ne hn))), h.lt, h.ne⟩
theorem Rdg.set3 {T : TypeId} {w W : World} {q p B o : Nat} {xs : List UInt8} {c t : Int} {m : Bool} {l : Int} (h : Rdg T w W q p B o xs c t m l) (l' : Int) : Rdg T w (W.setCell ⟨p, 3, none⟩ (.int .i64 l')) q p B o xs c t m l' :=
  ⟨h.res.grew (grew_set (grew_refl W (some p)) 3 none _) (by have := h.ne; simp; omega), h.head.set 3 _, fun i hi => by rw [(grew_set (grew_refl W (some p)) 3 none (.int .i64 l')).cell (h.byte i hi) (by have := h.lt; have := h.ne; simp; omega)], h.bel.setCell (p := ⟨p, 3, none⟩) (Nat.le_of_lt h.ne) _, h.lt, h.ne⟩
theorem Rdg.drew {T : TypeId} {w W : World} {q p B o : Nat} {xs : List UInt8} {c t : Int} {m : Bool} {l : Int} (h : Rdg T w W q p B o xs c t m l) : Rdg T w W.drew q p B o xs c t m l := ⟨h.res, h.head, h.byte, h.bel.drew, h.lt, h.ne⟩

theorem Rdg.drewN {T : TypeId} {w W : World} {q p B o : Nat} {xs : List UInt8} {c t : Int} {m : Bool} {l : Int} (h : Rdg T w W q p B o xs c t m l) (k : Nat) : Rdg T w (W.drewN k) q p B o xs c t m l :=
  ⟨h.res, h.head, h.byte, ⟨h.bel.os, h.bel.tape, h.bel.output, h.bel.size, h.bel.block⟩, h.lt, h.ne⟩

theorem own_slice {w : World} {e : TypeId} {n : Nat} {v : Value} {xs : List UInt8} (h : w.ownsRow 0 e 1 v n (cellsOf xs)) (hn : 0 < n) : ∃ b cap, v = .slice (some ⟨b, 0, none⟩) n cap ∧ n = xs.length ∧ ∀ i, i < xs.length → w.cell? ⟨b, i, none⟩ = some (.int .u8 ((xs.getD i 0).toNat : Int)) := by
  have hl := h.1
  rw [cellsOf_length] at hl
  obtain ⟨A, cc, rfl⟩ : ∃ A cc, v = .slice A n cc := by
    rcases h.2 with ⟨rfl, h0⟩ | ⟨b, cap, cur, rfl, _⟩
    · omega
    · exact ⟨_, _, rfl⟩
  obtain rfl : n = xs.length := by omega
  have hb := own_by h
  rcases h.2 with ⟨h0, h1⟩ | ⟨b, cap, cur, h1, _⟩
  · omega
  · injection h1 with h1 _ _
    subst h1
    refine ⟨b, cc, rfl, rfl, fun i hi => ?_⟩
    obtain ⟨b', o', e', _, hc⟩ := hb (by omega)
    cases e'
    simpa using hc i hi

/-- The document's Read leaves with what lies in its result. -/
theorem rd_leave {w W : World} {q p B o : Nat} {xs : List UInt8} {c t : Int} {m : Bool} {l : Int} (h : Rdg 69 w W q p B o xs c t m l) (x : Hd) (a : Act) (k : Nat) (e : Int)
    (h2 : a.tmps.getD 2 undef = .pointer (some ⟨q, 0, none⟩)) (h3 : a.tmps.getD 3 undef = .int .i64 k) (h4 : a.tmps.getD 4 undef = .int .i64 e) (hd : a.defers = []) {E : Ending → World → Prop}
    (hE : E (.returned (.tuple #[x.agg, .int .i64 k, .int .i64 e])) (put4 W q (.int .i64 x.c) (.int .i64 x.t) (.bool x.m) (.int .i64 x.l))) :
    bodyPost Tryd.prog Tryd.f33 E Exit.ret a (put4 W q (.int .i64 x.c) (.int .i64 x.t) (.bool x.m) (.int .i64 x.l)) := by
  refine bodyPost_ret (results_cell_tmps rfl _ _ q _ _ _ _ h2 (h.res.put4 _ _ _ _) Tryd.underlying69 rfl (by kernel_rfl)) hd ?_
  rw [h3, h4]
  exact hE

/-- The program's Read leaves with what lies in its result. -/
theorem rp_leave {w W : World} {q p B o : Nat} {xs : List UInt8} {c t : Int} {m : Bool} {l : Int} (h : Rdg 65 w W q p B o xs c t m l) (x : Hd) (a : Act) (k : Nat) (e : Int)
    (h2 : a.tmps.getD 2 undef = .pointer (some ⟨q, 0, none⟩)) (h3 : a.tmps.getD 3 undef = .int .i64 k) (h4 : a.tmps.getD 4 undef = .int .i64 e) (hd : a.defers = []) {E : Ending → World → Prop}
    (hE : E (.returned (.tuple #[x.agg, .int .i64 k, .int .i64 e])) (put4 W q (.int .i64 x.c) (.int .i64 x.t) (.bool x.m) (.int .i64 x.l))) :
    bodyPost Tryd.prog Tryd.f45 E Exit.ret a (put4 W q (.int .i64 x.c) (.int .i64 x.t) (.bool x.m) (.int .i64 x.l)) := by
  refine bodyPost_ret (results_cell_tmps rfl _ _ q _ _ _ _ h2 (h.res.put4 _ _ _ _) Tryd.underlying65 rfl (by kernel_rfl)) hd ?_
  rw [h3, h4]
  exact hE

end Go.Proofs.YtnjnghbonmdbdaaDoor


/- Operations of a region that draws its order, taken one by one by plain laws: what is of no kind of this program. -/
namespace Go.Proofs.YtnjnghbonmdbdaaDoor
open Go.RowKit

section
variable {ρ : Operand → Value} {o : Oper}
theorem run_moveV {x : Operand} {v : Value} (ho : o.op = .move x) (hx : ρ x = v) (w : World) : (execOp ρ o).run Tryd.prog w = .ok (.value v) w := by rw [← hx]; exact BigFrame.run_move x ho w
theorem run_callF {f : FuncId} {xs : Array Operand} {ts : Array TypeId} (ho : o.op = .call { callee := .value (.func f), args := xs, argTypes := ts }) (hf : ρ (.func f) = .func (.func f) #[] #[]) (hc : ∀ args w, (callFunc f args).run Tryd.prog w = .ok (.enter f args) w) (w : World) : (execOp ρ o).run Tryd.prog w = .ok (.enter f (xs.map ρ)) w := by
  simp [execOp, ho, hf, go_sem, hc]
theorem run_eql {t u : TypeId} {x y : Operand} {a b : Int} (ho : o.op = .binOp .eql t x y u) (hx : ρ x = .int .i64 a) (hy : ρ y = .int .i64 b) (w : World) : (execOp ρ o).run Tryd.prog w = .ok (.value (.bool (a == b))) w := by
  simp [execOp, ho, hx, hy, go_sem]
theorem run_neq {t u : TypeId} {x y : Operand} {a b : Int} (ho : o.op = .binOp .neq t x y u) (hx : ρ x = .int .i64 a) (hy : ρ y = .int .i64 b) (w : World) : (execOp ρ o).run Tryd.prog w = .ok (.value (.bool (a != b))) w := by
  simp [execOp, ho, hx, hy, go_sem]
theorem run_not {t : TypeId} {x : Operand} {b : Bool} (ho : o.op = .unOp .not t x) (hx : ρ x = .bool b) (w : World) : (execOp ρ o).run Tryd.prog w = .ok (.value (.bool (!b))) w := by
  simp [execOp, ho, hx, go_sem]
theorem run_pickT {x y z : Operand} {v : Value} (ho : o.op = .pick x y z) (hx : ρ x = .bool true) (hy : ρ y = v) (w : World) : (execOp ρ o).run Tryd.prog w = .ok (.value v) w := by
  simp [execOp, ho, hx, hy, go_sem]
theorem run_pickF {x y z : Operand} {v : Value} (ho : o.op = .pick x y z) (hx : ρ x = .bool false) (hz : ρ z = v) (w : World) : (execOp ρ o).run Tryd.prog w = .ok (.value v) w := by
  simp [execOp, ho, hx, hz, go_sem]
theorem run_asgn {x : Operand} {v : Value} (ho : o.op = .assign x) (hx : ρ x = v) (w : World) : (execOp ρ o).run Tryd.prog w = .ok (.value v) w := by
  simp [execOp, ho, hx, go_sem]
theorem run_ldI {x : Operand} {b i : Nat} {v : Value} (ho : o.op = .load 3 x) (hx : ρ x = .pointer (some ⟨b, i, none⟩)) {w : World} (hc : w.cell? ⟨b, i, none⟩ = some v) : (execOp ρ o).run Tryd.prog w = .ok (.value v) w := by
  simp [execOp, ho, hx, go_sem, hc]
theorem run_ldU {x : Operand} {b i : Nat} {v : Value} (ho : o.op = .load 5 x) (hx : ρ x = .pointer (some ⟨b, i, none⟩)) {w : World} (hc : w.cell? ⟨b, i, none⟩ = some v) : (execOp ρ o).run Tryd.prog w = .ok (.value v) w := by
  simp [execOp, ho, hx, go_sem, hc]
theorem run_ldRow {ty : TypeId} {x : Operand} {g : Nat} {v : Value} {w : World} (ho : o.op = .load ty x) (hx : ρ x = .pointer (some ⟨g, 0, none⟩)) (hr : (loadVar ty ⟨g, 0, none⟩).run Tryd.prog w = .ok v w) : (execOp ρ o).run Tryd.prog w = .ok (.value v) w := by
  unfold execOp
  simp only [ho, hx, Instr.loadAt, Instr.sureAddr, Sem.run_bind, Sem.run_pure, Result.andThen_ok, hr]
theorem run_lenU {x : Operand} {A : Option Addr} {l c : Nat} (ho : o.op = .call { callee := .builtin .len, args := #[x], argTypes := #[22] }) (hx : ρ x = .slice A l c) (w : World) : (execOp ρ o).run Tryd.prog w = .ok (.value (.int .i64 (l : Int))) w := by
  simp [execOp, ho, go_sem, hx]
theorem run_idxU {x y : Operand} {b i l c k : Nat} (ho : o.op = .indexAddr 22 x y) (hx : ρ x = .slice (some ⟨b, i, none⟩) l c) (hy : ρ y = .int .i64 (k : Int)) (hk : k < l) (w : World) : (execOp ρ o).run Tryd.prog w = .ok (.value (.pointer (some ⟨b, i + k, none⟩))) w := by
  simp [execOp, ho, go_sem, hx, hy, hk]
theorem run_newB {x : Operand} {v : Value} (ho : o.op = .buildSlice 22 1 #[(0, x)]) (hx : ρ x = v) {k : Int} (hv : v = .int .u8 k) (w : World) : (execOp ρ o).run Tryd.prog w = .ok (.value (.slice (some ⟨w.heap.size, 0, none⟩) 1 1)) (w.alloc (.cells #[.int .u8 k] 5)) := by
  subst hv
  simp [execOp, ho, hx, go_sem]
end

theorem ev_self (a : Act) (n : Nat) (v : Value) (h : n < a.tmps.size) : (a.put (some n) v).eval (.tmp n) = v := by simp [Act.put, Act.eval, h]
theorem ev_ne (a : Act) {m n : Nat} (v : Value) (h : m ≠ n) : (a.put (some m) v).eval (.tmp n) = a.eval (.tmp n) := by simp [Act.put, Act.eval, h]
theorem sz_put (a : Act) (n : Nat) (v : Value) : (a.put (some n) v).tmps.size = a.tmps.size := by simp [Act.put]
theorem act_letterC {P : Program} {c : Code} {Q : Exit → Act → World → Prop} {a : Act} {w : World} (h : ∀ A, a = A → c.wp P Q A w) : c.wp P Q a w := h a rfl
theorem put_none (a : Act) (v : Value) : a.put none v = a := rfl
theorem act_letter {P : Program} {md : Region.Mode} {ops : Array Oper} {Q : Exit → Act → World → Prop} {S : World → Prop} {fuel : Nat} {listed : Array Bool} {a : Act} {w : World} (h : ∀ A, a = A → wpAnyH P md ops Q S fuel listed A w) : wpAnyH P md ops Q S fuel listed a w := h a rfl
theorem wanted_yes {ops : Array Oper} {o : Oper} {A : Act} {j d : Nat} {b : Bool} (hg : o.guard = some (j, b)) (hd : (ops[j]?).bind (·.dst) = some d) (h : A.eval (.tmp d) = .bool b) : Region.wanted o (yielded ops A.tmps) = true := by
  simp only [Act.eval] at h
  unfold Region.wanted yielded
  rw [hg]
  simp only [hd, Option.bind_some]
  cases hx : A.tmps[d]? with
  | none => simp [Array.getD_eq_getD_getElem?, hx, undef] at h
  | some x => simp [Array.getD_eq_getD_getElem?, hx] at h; subst h; simp
theorem wanted_no {ops : Array Oper} {o : Oper} {A : Act} {j d : Nat} {b : Bool} (hg : o.guard = some (j, !b)) (hd : (ops[j]?).bind (·.dst) = some d) (h : A.eval (.tmp d) = .bool b) : Region.wanted o (yielded ops A.tmps) = false := by
  simp only [Act.eval] at h
  unfold Region.wanted yielded
  rw [hg]
  simp only [hd, Option.bind_some]
  cases hx : A.tmps[d]? with
  | none => simp [Array.getD_eq_getD_getElem?, hx, undef] at h
  | some x => simp [Array.getD_eq_getD_getElem?, hx] at h; subst h; cases b <;> rfl

section
variable {ops : Array Oper} {S : World → Prop} {o : Oper} {a : Act}
theorem wp_callG {f : FuncId} {xs : Array Operand} {ts : Array TypeId} (ho : o.op = .call { callee := .value (.func f), args := xs, argTypes := ts }) (hw : Region.wanted o (yielded ops a.tmps) = true) {vs : Array Value} (hc : ∀ args w, (callFunc f args).run Tryd.prog w = .ok (.enter f args) w) (hv : xs.map a.eval = vs) {w : World} {K : Act → World → Prop} {Q : Exit → Act → World → Prop}
    (h : Calls Tryd.prog f vs w fun e w' => ∃ v, e = .returned v ∧ K (a.put o.dst v) w') : if Region.wanted o (yielded ops a.tmps) = true then Oper.wp Tryd.prog o a w K Q else K (a.put o.dst undef) w := by
  rw [if_pos hw]
  subst hv
  unfold Oper.wp
  rw [run_callF ho rfl hc]
  exact h.mono fun e w' ⟨v, he, hk⟩ => by subst he; exact hk
theorem wp_runG (hw : Region.wanted o (yielded ops a.tmps) = true) {v : Value} {w w' : World} (hr : (execOp a.eval o).run Tryd.prog w = .ok (.value v) w') {K : Act → World → Prop} {Q : Exit → Act → World → Prop}
    (h : K (a.put o.dst v) w') : if Region.wanted o (yielded ops a.tmps) = true then Oper.wp Tryd.prog o a w K Q else K (a.put o.dst undef) w := by
  rw [if_pos hw]
  unfold Oper.wp
  rw [hr]
  exact h
theorem wp_skipG (hw : Region.wanted o (yielded ops a.tmps) = true) {w w' : World} (hr : (execOp a.eval o).run Tryd.prog w = .ok .skip w') {K : Act → World → Prop} {Q : Exit → Act → World → Prop}
    (h : K (a.put o.dst undef) w') : if Region.wanted o (yielded ops a.tmps) = true then Oper.wp Tryd.prog o a w K Q else K (a.put o.dst undef) w := by
  rw [if_pos hw]
  unfold Oper.wp
  rw [hr]
  exact h
end
end Go.Proofs.YtnjnghbonmdbdaaDoor

