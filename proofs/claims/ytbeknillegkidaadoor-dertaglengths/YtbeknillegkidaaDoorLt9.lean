/- What the listed table of the package holds, as the walks ask it. -/
import Derived.Test.YtbeknillegkidaaDoorTie
import Derived.Test.YtbeknillegkidaaDoorCards
import Derived.Test.YtbeknillegkidaaDoorMem
import Derived.LaidMore
import Derived.Lib.LaidTab
import Derived.ProofKit
import Derived.OpenShut
import Derived.Stop.Joined
import Derived.ChangeSame
namespace Go.Proofs.YtbeknillegkidaaDoor
open Go.RowKit Go.ChangeShapes Go.WideShapes Go.ChangeAt

/-- How many steps the program's own laying of its variables takes. -/
abbrev doorSteps : Nat := 33
abbrev laidList : List (String × DataW Unit) := [("passepartout/dertag.universal", Rows.laid_passepartout_dertag_universal)]
def tagTab : List (Int × Bool) := [(1, false), (2, false), (3, false), (4, false), (5, false), (6, false), (10, false), (12, false), (16, true), (17, true), (18, false), (19, false), (20, false), (22, false), (23, false), (24, false), (26, false), (28, false), (30, false)]
def tagCells : List Value := tagTab.flatMap fun x => [.int .i64 x.1, .bool x.2]
theorem laid_tab : (Rows.laid_passepartout_dertag_universal : DataW Unit) = .agg (tagTab.map fun x => .agg [.lit (.int .i64 x.1), .lit (.bool x.2)]) := rfl
theorem door_met (os : Os) (args : Array Value) : laidMetH Tryd.prog laidList ((World.doorLaid Tryd.prog doorSteps os).forCall (fun _ _ => 0) ⟨#[], args, []⟩).memory :=
  laidMetH_of_parts3 (fuel := 8) (laidMet_of_run' 8 (by kernel_rfl) (by kernel_rfl)) (by kernel_rfl) (by kernel_rfl)
theorem gTab : Tryd.prog.globalNamed "passepartout/dertag.universal" = some 0 := by kernel_rfl
theorem tTab : (Tryd.prog.globals[0]?).map (·.type) = some 52 := by kernel_rfl
theorem cTab : Tryd.prog.cellsOf 52 = 38 := by kernel_rfl
theorem cThing : Tryd.prog.cellsOf 50 = 2 := by kernel_rfl
theorem cInt9 : Tryd.prog.cellsOf 3 = 1 := by kernel_rfl
theorem cBool9 : Tryd.prog.cellsOf 4 = 1 := by kernel_rfl

/-- The table's block. -/
def Tb (w : World) : Prop := ∃ t, Whole w 0 tagCells.toArray t
theorem Tb.lt {w : World} (h : Tb w) : 0 < w.heap.size := h.elim fun _ k => k.lt
theorem Tb.below {n : Nat} {w w' : World} (h : Tb w) (b : Below n w w') (hn : 0 < n) : Tb w' := h.elim fun t k => ⟨t, (b.block 0 hn).trans k⟩
theorem Tb.self {w w' : World} (h : Tb w) (b : Below w.heap.size w w') : Tb w' := h.below b h.lt
theorem Tb.alloc {w : World} (h : Tb w) (o : Obj) : Tb (w.alloc o) := h.self ((Below.refl _ w).alloc (Nat.le_refl _) o)
theorem Tb.drew {w : World} (h : Tb w) : Tb w.drew := h

theorem thing_open {H : Type} {enc : TypeId × Value → H} {W : World} {base : Nat} {sp : Nat → Bool} {held : Bool} {fuel : Nat} {cs : List Value} {z : Int} {b : Bool} {p : List MemPlace}
    (h : DataW.trod enc Tryd.prog W base sp held fuel 50 cs = some (.agg [.lit (.int .i64 z), .lit (.bool b)], p)) : cs = [.int .i64 z, .bool b] := by
  obtain ⟨y0, y1, n, hx, hl, h0, h1⟩ := trod_struct2 Tryd.underlying50 h
  rw [cThing] at hl
  match cs, hl with
  | [v0, v1], _ =>
    simp only [cInt9, cBool9, List.drop_zero, List.take_succ_cons, List.take_zero, List.drop_succ_cons] at h0 h1
    obtain ⟨a0, e0, x0, _⟩ := DataW.trod_int Tryd.underlying3 h0
    obtain ⟨a1, e1, x1⟩ := DataW.trod_bool Tryd.underlying4 h1
    subst x0 x1
    simp only [List.cons.injEq, and_true] at e0 e1
    subst e0 e1
    simp only [Prod.mk.injEq, DataW.agg.injEq, List.cons.injEq, DataW.lit.injEq, Lit.int.injEq, Lit.bool.injEq, true_and, and_true] at hx
    obtain ⟨⟨rfl, rfl⟩, _⟩ := hx
    rfl

set_option maxRecDepth 100000 in
theorem tb_of_laid {W : World} (h : laidMetH Tryd.prog laidList W) : Tb W := by
  rw [MakeChecks.laidMetH_plain _ _ _ (by kernel_rfl)] at h
  obtain ⟨ps, ⟨g', t', cs, fuel, p, q, hg', ht', hvar, hd, hps, hps2⟩, _, hpl⟩ := h
  obtain rfl := Option.some.inj (gTab.symm.trans hg')
  obtain rfl := Option.some.inj (tTab.symm.trans ht')
  have hcell := World.var?_cell gTab hvar
  have hcs : cs.toList = tagCells := by
    rw [laid_tab] at hd
    cases fuel with
    | zero => simp [DataW.trod] at hd
    | succ fuel =>
      simp only [DataW.trod, Tryd.underlying52, cThing, cTab] at hd
      split at hd
      · rename_i hl
        obtain ⟨xs, hm, hx⟩ := Option.map_eq_some_iff.1 hd
        have hxs : xs.map (·.1) = tagTab.map fun x => (.agg [.lit (.int .i64 x.1), .lit (.bool x.2)] : DataW Unit) := by
          have := congrArg Prod.fst hx
          simpa using this
        have hxl : xs.length = 19 := by simpa using Lib.mapM_length hm
        have each : ∀ i, i < 19 → (cs.toList.drop (i * 2)).take 2 = [.int .i64 (tagTab.getD i default).1, .bool (tagTab.getD i default).2] := by
          intro i hi
          obtain ⟨b, hb, hf⟩ := Lib.mapM_at hm i i (by simp [hi])
          have h2 : (xs.map (·.1))[i]? = some b.1 := by simp [hb]
          rw [hxs] at h2
          have hi' : i < tagTab.length := hi
          rw [List.getElem?_map, List.getElem?_eq_getElem hi'] at h2
          simp only [Option.map_some, Option.some.injEq] at h2
          have hb2 : b = (.agg [.lit (.int .i64 tagTab[i].1), .lit (.bool tagTab[i].2)], b.2) := by rw [h2]
          rw [hb2] at hf
          have := thing_open hf
          rw [this]
          simp [List.getD_eq_getElem?_getD, List.getElem?_eq_getElem hi']
        apply List.ext_getElem?
        intro k
        have hk2 : k = k / 2 * 2 + k % 2 := by omega
        rcases Nat.lt_or_ge k 38 with hk | hk
        · have e := each (k / 2) (by omega)
          have e2 := congrArg (·[k % 2]?) e
          have e2 : ((cs.toList.drop (k / 2 * 2)).take 2)[k % 2]? = [Value.int .i64 (tagTab.getD (k / 2) default).1, Value.bool (tagTab.getD (k / 2) default).2][k % 2]? := e2
          rw [List.getElem?_take_of_lt (by omega), List.getElem?_drop, ← hk2] at e2
          rw [e2]
          have hall : ∀ k, k < 38 → [Value.int .i64 (tagTab.getD (k / 2) default).1, Value.bool (tagTab.getD (k / 2) default).2][k % 2]? = tagCells[k]? := by
            intro k hk
            have : k = 0 ∨ k = 1 ∨ k = 2 ∨ k = 3 ∨ k = 4 ∨ k = 5 ∨ k = 6 ∨ k = 7 ∨ k = 8 ∨ k = 9 ∨ k = 10 ∨ k = 11 ∨ k = 12 ∨ k = 13 ∨ k = 14 ∨ k = 15 ∨ k = 16 ∨ k = 17 ∨ k = 18 ∨ k = 19 ∨ k = 20 ∨ k = 21 ∨ k = 22 ∨ k = 23 ∨ k = 24 ∨ k = 25 ∨ k = 26 ∨ k = 27 ∨ k = 28 ∨ k = 29 ∨ k = 30 ∨ k = 31 ∨ k = 32 ∨ k = 33 ∨ k = 34 ∨ k = 35 ∨ k = 36 ∨ k = 37 := by omega
            rcases this with rfl | rfl | rfl | rfl | rfl | rfl | rfl | rfl | rfl | rfl | rfl | rfl | rfl | rfl | rfl | rfl | rfl | rfl | rfl | rfl | rfl | rfl | rfl | rfl | rfl | rfl | rfl | rfl | rfl | rfl | rfl | rfl | rfl | rfl | rfl | rfl | rfl | rfl <;> rfl
          exact hall k hk
        · rw [List.getElem?_eq_none (by omega), List.getElem?_eq_none (by show 38 ≤ k; exact hk)]
      · cases hd
  have hcs' : cs = tagCells.toArray := by rw [← hcs]
  subst hcs'
  obtain ⟨⟨c, t, hc⟩, _⟩ := hpl 0 0 (by rw [hps2]; simp [MemPlace.row, tagCells, tagTab])
  refine ⟨t, ?_⟩
  have : W.var? Tryd.prog "passepartout/dertag.universal" = some c := by simp [World.var?, gTab, hc]
  rw [hvar] at this
  cases this
  exact hc

/-- What a walk reads of the table. -/
theorem Tb.load {w : World} (h : Tb w) : (loadVar 52 ⟨0, 0, none⟩).run Tryd.prog w = .ok (.agg tagCells.toArray) w := by
  obtain ⟨t, k⟩ := h
  exact run_loadVar_row w 0 t 52 tagCells.toArray _ _ k Tryd.underlying52 rfl (by kernel_rfl)
theorem tab_index (w : World) (i : Nat) (hi : i < 19) : (Instr.index 52 (.agg tagCells.toArray) (.int .i64 (i : Int))).run Tryd.prog w = .ok (.agg #[.int .i64 (tagTab.getD i default).1, .bool (tagTab.getD i default).2]) w := by
  have : i = 0 ∨ i = 1 ∨ i = 2 ∨ i = 3 ∨ i = 4 ∨ i = 5 ∨ i = 6 ∨ i = 7 ∨ i = 8 ∨ i = 9 ∨ i = 10 ∨ i = 11 ∨ i = 12 ∨ i = 13 ∨ i = 14 ∨ i = 15 ∨ i = 16 ∨ i = 17 ∨ i = 18 := by omega
  rcases this with rfl | rfl | rfl | rfl | rfl | rfl | rfl | rfl | rfl | rfl | rfl | rfl | rfl | rfl | rfl | rfl | rfl | rfl | rfl <;> rfl
end Go.Proofs.YtbeknillegkidaaDoor

