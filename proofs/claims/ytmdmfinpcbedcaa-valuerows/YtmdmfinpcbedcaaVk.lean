/- Which field is a kind's: the map. -/
import Derived.Test.YtmdmfinpcbedcaaVm
import Derived.Maps.OwnOps
namespace Go.Proofs.Ytmdmfinpcbedcaa
open Go.RowKit Go.Maps

theorem kinds_law : Keyed Try.prog 3 := int_keyed Try.underlying3
theorem kinds_zero (w : World) : (zeroValue 3).run Try.prog w = .ok (.int .i64 0) w := by kernel_rfl
/-- What the map reads as. -/
def kindsD : DataW Unit := ((((((DataW.map []).put (.int .i64 0) (.lit (.int .i64 0))).put (.int .i64 1) (.lit (.int .i64 1))).put (.int .i64 2) (.lit (.int .i64 2))).put (.int .i64 3) (.lit (.int .i64 2))).put (.int .i64 4) (.lit (.int .i64 1))).put (.int .i64 5) (.lit (.int .i64 1))
/-- Block q is the map. -/
def Kinds (w : World) (q : Nat) : Prop := w.ownsMap (H := Unit) Try.prog 3 (plainElem Try.prog 3) q 6 kindsD
theorem Kinds.grew {w w' : World} {q : Nat} (h : Kinds w q) (g : Grew w w' none) : Kinds w' q := World.ownsMap.kept h g (by simp)
theorem Kinds.look {w : World} {q : Nat} (h : Kinds w q) {k : Int} (hk : k = 0 ∨ k = 1 ∨ k = 2 ∨ k = 3 ∨ k = 4 ∨ k = 5) : (Instr.lookup 69 (.map (some q)) (.int .i64 k) false).run Try.prog w = .ok (.int .i64 (Va.own k : Int)) w := by
  have hkey : keyOf Try.prog 3 (.int .i64 k) = some (.int .i64 k) := keyOf_int_mk Try.underlying3 (WalkArith.wf_i64 (by omega))
  obtain ⟨c, hrun, hat, _⟩ := World.ownsMap.lookup_int h kinds_law Try.underlying69 Try.underlying3 (kinds_zero _) hkey
  have hc : c = (Va.own k : Int) := by
    rcases hk with rfl | rfl | rfl | rfl | rfl | rfl <;> (injection hat with hat; injection hat with _ hat; exact hat.symm)
  rw [hrun, hc]

theorem kinds_any (w : World) :
    Calls Try.prog 36 #[] w fun e w' => ∃ q, e = .returned (.map (some q)) ∧ Kinds w' q ∧ Grew w w' none := by
  have hmm := @run_makeMap Try.prog
  have o0 := World.ownsMap_made (H := Unit) w Try.prog 3 (plainElem Try.prog 3)
  obtain ⟨w1, r1, o1, g1⟩ := o0.update kinds_law Try.underlying69 (by unfold maxLen; omega) (key := .int .i64 0) (val := .int .i64 0) (keyOf_int_mk Try.underlying3 (WalkArith.wf_i64 (by omega))) (plainElem_int Try.underlying3 (WalkArith.wf_i64 (by omega)))
  obtain ⟨w2, r2, o2, g2⟩ := o1.update kinds_law Try.underlying69 (by unfold maxLen; omega) (key := .int .i64 1) (val := .int .i64 1) (keyOf_int_mk Try.underlying3 (WalkArith.wf_i64 (by omega))) (plainElem_int Try.underlying3 (WalkArith.wf_i64 (by omega)))
  obtain ⟨w3, r3, o3, g3⟩ := o2.update kinds_law Try.underlying69 (by unfold maxLen; omega) (key := .int .i64 2) (val := .int .i64 2) (keyOf_int_mk Try.underlying3 (WalkArith.wf_i64 (by omega))) (plainElem_int Try.underlying3 (WalkArith.wf_i64 (by omega)))
  obtain ⟨w4, r4, o4, g4⟩ := o3.update kinds_law Try.underlying69 (by unfold maxLen; omega) (key := .int .i64 3) (val := .int .i64 2) (keyOf_int_mk Try.underlying3 (WalkArith.wf_i64 (by omega))) (plainElem_int Try.underlying3 (WalkArith.wf_i64 (by omega)))
  obtain ⟨w5, r5, o5, g5⟩ := o4.update kinds_law Try.underlying69 (by unfold maxLen; omega) (key := .int .i64 4) (val := .int .i64 1) (keyOf_int_mk Try.underlying3 (WalkArith.wf_i64 (by omega))) (plainElem_int Try.underlying3 (WalkArith.wf_i64 (by omega)))
  obtain ⟨w6, r6, o6, g6⟩ := o5.update kinds_law Try.underlying69 (by unfold maxLen; omega) (key := .int .i64 5) (val := .int .i64 1) (keyOf_int_mk Try.underlying3 (WalkArith.wf_i64 (by omega))) (plainElem_int Try.underlying3 (WalkArith.wf_i64 (by omega)))
  have HK := Lib.hid (show Kinds w6 w.heap.size from o6)
  have HG := Lib.hid (show Grew w w6 none from grew_own (grew_own (grew_own (grew_own (grew_own (grew_own (grew_alloc (grew_refl w none) _) g1 (Nat.le_refl _)) g2 (Nat.le_refl _)) g3 (Nat.le_refl _)) g4 (Nat.le_refl _)) g5 (Nat.le_refl _)) g6 (Nat.le_refl _))
  clear o0 o1 o2 o3 o4 o5 o6 g1 g2 g3 g4 g5 g6
  go_enter Try.func36, Try.ntmps36
  go_wp2_with fail
  go_ret
  exact ⟨_, rfl, HK.out, HG.out⟩
end Go.Proofs.Ytmdmfinpcbedcaa

