/- The rows of tags: what the package's map tells. -/
import Derived.Test.YtnegakobammljaaRw4
import Derived.Deep.Cut
namespace Go.Proofs.Ytnegakobammljaa
open Go.RowKit Go.Maps

/-- Block q is the map of rows. -/
def RowsM (w : World) (q : Nat) : Prop := ∃ n D, RK w q n D ∧ (∀ t, t ∈ tgs → Maps.has D (.int .i64 t) = true ∧ ∃ v, (∀ z, D.atKey (.int .i64 t) z = .held v) ∧ RwOf w t v) ∧ ∀ t, t ∉ tgs → Maps.has D (.int .i64 t) = false

theorem none_yet (n i : Nat) : (Array.replicate n false).getD i false = false := by
  rw [Array.getD_eq_getD_getElem?, Array.getElem?_replicate]
  split <;> rfl
set_option maxRecDepth 100000 in
set_option maxHeartbeats 1000000 in
theorem rows_any (w : World) : Calls Try.prog 23 #[] w fun e w' => ∃ q, e = .returned (.map (some q)) ∧ RowsM w' q ∧ Grew w w' none := by
  have hW : Whole (w.alloc (.cells #[.func (.func 34) #[] #[], .int .i64 0] 57)) w.heap.size #[.func (.func 34) #[] #[], .int .i64 0] 57 := Whole.new _ _ _
  go_enter Try.func23, Try.ntmps23
  go_upto_region 2 with (fail)
  have HG := Lib.hid (show Grew w (w.alloc (.cells #[.func (.func 34) #[] #[], .int .i64 0] 57)) none from grew_alloc (grew_refl _ _) _)
  generalize w.alloc (.cells #[.func (.func 34) #[] #[], .int .i64 0] 57) = W0 at *
  generalize w.heap.size = q1 at *
  have hW2 : Whole W0.drew q1 #[.func (.func 34) #[] #[], .int .i64 0] 57 := hW
  refine Code.wp_mono (Q := fun e a' X => e = .normal ∧ ∃ listed, RwI W0.drew q1 listed a' X ∧ left listed = 0) (fun e a' X h => ?_) ?_
  · obtain ⟨rfl, listed, I, hl⟩ := h
    have all : ∀ i, i < 37 → listed.getD i false = true := fun i hi => by
      have := left_none hl i
      rw [Array.getD_eq_getD_getElem?, Array.getElem?_eq_getElem (by rw [I.szl]; exact hi)] at this ⊢
      exact this
    obtain ⟨q, n, D, h1, h2, h3, h4, h5, h6, h7⟩ := I.map (all 0 (by omega))
    have h0 : a'.tmps.getD 0 undef = .map (some q) := ((I.asn (all 36 (by omega))).2).trans h1
    have HR := Lib.hid (show RowsM X q from ⟨n, D, h3, fun t ht => by
      obtain ⟨j, hj, rfl⟩ := tgA_mem ht
      exact ⟨by rw [h5 j hj, all _ (by omega)], h7 j hj (all _ (by omega))⟩, h6⟩)
    have HX := Lib.hid (show Grew w X none from grew_trans (grew_drew HG.out) I.grew)
    have hd := I.dfr
    obtain ⟨tm, df⟩ := a'
    clear I all h1 h2 h3 h4 h5 h6 h7 hl hW hW2
    go_wp2_with fail
    refine bodyPost_ret (results_tmp rfl _ _ _) rfl ?_
    exact ⟨q, congrArg Ending.returned h0, HR.out, HX.out⟩
  · refine wp_region_any (by kernel_rfl) ?_
    refine wpAny_inv (ops := rowsR) (I := RwI W0.drew q1) rows_dag (fun _ _ _ I => I.szl) (rows_step hW2) (fun listed a w I hl => ⟨rfl, listed, I, hl⟩) _ _ _ _ rfl ?_
    refine ⟨grew_refl _ _, rfl, rfl, rfl, rfl, fun j hj h => ?_, fun h => ?_, fun j hj h => ?_, fun h => ?_, fun h => ?_⟩
    all_goals (rw [none_yet] at h; cases h)

set_option maxRecDepth 100000 in
theorem row_zero (w : World) : (zeroValue 57).run Try.prog w = .ok (.agg #[.nilFunc, .int .i64 0]) w := by kernel_rfl
theorem RowsM.look {w : World} {q : Nat} (h : RowsM w q) {t : Int} (ht : t ∈ tgs) :
    ∃ v, (Instr.lookup 59 (.map (some q)) (.int .i64 t) true).run Try.prog w = .ok (.tuple #[v, .bool true]) w ∧ (Instr.lookup 59 (.map (some q)) (.int .i64 t) false).run Try.prog w = .ok v w ∧ RwOf w t v := by
  obtain ⟨n, D, h1, h2, h3⟩ := h
  obtain ⟨j, hj, rfl⟩ := tgA_mem ht
  obtain ⟨k1, v, k2, k3⟩ := h2 _ ht
  obtain ⟨u, ps, hr, hu⟩ := World.ownsMap.look_ok h1 int_law Try.underlying59 (row_zero w) rfl (key := .int .i64 (tgA j)) (keyOf_int_mk Try.underlying3 (tg_wf hj))
  obtain ⟨u', ps', hr', hu'⟩ := World.ownsMap.lookup h1 int_law Try.underlying59 (row_zero w) rfl (key := .int .i64 (tgA j)) (keyOf_int_mk Try.underlying3 (tg_wf hj))
  have e : u = v := by simp [k2] at hu; exact hu.1
  have e' : u' = v := by simp [k2] at hu'; exact hu'.1
  subst e
  subst e'
  exact ⟨_, by rw [hr, k1], hr', k3⟩
theorem RowsM.miss {w : World} {q : Nat} (h : RowsM w q) {t : Int} (ht : t ∉ tgs) (hw : -9223372036854775808 ≤ t ∧ t ≤ 9223372036854775807) :
    (Instr.lookup 59 (.map (some q)) (.int .i64 t) true).run Try.prog w = .ok (.tuple #[.agg #[.nilFunc, .int .i64 0], .bool false]) w ∧ (Instr.lookup 59 (.map (some q)) (.int .i64 t) false).run Try.prog w = .ok (.agg #[.nilFunc, .int .i64 0]) w := by
  obtain ⟨n, D, h1, h2, h3⟩ := h
  have hk := keyOf_int_mk (P := Try.prog) Try.underlying3 (WalkArith.wf_i64 (n := t) (by omega))
  obtain ⟨u, ps, hr, hu⟩ := World.ownsMap.look_ok h1 int_law Try.underlying59 (row_zero w) rfl (key := .int .i64 t) hk
  obtain ⟨u', ps', hr', hu'⟩ := World.ownsMap.lookup h1 int_law Try.underlying59 (row_zero w) rfl (key := .int .i64 t) hk
  rw [Maps.atKey_of_not_has (h3 t ht)] at hu' hu
  have e' : u' = .agg #[.nilFunc, .int .i64 0] := by simp at hu'; exact hu'.1
  have e : u = .agg #[.nilFunc, .int .i64 0] := by simp at hu; exact hu.1
  exact ⟨by rw [hr, h3 t ht, e], by rw [hr', e']⟩
theorem RowsM.grew {w w' : World} {q : Nat} (h : RowsM w q) (g : Grew w w' none) : RowsM w' q := by
  obtain ⟨n, D, h1, h2, h3⟩ := h
  exact ⟨n, D, World.ownsMap.kept h1 g (by simp), fun t ht => ⟨(h2 t ht).1, (h2 t ht).2.imp fun v hv => ⟨hv.1, hv.2.grew g⟩⟩, h3⟩
end Go.Proofs.Ytnegakobammljaa

