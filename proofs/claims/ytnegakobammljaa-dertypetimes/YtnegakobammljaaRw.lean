/- The rows of tags: the map that the package makes. -/
import Derived.Test.YtnegakobammljaaRows
import Derived.Test.YtnegakobammljaaFoot
import Derived.Maps.OwnOps
import Derived.Lib.Hide
import Derived.Laws.EntriesVeiled
import Derived.Laws.Rows
import Derived.Deep.Cut
import Derived.IntWalk
namespace Go.Proofs.Ytnegakobammljaa
open Go.RowKit Go.Maps

theorem Whole.new_of (w : World) (cs : Array Value) (t : TypeId) {p : Nat} (hp : p = w.heap.size) : Whole (w.alloc (.cells cs t)) p cs t := by subst hp; exact Whole.new w cs t

set_option maxRecDepth 100000 in
theorem timerow_any (w : World) (n : Int) :
    Calls Try.prog 37 #[.int .i64 n] w fun e w' => ∃ p, e = .returned (.agg #[.func (.func 41) #[] #[.pointer (some ⟨p, 0, none⟩)], .int .i64 n]) ∧ w.heap.size ≤ p ∧ Whole w' p #[.int .i64 n] 3 ∧ Grew w w' none := by
  have hW : Whole ((w.alloc (.cells #[.int .i64 n] 3)).alloc (.cells #[.nilFunc, .int .i64 0] 57)) (w.heap.size + 1) #[.nilFunc, .int .i64 0] 57 := Whole.new_of _ _ _ (by simp)
  have hV : Whole ((w.alloc (.cells #[.int .i64 n] 3)).alloc (.cells #[.nilFunc, .int .i64 0] 57)) w.heap.size #[.int .i64 n] 3 := (Whole.new w _ _).grew (grew_alloc (grew_refl _ none) _) (by simp)
  have HG := Lib.hid (show Grew w ((w.alloc (.cells #[.int .i64 n] 3)).alloc (.cells #[.nilFunc, .int .i64 0] 57)) none from grew_alloc (grew_alloc (grew_refl _ _) _) _)
  have HW := Lib.hid hW
  have HV := Lib.hid hV
  clear hW hV
  go_enter Try.func37, Try.ntmps37
  go_upto_region 2 with (fail)
  generalize (w.alloc (.cells #[.int .i64 n] 3)).alloc (.cells #[.nilFunc, .int .i64 0] 57) = W at *
  obtain ⟨q, hq⟩ : ∃ q, w.heap.size + 1 = q := ⟨_, rfl⟩
  rw [hq] at HW ⊢
  obtain ⟨p, hp⟩ : ∃ p, w.heap.size = p := ⟨_, rfl⟩
  rw [hp] at HV ⊢
  have HP := Lib.hid hp
  have HQ := Lib.hid (show w.heap.size ≤ p ∧ p + 1 = q by omega)
  clear hp hq
  have b0 : W.cell? ⟨p, 0, none⟩ = some (.int .i64 n) := HV.out.cell 0
  have c0 : W.cell? ⟨q, 0, none⟩ = some .nilFunc := HW.out.cell 0
  have f0 := HW.out.frozen 0
  have h1 := HW.out.set 0 (.func (.func 41) #[] #[.pointer (some ⟨p, 0, none⟩)])
  have d1 : (W.setCell ⟨q, 0, none⟩ (.func (.func 41) #[] #[.pointer (some ⟨p, 0, none⟩)])).cell? ⟨q, 1, none⟩ = some (.int .i64 0) := h1.cell 1
  have g1 := h1.frozen 1
  have H2 := Lib.hid (h1.set 1 (.int .i64 n))
  clear h1
  go_wp2_with fail
  refine bodyPost_ret (results_cell_row rfl _ _ q _ _ _ _ rfl H2.out Try.underlying57 rfl (by kernel_rfl)) rfl ⟨p, rfl, Nat.le_of_eq HP.out, ?_, ?_⟩
  · exact HV.out.grew (grew_set (grew_set (grew_refl W (some q)) _ _ _) _ _ _) (by have := HQ.out; simp; omega)
  · exact grew_own HG.out (grew_set (grew_set (grew_refl W (some q)) _ _ _) _ _ _) (by have := HQ.out; omega)
end Go.Proofs.Ytnegakobammljaa

