/- What the laws of layer 9 need beside the contracts. -/
import Derived.Test.YtbeknillegkidaaDoorAl9
import Derived.Test.YtbeknillegkidaaDoorDr
import Derived.Test.YtbeknillegkidaaDoorOpen
namespace Go.Proofs.YtbeknillegkidaaDoor
open Go.RowKit

theorem byt_below {w w' : World} {B n : Nat} {A : Option Addr} {xs : List UInt8} (h : Byt w B A xs) (b : Below n w w') (hn : B ≤ n) : Byt w' B A xs := by
  intro hx
  obtain ⟨p, o, rfl, hp, hc⟩ := h hx
  exact ⟨p, o, rfl, hp, fun i hi => (b.cell (p := ⟨p, o + i, none⟩) (Nat.lt_of_lt_of_le hp hn)).trans (hc i hi)⟩
/-- A new block behind a call. -/
theorem new_block {w w' : World} {n : Nat} (b : Below n w w') (hn : n ≤ w'.heap.size) (cs : Array Value) (t : TypeId) : ∃ p W, w'.heap.size = p ∧ w'.alloc (.cells cs t) = W ∧ W.heap.size = p + 1 ∧ n ≤ p ∧ Whole W p cs t ∧ Below n w W ∧ (∀ q cs' t', Whole w' q cs' t' → Whole W q cs' t') :=
  ⟨_, _, rfl, rfl, by simp, hn, Whole.new w' cs t, b.alloc hn _, fun _ _ _ h => h.grew (grew_alloc (grew_refl w' none) _) (by simp)⟩
theorem whole_below {w w' : World} {n q : Nat} {cs : Array Value} {t : TypeId} (h : Whole w q cs t) (b : Below n w w') (hq : q < n) : Whole w' q cs t := (b.block q hq).trans h
/-- A head's cells. -/
theorem whole_head {w : World} {p : Nat} {v0 v1 v2 v3 : Value} {t : TypeId} (h : Whole w p #[v0, v1, v2, v3] t) : w.cell? ⟨p, 0, none⟩ = some v0 ∧ w.cell? ⟨p, 1, none⟩ = some v1 ∧ w.cell? ⟨p, 2, none⟩ = some v2 ∧ w.cell? ⟨p, 3, none⟩ = some v3 := ⟨h.cell 0, h.cell 1, h.cell 2, h.cell 3⟩
end Go.Proofs.YtbeknillegkidaaDoor

