/- What is the same for every kind of Lazy: what a way to make it answers, what is left behind it. -/
import Derived.Test.YtooiejfabnaljaaOnc2
namespace Go.Proofs.Ytooiejfabnaljaa
open Go.RowKit

theorem fr_set (w : World) (p i : Nat) (u : Value) : Fr w (w.setCell ⟨p, i, none⟩ u) (fun j => j = p) := Fr.set (F := fun j => j = p) (Fr.refl _ _) (.inl rfl) _ _ _
theorem fr_both {w w1 w2 : World} {p : Nat} {F : Nat → Prop} (h : Fr w w1 (fun i => i = p)) (k : Fr w1 w2 F) : Fr w w2 (fun i => i = p ∨ F i) :=
  (h.mono (G := fun i => i = p ∨ F i) (fun _ _ h => .inl h)).trans k (fun _ _ h => .inr h)
theorem fr_then {w w1 w2 : World} {F : Nat → Prop} (h : Fr w w1 F) (k : Fr w1 w2 F) : Fr w w2 F := h.trans k (fun _ _ h => h)

/-- It answers some value, and of that and the world behind it this holds. -/
def Ans {X : Type} (mk : X → Value) (Post : X → World → Prop) (e : Ending) (w' : World) : Prop := ∃ x, e = .returned (mk x) ∧ Post x w'

/-- Behind fill: what the way to make it left in some world w2; then nothing turned but the Lazy itself, which now holds it. -/
def Filled {X : Type} (T : TypeId) (mk : X → Value) (F : Nat → Prop) (Post : X → World → Prop) (p : Nat) (d s z : Value) (w w' : World) : Prop :=
  ∃ x w2, Post x w2 ∧ Fr w w2 (fun i => i = p ∨ F i) ∧ Fr w2 w' (fun i => i = p) ∧ Whole w' p #[d, s, z, .nilFunc, mk x, .int .u32 1] T

/-- Behind the first Get. -/
def Got {X : Type} (T : TypeId) (mk : X → Value) (F : Nat → Prop) (Post : X → World → Prop) (p : Nat) (w : World) (e : Ending) (w' : World) : Prop :=
  ∃ x w2, e = .returned (mk x) ∧ Post x w2 ∧ Fr w w2 (fun i => i = p ∨ F i) ∧ Fr w2 w' (fun i => i = p) ∧ Whole w' p #[.int .u32 1, .int .i32 0, .int .u32 0, .nilFunc, mk x, .int .u32 1] T

end Go.Proofs.Ytooiejfabnaljaa

