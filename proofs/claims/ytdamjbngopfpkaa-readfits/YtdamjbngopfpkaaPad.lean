/- Regions that draw their order and whose calls make memory of their own alone: the class of worlds that hold what there was, and more. -/
import Derived.Test.YtdamjbngopfpkaaFoot
import Derived.BigQuiet
import Derived.Deep.QuietTactic
namespace Go.Proofs.Ytdamjbngopfpkaa
open Go.RowKit

/-- What came to a world: how many draws there are, the blocks behind its own. -/
structure Pad where
  n : Nat
  hs : Array Obj

instance : Inhabited Pad := ⟨⟨0, #[]⟩⟩

/-- A world with more. -/
def World.pad (w : World) (x : Pad) : World := { w with heap := w.heap ++ x.hs, drawn := x.n }

theorem grew_pad (w : World) (x : Pad) : Grew w (World.pad w x) none :=
  ⟨rfl, rfl, rfl, by simp [World.pad], fun i hi _ => by simp [World.pad, Array.getElem?_append_left hi]⟩
theorem pad_of_grew {w w' : World} (h : Grew w w' none) : ∃ x, w' = World.pad w x := by
  refine ⟨⟨w'.drawn, w'.heap.extract w.heap.size w'.heap.size⟩, ?_⟩
  have hh : w'.heap = w.heap ++ w'.heap.extract w.heap.size w'.heap.size := by
    apply Array.ext_getElem?
    intro i
    rcases Nat.lt_or_ge i w.heap.size with hi | hi
    · rw [Array.getElem?_append_left hi, h.block i hi (by simp)]
    · rw [Array.getElem?_append_right hi]
      rw [Array.getElem?_extract]
      have := h.size
      split
      · congr 1; omega
      · rw [Array.getElem?_eq_none (by omega)]
  obtain ⟨heap, tape, drawn, os, output⟩ := w
  obtain ⟨heap', tape', drawn', os', output'⟩ := w'
  have h1 : os' = os := h.os
  have h2 : tape' = tape := h.tape
  have h3 : output' = output := h.output
  subst h1 h2 h3
  simp only [World.pad] at hh ⊢
  rw [← hh]
theorem pad_step {w w' : World} {x : Pad} (h : Grew (World.pad w x) w' none) : ∃ y, w' = World.pad w y := pad_of_grew (grew_trans (grew_pad w x) h)
theorem pad_cell {w : World} {a : Addr} {v : Value} (h : w.cell? a = some v) (x : Pad) : (World.pad w x).cell? a = some v := (grew_pad w x).cell h (by simp)

/-- A call whose answer is the same in every such world. -/
theorem pad_call {P : Program} {f : FuncId} {args : Array Value} {w : World} {x : Pad} {v : Value}
    (h : Calls P f args (World.pad w x) fun e w' => e = .returned v ∧ Grew (World.pad w x) w' none) : Calls P f args (World.pad w x) fun e w'' => e = .returned v ∧ ∃ y, w'' = World.pad w y :=
  h.mono fun _ _ ⟨he, hm⟩ => ⟨he, pad_step hm⟩

theorem wp_region_pad {P : Program} {id : Nat} {Q : Exit → Act → World → Prop} {a : Act} {w : World} {l : List Oper} (hm : P.follows .mixedOrders = true) (hB : Region.lexB .any l.toArray = true)
    (h : wpQuiet P l.toArray (fun w' => ∃ x, w' = World.pad w x) (fun a' => ∀ w', (∃ x, w' = World.pad w x) → Q .normal a' w') l a) : (Code.region id l.toArray true).wp P Q a w :=
  wp_region_quiet (C := fun w' => ∃ x, w' = World.pad w x) hm hB (pad_of_grew (grew_drew (grew_refl w none))) (by simpa using h)

end Go.Proofs.Ytdamjbngopfpkaa

