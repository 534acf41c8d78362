/- Acts that were done, in a row of their own; what bytes they are. -/
import Derived.Test.YtkeiamihgcbcbaaDo2
import Derived.Deep.AppendLies
namespace Go.Proofs.Ytkeiamihgcbcbaa
open Go.RowKit

/-- The bytes of an act that was done. -/
def encA (a : Ac) : List UInt8 := if a.kind = 0 then be a.size.toNat a.x else a.bs
def encs (ts : List Ac) : List UInt8 := ts.flatMap encA
/-- It was done. -/
def TkOk (a : Ac) : Prop := (a.kind = 0 ∧ sizeOk a.size ∧ a.x < 256 ^ a.size.toNat) ∨ a.kind = 1

theorem back_step (most : Nat) (xs : List UInt8) (a : Ac) (hk : a.kind = 0 ∨ a.kind = 1) :
    (doE most xs [] a = 0 ∧ TkOk a ∧ doX most xs [] a = xs ++ encA a) ∨ (doE most xs [] a ≠ 0 ∧ doX most xs [] a = xs) := by
  rcases hk with hk | hk
  · simp only [doE, doX, encA, TkOk, hk, if_true, nbE, nbX]
    by_cases h1 : sizeOk a.size
    · by_cases h2 : a.x < 256 ^ a.size.toNat
      · simp only [if_pos h1, if_pos h2, adE, adX, be_length]
        by_cases h3 : most < xs.length + a.size.toNat
        · simp only [if_pos h3]; simp
        · simp only [if_neg h3]; simp [h1, h2]
      · simp only [if_pos h1, if_neg h2]; simp
    · simp only [if_neg h1]; simp
  · simp only [doE, doX, encA, TkOk, hk, show ¬ ((1 : Int) = 0) from by decide, if_false, if_true, adE, adX]
    by_cases h3 : most < xs.length + a.bs.length
    · simp only [if_pos h3]; simp
    · simp only [if_neg h3]; simp
theorem back_doP (most : Nat) (xs : List UInt8) (a : Ac) (hk : a.kind = 0 ∨ a.kind = 1) : doP most xs [] a = [] := by
  rcases hk with hk | hk <;> simp [doP, hk]

/-- The cells of a row of acts. -/
def actCells (ts : List Ac) : List Value := ts.flatMap fun a => a.cells.toList
theorem actCells_append (ts us : List Ac) : actCells (ts ++ us) = actCells ts ++ actCells us := by simp [actCells]
theorem actCells_length (ts : List Ac) : (actCells ts).length = ts.length * 5 := by
  induction ts with
  | nil => rfl
  | cons a ts ih =>
    have : actCells (a :: ts) = a.cells.toList ++ actCells ts := by simp [actCells]
    rw [this, List.length_append, ih]
    simp [Ac.cells]
    omega
theorem actCells_at (ts : List Ac) (i j : Nat) (hi : i < ts.length) (hj : j < 5) : (actCells ts)[i * 5 + j]? = (ts.getD i default).cells[j]? := by
  induction ts generalizing i with
  | nil => simp at hi
  | cons a ts ih =>
    have e : actCells (a :: ts) = a.cells.toList ++ actCells ts := by simp [actCells]
    have hl : a.cells.toList.length = 5 := by simp [Ac.cells]
    rw [e]
    cases i with
    | zero =>
      rw [List.getElem?_append_left (by omega)]
      simp
    | succ i =>
      rw [List.getElem?_append_right (by omega), hl, show (i + 1) * 5 + j - 5 = i * 5 + j from by omega, ih i (by simpa using hi)]
      simp

theorem act_info : (Try.prog.info? 34).map (fun i => (i.zero, i.size, i.bytes)) = some (some (.agg #[.int .i64 0, .int .i64 0, .int .i64 0, .int .u64 0, .slice none 0 0]), 5, 56) := by kernel_rfl

/-- The row of acts that were done: apart from what F holds. -/
def Took (w : World) (F : Nat → Prop) (v : Value) (ts : List Ac) : Prop := w.ownsRow 0 34 5 v ts.length (actCells ts) ∧ ∀ g, v.ownBlock = some g → ¬ F g
theorem Took.fr {w w' : World} {F F' : Nat → Prop} {v : Value} {ts : List Ac} (h : Took w F v ts) (g : Fr w w' F) (hn : ∀ i, F' i → F i ∨ w.heap.size ≤ i) : Took w' F' v ts :=
  ⟨own_fr h.1 g h.2, fun k hk hf => by
    rcases hn k hf with h1 | h1
    · exact h.2 k hk h1
    · have := own_lt h.1 k hk; omega⟩
theorem Took.more {w w' : World} {F : Nat → Prop} {v v' : Value} {ts : List Ac} {a : Ac} (h : Took w F v ts) (hF : ∀ i, F i → i < w.heap.size) (ho : w'.ownsRow 0 34 5 v' (ts.length + 1) (actCells ts ++ a.cells.toList))
    (ha : v'.ownBlock = v.ownBlock ∨ ∃ g, v'.ownBlock = some g ∧ w.heap.size ≤ g) : Took w' F v' (ts ++ [a]) := by
  refine ⟨?_, fun k hk hf => ?_⟩
  · rw [actCells_append, List.length_append]
    have : actCells [a] = a.cells.toList := by simp [actCells]
    rw [this]
    exact ho
  · rcases ha with e | ⟨g, e, hg⟩
    · exact h.2 k (by rw [← e]; exact hk) hf
    · rw [hk] at e
      injection e with e
      have := hF k hf
      omega
theorem Took.cell {w : World} {F : Nat → Prop} {g n c : Nat} {ts : List Ac} (h : Took w F (.slice (some ⟨g, 0, none⟩) n c) ts) {k j : Nat} (hk : k < ts.length) (hj : j < 5) : w.cell? ⟨g, k * 5 + j, none⟩ = (ts.getD k default).cells[j]? := by
  have hn : n = ts.length := by
    rcases h.1.2 with ⟨e, _⟩ | ⟨_, _, _, e, _⟩
    · cases e
    · injection e
  subst hn
  rw [h.1.cellAt _ (by omega), actCells_at _ _ _ hk hj]

end Go.Proofs.Ytkeiamihgcbcbaa

