/- Plain facts on memory: bytes that a slice reads as, a block that is known whole, worlds that differ in one block. -/
import Derived.WalkKit
import Derived.WalkSpells
import Derived.WalkLawsBesides
import Derived.Laws.BytesArg
import Derived.Laws.CopyOwn
namespace Go.Proofs.Ytnegakobammljaa
open Go.RowKit

/-- The slice at A holds the bytes xs, in a block below B (of no bytes nothing is asked). -/
def Byt (w : World) (B : Nat) (A : Option Addr) (xs : List UInt8) : Prop :=
  0 < xs.length → ∃ b o, A = some ⟨b, o, none⟩ ∧ b < B ∧ ∀ i, i < xs.length → w.cell? ⟨b, o + i, none⟩ = some (.int .u8 ((xs.getD i 0).toNat : Int))

/-- A block of cells, whole, nothing frozen. -/
def Whole (w : World) (p : Nat) (cs : Array Value) (t : TypeId) : Prop := w.heap[p]? = some (.cells cs t (0, 0))

theorem Whole.lt {w : World} {p : Nat} {cs : Array Value} {t : TypeId} (h : Whole w p cs t) : p < w.heap.size := by
  rcases Nat.lt_or_ge p w.heap.size with h1 | h1
  · exact h1
  · unfold Whole at h; rw [Array.getElem?_eq_none h1] at h; cases h

theorem Whole.cell {w : World} {p : Nat} {cs : Array Value} {t : TypeId} (h : Whole w p cs t) (i : Nat) : w.cell? ⟨p, i, none⟩ = cs[i]? := by
  unfold Whole at h
  simp [World.cell?, h]

theorem Whole.frozen {w : World} {p : Nat} {cs : Array Value} {t : TypeId} (h : Whole w p cs t) (i : Nat) : w.frozen? ⟨p, i, none⟩ = false := by
  unfold Whole at h
  simp [World.frozen?, h]

theorem Whole.new (w : World) (cs : Array Value) (t : TypeId) : Whole (w.alloc (.cells cs t)) w.heap.size cs t := heap_alloc_new w _

theorem Whole.set {w : World} {p : Nat} {cs : Array Value} {t : TypeId} (h : Whole w p cs t) (i : Nat) (u : Value) : Whole (w.setCell ⟨p, i, none⟩ u) p (cs.setIfInBounds i u) t := by
  unfold Whole at h ⊢
  simp [World.setCell, Array.getElem?_modify, h]

/-- Nothing that was there has turned but block 'row' (none: nothing). -/
abbrev Grew (w w' : World) (row : Option Nat) : Prop := w.grownBy w' row

theorem grew_refl (w : World) (row : Option Nat) : Grew w w row := ⟨rfl, rfl, rfl, Nat.le_refl _, fun _ _ _ => rfl⟩
theorem grew_trans {a b c : World} {row : Option Nat} (h : Grew a b row) (k : Grew b c row) : Grew a c row :=
  ⟨k.os.trans h.os, k.tape.trans h.tape, k.output.trans h.output, Nat.le_trans h.size k.size, fun i hi hn => (k.block i (Nat.lt_of_lt_of_le hi h.size) hn).trans (h.block i hi hn)⟩
theorem grew_weak {a b : World} {row : Option Nat} (h : Grew a b none) : Grew a b row := ⟨h.os, h.tape, h.output, h.size, fun i hi _ => h.block i hi (by simp)⟩
theorem grew_alloc {a w : World} {row : Option Nat} (h : Grew a w row) (o : Obj) : Grew a (w.alloc o) row :=
  grew_trans h ⟨rfl, rfl, rfl, by simp, fun i hi _ => Below.heap_alloc _ _ _ hi⟩
theorem grew_set {a w : World} {p : Nat} (h : Grew a w (some p)) (i : Nat) (s : Option Nat) (u : Value) : Grew a (w.setCell ⟨p, i, s⟩ u) (some p) :=
  grew_trans h ⟨rfl, rfl, rfl, by simp [World.setCell], fun k _ hk => Below.heap_setCell _ _ _ _ (fun e => hk (by rw [e]))⟩
theorem grew_drewN {a w : World} {row : Option Nat} (h : Grew a w row) (n : Nat) : Grew a (w.drewN n) row := ⟨h.os, h.tape, h.output, h.size, h.block⟩
theorem grew_drew {a w : World} {row : Option Nat} (h : Grew a w row) : Grew a w.drew row := ⟨h.os, h.tape, h.output, h.size, h.block⟩
theorem grew_own {a b c : World} {row : Option Nat} {p : Nat} (h : Grew a b row) (k : Grew b c (some p)) (hp : a.heap.size ≤ p) : Grew a c row :=
  ⟨k.os.trans h.os, k.tape.trans h.tape, k.output.trans h.output, Nat.le_trans h.size k.size, fun i hi hn => (k.block i (Nat.lt_of_lt_of_le hi h.size) (fun e => by cases e; omega)).trans (h.block i hi hn)⟩
theorem grew_below {a b : World} {row : Option Nat} {B : Nat} (h : Grew a b row) (hB : B ≤ a.heap.size) (hr : ∀ k, row = some k → B ≤ k) : Below B a b :=
  ⟨h.os, h.tape, h.output, h.size, fun k hk => h.block k (by omega) (fun e => by have := hr k e.symm; omega)⟩

theorem Whole.grew {w w' : World} {row : Option Nat} {p : Nat} {cs : Array Value} {t : TypeId} (h : Whole w p cs t) (g : Grew w w' row) (hr : some p ≠ row) : Whole w' p cs t :=
  (g.block p h.lt hr).trans h

theorem Byt.grew {w w' : World} {row : Option Nat} {B : Nat} {A : Option Addr} {xs : List UInt8} (h : Byt w B A xs) (g : Grew w w' row) (hr : ∀ k, row = some k → B ≤ k) : Byt w' B A xs := by
  intro hn
  obtain ⟨b, o, rfl, hb, hc⟩ := h hn
  exact ⟨b, o, rfl, hb, fun i hi => g.cell (hc i hi) (fun e => by have := hr b e.symm; omega)⟩
theorem Byt.more {w : World} {B B' : Nat} {A : Option Addr} {xs : List UInt8} (h : Byt w B A xs) (hB : B ≤ B') : Byt w B' A xs := by
  intro hn
  obtain ⟨b, o, rfl, hb, hc⟩ := h hn
  exact ⟨b, o, rfl, by omega, hc⟩
theorem Byt.take {w : World} {B : Nat} {A : Option Addr} {xs : List UInt8} (h : Byt w B A xs) (k : Nat) : Byt w B A (xs.take k) := by
  intro hn
  have hl : (xs.take k).length ≤ xs.length := List.length_take_le' _ _
  obtain ⟨b, o, rfl, hb, hc⟩ := h (by omega)
  refine ⟨b, o, rfl, hb, fun i hi => ?_⟩
  rw [hc i (by omega)]
  have hik : i < k := by rw [List.length_take] at hi; omega
  simp [List.getD, List.getElem?_take_of_lt hik]

/-- Where a slice's rest begins: at its very end the address stays. -/
def cutAt (A : Option Addr) (c k : Nat) : Option Addr := if c = k then A else A.map (fun x => x.add k)

theorem Byt.drop {w : World} {B : Nat} {A : Option Addr} {xs : List UInt8} (h : Byt w B A xs) {k c : Nat} (hc : xs.length ≤ c) : Byt w B (cutAt A c k) (xs.drop k) := by
  intro hn
  rw [List.length_drop] at hn
  obtain ⟨b, o, rfl, hb, hcell⟩ := h (by omega)
  refine ⟨b, o + k, ?_, hb, fun i hi => ?_⟩
  · unfold cutAt
    rw [if_neg (by omega)]
    by_cases h0 : k = 0
    · subst h0; simp [Addr.add]
    · simp [Addr.add, h0]
  · rw [List.length_drop] at hi
    rw [Nat.add_assoc, hcell (k + i) (by omega)]
    simp [List.getD, List.getElem?_drop]

/-- The bytes as a text. -/
def txt (xs : List UInt8) : ByteArray := ⟨xs.toArray⟩
theorem txt_size (xs : List UInt8) : (txt xs).size = xs.length := by simp [txt, ByteArray.size]
theorem txt_append (xs ys : List UInt8) : txt xs ++ txt ys = txt (xs ++ ys) := by
  apply ByteArray.ext; simp [txt]

theorem strOf_map (xs : List UInt8) : strOfNums (xs.map fun x => (x.toNat : Int)) = txt xs := by
  simp only [strOfNums, txt, List.map_map]
  congr 2
  conv => rhs; rw [← List.map_id xs]
  apply List.map_congr_left
  intro x _
  simp

/-- 'string(b)'. -/
theorem conv_txt {P : Program} (w : World) {src e dst : TypeId} (hs : P.underlying src = some (.slice e)) (he : P.underlying e = some (.int .u8)) (hd : P.underlying dst = some .string)
    {B : Nat} {A : Option Addr} {xs : List UInt8} (h : Byt w B A xs) {n : Nat} (hn : n = xs.length) (c : Nat) : (convert src dst (.slice A n c)).run P w = .ok (.string (txt xs)) w := by
  subst hn
  cases A with
  | none =>
    have h0 : xs = [] := by
      rcases Nat.eq_zero_or_pos xs.length with h0 | h0
      · exact List.eq_nil_of_length_eq_zero h0
      · obtain ⟨b, o, e, _⟩ := h h0; cases e
    subst h0
    exact run_convert_bytes_nil w src e hs he _ c dst hd
  | some a =>
    have key : ∀ (b o : Nat), (∀ i, i < xs.length → w.cell? ⟨b, o + i, none⟩ = some (.int .u8 ((xs.getD i 0).toNat : Int))) → (convert src dst (.slice (some ⟨b, o, none⟩) xs.length c)).run P w = .ok (.string (txt xs)) w := by
      intro b o hc
      have := run_convert_bytes_arg (P := P) w src e hs he b o xs.length c (xs.map fun x => (x.toNat : Int)) (by simp) (fun i hi => by
        rw [hc i hi]
        simp [List.getD, List.getElem?_eq_getElem hi]) dst hd
      rw [this, strOf_map]
    rcases Nat.eq_zero_or_pos xs.length with h0 | h0
    · have e0 : xs = [] := List.eq_nil_of_length_eq_zero h0
      subst e0
      rw [run_convert_bytes_string w src dst e _ _ c hs he hd]
      have hl : (loadCells a 0).run P w = .ok (([] : List Int).map (Value.int .u8)).toArray w := by
        have := run_loadCells_list (P := P) w a [] (fun j v hj => by simp at hj)
        simpa using this
      exact (run_bytesToString (P := P) w a 0 c [] hl).trans rfl
    · obtain ⟨b, o, e', _, hc⟩ := h h0
      cases e'
      exact key b o hc

end Go.Proofs.Ytnegakobammljaa

