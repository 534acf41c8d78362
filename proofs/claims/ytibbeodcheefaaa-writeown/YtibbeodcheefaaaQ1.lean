/- Plain facts on memory: bytes that a slice reads as, a block that is known whole, worlds that differ in one block. -/
import Derived.WalkKit
import Derived.WalkSpells
import Derived.WalkLawsBesides
import Derived.Laws.BytesArg
import Derived.Laws.CopyOwn
import Derived.Maps.AppendAt
import Derived.Laws.OwnMore
import Derived.Test.YtibbeodcheefaaaRows
import Derived.Lib.Hide
import Derived.IntWalk
import Derived.BigQuiet
import Derived.Deep.QuietTactic
namespace Go.Proofs.Ytibbeodcheefaaa
open Go.RowKit

/-- The slice at A holds the bytes xs, in a block below B (of no bytes nothing is asked). -/
def Byt (w : World) (B : Nat) (A : Option Addr) (xs : List UInt8) : Prop :=
  0 < xs.length → ∃ b o, A = some ⟨b, o, none⟩ ∧ b < B ∧ ∀ i, i < xs.length → w.cell? ⟨b, o + i, none⟩ = some (.int .u8 ((xs.getD i 0).toNat : Int))

/-- A block of cells, whole, nothing frozen. -/
def Whole (w : World) (p : Nat) (cs : Array Value) (t : TypeId) : Prop := w.heap[p]? = some (.cells cs t (0, 0))

theorem Whole.lt {w : World} {p : Nat} {cs : Array Value} {t : TypeId} (h : Whole w p cs t) : p < w.heap.size := by
  rcases Nat.lt_or_ge p w.heap.size with h1 | h1
  · exact h1
  · unfold Whole at h; rw [Array.getElem?_eq_none h1] at h; cases h

theorem Whole.cell {w : World} {p : Nat} {cs : Array Value} {t : TypeId} (h : Whole w p cs t) (i : Nat) : w.cell? ⟨p, i, none⟩ = cs[i]? := by
  unfold Whole at h
  simp [World.cell?, h]

theorem Whole.frozen {w : World} {p : Nat} {cs : Array Value} {t : TypeId} (h : Whole w p cs t) (i : Nat) : w.frozen? ⟨p, i, none⟩ = false := by
  unfold Whole at h
  simp [World.frozen?, h]

theorem Whole.new (w : World) (cs : Array Value) (t : TypeId) : Whole (w.alloc (.cells cs t)) w.heap.size cs t := heap_alloc_new w _

theorem Whole.set {w : World} {p : Nat} {cs : Array Value} {t : TypeId} (h : Whole w p cs t) (i : Nat) (u : Value) : Whole (w.setCell ⟨p, i, none⟩ u) p (cs.setIfInBounds i u) t := by
  unfold Whole at h ⊢
  simp [World.setCell, Array.getElem?_modify, h]

/-- Nothing that was there has turned but block 'row' (none: nothing). -/
abbrev Grew (w w' : World) (row : Option Nat) : Prop := w.grownBy w' row

theorem grew_refl (w : World) (row : Option Nat) : Grew w w row := ⟨rfl, rfl, rfl, Nat.le_refl _, fun _ _ _ => rfl⟩
theorem grew_trans {a b c : World} {row : Option Nat} (h : Grew a b row) (k : Grew b c row) : Grew a c row :=
  ⟨k.os.trans h.os, k.tape.trans h.tape, k.output.trans h.output, Nat.le_trans h.size k.size, fun i hi hn => (k.block i (Nat.lt_of_lt_of_le hi h.size) hn).trans (h.block i hi hn)⟩
theorem grew_weak {a b : World} {row : Option Nat} (h : Grew a b none) : Grew a b row := ⟨h.os, h.tape, h.output, h.size, fun i hi _ => h.block i hi (by simp)⟩
theorem grew_alloc {a w : World} {row : Option Nat} (h : Grew a w row) (o : Obj) : Grew a (w.alloc o) row :=
  grew_trans h ⟨rfl, rfl, rfl, by simp, fun i hi _ => Below.heap_alloc _ _ _ hi⟩
theorem grew_set {a w : World} {p : Nat} (h : Grew a w (some p)) (i : Nat) (s : Option Nat) (u : Value) : Grew a (w.setCell ⟨p, i, s⟩ u) (some p) :=
  grew_trans h ⟨rfl, rfl, rfl, by simp [World.setCell], fun k _ hk => Below.heap_setCell _ _ _ _ (fun e => hk (by rw [e]))⟩
theorem grew_drewN {a w : World} {row : Option Nat} (h : Grew a w row) (n : Nat) : Grew a (w.drewN n) row := ⟨h.os, h.tape, h.output, h.size, h.block⟩
theorem grew_drew {a w : World} {row : Option Nat} (h : Grew a w row) : Grew a w.drew row := ⟨h.os, h.tape, h.output, h.size, h.block⟩
theorem grew_own {a b c : World} {row : Option Nat} {p : Nat} (h : Grew a b row) (k : Grew b c (some p)) (hp : a.heap.size ≤ p) : Grew a c row :=
  ⟨k.os.trans h.os, k.tape.trans h.tape, k.output.trans h.output, Nat.le_trans h.size k.size, fun i hi hn => (k.block i (Nat.lt_of_lt_of_le hi h.size) (fun e => by cases e; omega)).trans (h.block i hi hn)⟩
theorem grew_below {a b : World} {row : Option Nat} {B : Nat} (h : Grew a b row) (hB : B ≤ a.heap.size) (hr : ∀ k, row = some k → B ≤ k) : Below B a b :=
  ⟨h.os, h.tape, h.output, h.size, fun k hk => h.block k (by omega) (fun e => by have := hr k e.symm; omega)⟩

theorem Whole.grew {w w' : World} {row : Option Nat} {p : Nat} {cs : Array Value} {t : TypeId} (h : Whole w p cs t) (g : Grew w w' row) (hr : some p ≠ row) : Whole w' p cs t :=
  (g.block p h.lt hr).trans h

theorem Byt.grew {w w' : World} {row : Option Nat} {B : Nat} {A : Option Addr} {xs : List UInt8} (h : Byt w B A xs) (g : Grew w w' row) (hr : ∀ k, row = some k → B ≤ k) : Byt w' B A xs := by
  intro hn
  obtain ⟨b, o, rfl, hb, hc⟩ := h hn
  exact ⟨b, o, rfl, hb, fun i hi => g.cell (hc i hi) (fun e => by have := hr b e.symm; omega)⟩
theorem Byt.more {w : World} {B B' : Nat} {A : Option Addr} {xs : List UInt8} (h : Byt w B A xs) (hB : B ≤ B') : Byt w B' A xs := by
  intro hn
  obtain ⟨b, o, rfl, hb, hc⟩ := h hn
  exact ⟨b, o, rfl, by omega, hc⟩
theorem Byt.take {w : World} {B : Nat} {A : Option Addr} {xs : List UInt8} (h : Byt w B A xs) (k : Nat) : Byt w B A (xs.take k) := by
  intro hn
  have hl : (xs.take k).length ≤ xs.length := List.length_take_le' _ _
  obtain ⟨b, o, rfl, hb, hc⟩ := h (by omega)
  refine ⟨b, o, rfl, hb, fun i hi => ?_⟩
  rw [hc i (by omega)]
  have hik : i < k := by rw [List.length_take] at hi; omega
  simp [List.getD, List.getElem?_take_of_lt hik]

/-- Where a slice's rest begins: at its very end the address stays. -/
def cutAt (A : Option Addr) (c k : Nat) : Option Addr := if c = k then A else A.map (fun x => x.add k)

theorem Byt.drop {w : World} {B : Nat} {A : Option Addr} {xs : List UInt8} (h : Byt w B A xs) {k c : Nat} (hc : xs.length ≤ c) : Byt w B (cutAt A c k) (xs.drop k) := by
  intro hn
  rw [List.length_drop] at hn
  obtain ⟨b, o, rfl, hb, hcell⟩ := h (by omega)
  refine ⟨b, o + k, ?_, hb, fun i hi => ?_⟩
  · unfold cutAt
    rw [if_neg (by omega)]
    by_cases h0 : k = 0
    · subst h0; simp [Addr.add]
    · simp [Addr.add, h0]
  · rw [List.length_drop] at hi
    rw [Nat.add_assoc, hcell (k + i) (by omega)]
    simp [List.getD, List.getElem?_drop]

/-- The bytes as a text. -/
def txt (xs : List UInt8) : ByteArray := ⟨xs.toArray⟩
theorem txt_size (xs : List UInt8) : (txt xs).size = xs.length := by simp [txt, ByteArray.size]
theorem txt_append (xs ys : List UInt8) : txt xs ++ txt ys = txt (xs ++ ys) := by
  apply ByteArray.ext; simp [txt]

theorem strOf_map (xs : List UInt8) : strOfNums (xs.map fun x => (x.toNat : Int)) = txt xs := by
  simp only [strOfNums, txt, List.map_map]
  congr 2
  conv => rhs; rw [← List.map_id xs]
  apply List.map_congr_left
  intro x _
  simp

/-- 'string(b)'. -/
theorem conv_txt {P : Program} (w : World) {src e dst : TypeId} (hs : P.underlying src = some (.slice e)) (he : P.underlying e = some (.int .u8)) (hd : P.underlying dst = some .string)
    {B : Nat} {A : Option Addr} {xs : List UInt8} (h : Byt w B A xs) {n : Nat} (hn : n = xs.length) (c : Nat) : (convert src dst (.slice A n c)).run P w = .ok (.string (txt xs)) w := by
  subst hn
  cases A with
  | none =>
    have h0 : xs = [] := by
      rcases Nat.eq_zero_or_pos xs.length with h0 | h0
      · exact List.eq_nil_of_length_eq_zero h0
      · obtain ⟨b, o, e, _⟩ := h h0; cases e
    subst h0
    exact run_convert_bytes_nil w src e hs he _ c dst hd
  | some a =>
    have key : ∀ (b o : Nat), (∀ i, i < xs.length → w.cell? ⟨b, o + i, none⟩ = some (.int .u8 ((xs.getD i 0).toNat : Int))) → (convert src dst (.slice (some ⟨b, o, none⟩) xs.length c)).run P w = .ok (.string (txt xs)) w := by
      intro b o hc
      have := run_convert_bytes_arg (P := P) w src e hs he b o xs.length c (xs.map fun x => (x.toNat : Int)) (by simp) (fun i hi => by
        rw [hc i hi]
        simp [List.getD, List.getElem?_eq_getElem hi]) dst hd
      rw [this, strOf_map]
    rcases Nat.eq_zero_or_pos xs.length with h0 | h0
    · have e0 : xs = [] := List.eq_nil_of_length_eq_zero h0
      subst e0
      rw [run_convert_bytes_string w src dst e _ _ c hs he hd]
      have hl : (loadCells a 0).run P w = .ok (([] : List Int).map (Value.int .u8)).toArray w := by
        have := run_loadCells_list (P := P) w a [] (fun j v hj => by simp at hj)
        simpa using this
      exact (run_bytesToString (P := P) w a 0 c [] hl).trans rfl
    · obtain ⟨b, o, e', _, hc⟩ := h h0
      cases e'
      exact key b o hc

end Go.Proofs.Ytibbeodcheefaaa


/- Footprints: which blocks may have turned; rows that the program owns; append onto such a row. -/
namespace Go.Proofs.Ytibbeodcheefaaa
open Go.RowKit

/-- Nothing that was there has turned but blocks of F. -/
structure Fr (w w' : World) (F : Nat → Prop) : Prop where
  os : w'.os = w.os
  tape : w'.tape = w.tape
  output : w'.output = w.output
  size : w.heap.size ≤ w'.heap.size
  block : ∀ i, i < w.heap.size → ¬ F i → w'.heap[i]? = w.heap[i]?

theorem Fr.refl (w : World) (F : Nat → Prop) : Fr w w F := ⟨rfl, rfl, rfl, Nat.le_refl _, fun _ _ _ => rfl⟩
/-- What the second may turn is the first's, or new. -/
theorem Fr.trans {a b c : World} {F G : Nat → Prop} (h : Fr a b F) (k : Fr b c G) (hs : ∀ i, i < a.heap.size → G i → F i) : Fr a c F :=
  ⟨k.os.trans h.os, k.tape.trans h.tape, k.output.trans h.output, Nat.le_trans h.size k.size, fun i hi hn => (k.block i (Nat.lt_of_lt_of_le hi h.size) (fun g => hn (hs i hi g))).trans (h.block i hi hn)⟩
theorem Fr.mono {a b : World} {F G : Nat → Prop} (h : Fr a b F) (hs : ∀ i, i < a.heap.size → F i → G i) : Fr a b G :=
  ⟨h.os, h.tape, h.output, h.size, fun i hi hn => h.block i hi (fun g => hn (hs i hi g))⟩
theorem Fr.of_grew {a b : World} {row : Option Nat} (h : Grew a b row) : Fr a b (fun i => some i = row) :=
  ⟨h.os, h.tape, h.output, h.size, fun i hi hn => h.block i hi hn⟩
theorem Fr.of_grew' {a b : World} {row : Option Nat} {F : Nat → Prop} (h : Grew a b row) (hr : ∀ i, row = some i → F i) : Fr a b F :=
  ⟨h.os, h.tape, h.output, h.size, fun i hi hn => h.block i hi (fun e => hn (hr i e.symm))⟩
theorem Fr.alloc {a w : World} {F : Nat → Prop} (h : Fr a w F) (o : Obj) : Fr a (w.alloc o) F :=
  h.trans (G := fun _ => False) ⟨rfl, rfl, rfl, by simp, fun i hi _ => Below.heap_alloc _ _ _ hi⟩ (fun _ _ h => h.elim)
theorem Fr.set {a w : World} {F : Nat → Prop} (h : Fr a w F) {p : Nat} (hp : F p ∨ a.heap.size ≤ p) (i : Nat) (s : Option Nat) (u : Value) : Fr a (w.setCell ⟨p, i, s⟩ u) F :=
  h.trans (G := fun k => k = p) ⟨rfl, rfl, rfl, by simp [World.setCell], fun k _ hk => Below.heap_setCell _ _ _ _ hk⟩ (fun k hk e => by subst e; rcases hp with h | h; exact h; omega)
theorem Fr.drewN {a w : World} {F : Nat → Prop} (h : Fr a w F) (n : Nat) : Fr a (w.drewN n) F := ⟨h.os, h.tape, h.output, h.size, h.block⟩
theorem Fr.drew {a w : World} {F : Nat → Prop} (h : Fr a w F) : Fr a w.drew F := ⟨h.os, h.tape, h.output, h.size, h.block⟩
/-- Behind blocks that were new nothing old has turned. -/
theorem grew_fr {a b c : World} {row : Option Nat} {F : Nat → Prop} (h : Grew a b row) (k : Fr b c F) (hF : ∀ i, F i → a.heap.size ≤ i) : Grew a c row :=
  ⟨k.os.trans h.os, k.tape.trans h.tape, k.output.trans h.output, Nat.le_trans h.size k.size, fun i hi hn => (k.block i (Nat.lt_of_lt_of_le hi h.size) (fun g => by have := hF i g; omega)).trans (h.block i hi hn)⟩

theorem Whole.fr {w w' : World} {F : Nat → Prop} {p : Nat} {cs : Array Value} {t : TypeId} (h : Whole w p cs t) (g : Fr w w' F) (hr : ¬ F p) : Whole w' p cs t :=
  (g.block p h.lt hr).trans h
theorem Whole.ne {w : World} {p q : Nat} {cs ds : Array Value} {t u : TypeId} (h : Whole w p cs t) (k : Whole w q ds u) (hne : t ≠ u) : p ≠ q := by
  rintro rfl
  unfold Whole at h k
  rw [h] at k
  injection k with k
  injection k with _ k
  exact hne k

/-- A cell of a block that has not turned. -/
theorem Fr.cell {w w' : World} {F : Nat → Prop} (h : Fr w w' F) {a : Addr} {v : Value} (hc : w.cell? a = some v) (hn : ¬ F a.block) : w'.cell? a = some v :=
  (World.cell?_of_block (h.block a.block (World.block_lt_of_cell? w a hc) hn)).trans hc

/-- The slice at A holds the bytes xs, in a block of F (of no bytes nothing is asked). -/
def ByF (w : World) (F : Nat → Prop) (A : Option Addr) (xs : List UInt8) : Prop :=
  0 < xs.length → ∃ b o, A = some ⟨b, o, none⟩ ∧ F b ∧ ∀ i, i < xs.length → w.cell? ⟨b, o + i, none⟩ = some (.int .u8 ((xs.getD i 0).toNat : Int))
theorem Byt.byf {w : World} {B : Nat} {A : Option Addr} {xs : List UInt8} (h : Byt w B A xs) : ByF w (· < B) A xs := h
theorem ByF.byt {w : World} {F : Nat → Prop} {A : Option Addr} {xs : List UInt8} (h : ByF w F A xs) : Byt w w.heap.size A xs := by
  intro hn
  obtain ⟨b, o, e, _, hc⟩ := h hn
  exact ⟨b, o, e, World.block_lt_of_cell? w _ (hc 0 hn), hc⟩
theorem ByF.mono {w : World} {F G : Nat → Prop} {A : Option Addr} {xs : List UInt8} (h : ByF w F A xs) (hs : ∀ i, F i → G i) : ByF w G A xs := by
  intro hn
  obtain ⟨b, o, e, hb, hc⟩ := h hn
  exact ⟨b, o, e, hs b hb, hc⟩
theorem ByF.fr {w w' : World} {F G : Nat → Prop} {A : Option Addr} {xs : List UInt8} (h : ByF w F A xs) (g : Fr w w' G) (hr : ∀ i, F i → ¬ G i) : ByF w' F A xs := by
  intro hn
  obtain ⟨b, o, e, hb, hc⟩ := h hn
  exact ⟨b, o, e, hb, fun i hi => g.cell (hc i hi) (hr b hb)⟩
theorem ByF.take {w : World} {F : Nat → Prop} {A : Option Addr} {xs : List UInt8} (h : ByF w F A xs) (k : Nat) : ByF w F A (xs.take k) := by
  intro hn
  have hl : (xs.take k).length ≤ xs.length := List.length_take_le' _ _
  obtain ⟨b, o, rfl, hb, hc⟩ := h (by omega)
  refine ⟨b, o, rfl, hb, fun i hi => ?_⟩
  rw [hc i (by omega)]
  have hik : i < k := by rw [List.length_take] at hi; omega
  simp [List.getD, List.getElem?_take_of_lt hik]
theorem ByF.nil (w : World) (F : Nat → Prop) (A : Option Addr) : ByF w F A [] := fun h => by simp at h

/-- A row that is owned stands where its block has not turned. -/
theorem own_fr {w w' : World} {F : Nat → Prop} {e : TypeId} {size n : Nat} {v : Value} {xs : List Value} (h : w.ownsRow 0 e size v n xs) (g : Fr w w' F) (hr : ∀ k, v.ownBlock = some k → ¬ F k) : w'.ownsRow 0 e size v n xs := by
  refine ⟨h.1, ?_⟩
  rcases h.2 with h0 | ⟨b, cap, cur, rfl, hb, hh, rest⟩
  · exact .inl h0
  · refine .inr ⟨b, cap, cur, rfl, hb, ?_, rest⟩
    have hW : Whole w b cur e := hh
    exact hW.fr g (hr b rfl)
theorem own_lt {w : World} {e : TypeId} {size n : Nat} {v : Value} {xs : List Value} (h : w.ownsRow 0 e size v n xs) : ∀ k, v.ownBlock = some k → k < w.heap.size := fun k hk => (h.lt k hk).2
/-- Rows of other types, and blocks known whole of other types, are apart. -/
theorem own_ne {w : World} {e : TypeId} {size n p : Nat} {v : Value} {xs : List Value} {cs : Array Value} {t : TypeId} (h : w.ownsRow 0 e size v n xs) (k : Whole w p cs t) (hne : e ≠ t) : v.ownBlock ≠ some p := by
  rcases h.2 with ⟨rfl, _⟩ | ⟨b, cap, cur, rfl, _, hh, _⟩
  · simp [Value.ownBlock]
  · intro he
    have e' : b = p := by simpa [Value.ownBlock] using he
    exact Whole.ne (w := w) (t := e) hh k hne e'
theorem own_own {w : World} {e e' : TypeId} {size size' n n' : Nat} {v v' : Value} {xs xs' : List Value} (h : w.ownsRow 0 e size v n xs) (k : w.ownsRow 0 e' size' v' n' xs') (hne : e ≠ e') : ∀ g, v.ownBlock = some g → v'.ownBlock ≠ some g := by
  intro g hg
  rcases h.2 with ⟨rfl, _⟩ | ⟨b, cap, cur, rfl, _, hh, _⟩
  · simp [Value.ownBlock] at hg
  · have e2 : b = g := by simpa [Value.ownBlock] using hg
    subst e2
    exact own_ne (t := e) k hh (fun h => hne h.symm)

/-- The cells of bytes. -/
def cellsOf (xs : List UInt8) : List Value := xs.map fun x => .int .u8 (x.toNat : Int)
theorem cellsOf_length (xs : List UInt8) : (cellsOf xs).length = xs.length := by simp [cellsOf]
theorem cellsOf_append (xs ys : List UInt8) : cellsOf (xs ++ ys) = cellsOf xs ++ cellsOf ys := by simp [cellsOf]
theorem cellsOf_one (xs : List UInt8) : ∀ v ∈ cellsOf xs, v.oneCell' = true := by
  intro v hv
  obtain ⟨x, _, rfl⟩ := List.mem_map.1 hv
  rfl
theorem cellsOf_at (xs : List UInt8) (i : Nat) (h : i < xs.length) : (cellsOf xs)[i]? = some (.int .u8 ((xs.getD i 0).toNat : Int)) := by
  simp [cellsOf, List.getD, List.getElem?_eq_getElem h]
theorem addr_add (b o n : Nat) : (⟨b, o, none⟩ : Addr).add n = ⟨b, o + n, none⟩ := by
  unfold Addr.add
  split <;> simp_all

/-- An owned row of bytes read as a slice. -/
theorem own_by {w : World} {e : TypeId} {A : Option Addr} {n c : Nat} {xs : List UInt8} (h : w.ownsRow 0 e 1 (.slice A n c) n (cellsOf xs)) : ByF w (fun i => (Value.slice A n c).ownBlock = some i) A xs := by
  intro hn
  have hl := h.1
  rw [cellsOf_length] at hl
  rcases h.2 with ⟨_, h0⟩ | ⟨b, cap, cur, hv, _, hh, hnc, _, hsz, ht⟩
  · omega
  · injection hv with hA _ hc
    subst hA hc
    refine ⟨b, 0, rfl, by simp [Value.ownBlock], fun i hi => ?_⟩
    have hW : Whole w b cur e := hh
    rw [hW.cell, ← cellsOf_at _ _ hi, ← ht, List.getElem?_take_of_lt (by omega), Nat.zero_add, Array.getElem?_toList]

section
variable {P : Program} (w : World)
/-- Onto an owned row nothing is appended out of nil. -/
theorem append_none {t ty e : TypeId} {i : TypeInfo} {size : Nat} (ht : P.underlying t = some (.slice e)) (hi : P.info? e = some i) {v : Value} {n : Nat} {xs : List Value} (hown : w.ownsRow 0 e size v n xs) (c : Nat) :
    (Builtin.append_ #[t, t] ty #[v, .slice none 0 c]).run P w = .ok v w := by
  rcases hown.2 with ⟨rfl, rfl⟩ | ⟨g, cap, cur, rfl, _, _, hnc, _⟩
  · simp [Builtin.append_, run_underlying ht, sizeOf, typeInfo, hi, Builtin.lenOf, Builtin.firstCells]
  · simp [Builtin.append_, run_underlying ht, sizeOf, typeInfo, hi, Builtin.lenOf, Builtin.firstCells, hnc, storeCells]

/-- What an append leaves: the value, the world. -/
def AppLeft (w : World) (e : TypeId) (size : Nat) (v : Value) (n : Nat) (ys : List Value) (v' : Value) (w' : World) : Prop :=
  w'.ownsRow 0 e size v' n ys ∧ Grew w w' v.ownBlock ∧ (v'.ownBlock = v.ownBlock ∨ v'.ownBlock = some w.heap.size)

/-- 'append(v, src...)': v owns a row of bytes; src is nil, empty or not. -/
theorem append_bytes (t ty e : TypeId) (ht : P.underlying t = some (.slice e)) (hinfo : (P.info? e).map (fun i => (i.zero, i.size, i.bytes)) = some (some (.int .u8 0), 1, 1))
    {v : Value} {n : Nat} {xs : List UInt8} (hown : w.ownsRow 0 e 1 v n (cellsOf xs)) {F : Nat → Prop} {A : Option Addr} {bs : List UInt8} (hb : ByF w F A bs) (c : Nat) (hm : n + bs.length ≤ 140737488355328) :
    ∃ v' w', (Builtin.append_ #[t, t] ty #[v, .slice A bs.length c]).run P w = .ok v' w' ∧ AppLeft w e 1 v (n + bs.length) (cellsOf (xs ++ bs)) v' w' := by
  obtain ⟨i, hi, hz⟩ := Option.map_eq_some_iff.1 hinfo
  simp only [Prod.mk.injEq] at hz
  obtain ⟨hz0, hz1, hz2⟩ := hz
  cases A with
  | none =>
    have e0 : bs = [] := by
      rcases Nat.eq_zero_or_pos bs.length with h | h
      · exact List.eq_nil_of_length_eq_zero h
      · obtain ⟨_, _, h, _⟩ := hb h
        cases h
    subst e0
    exact ⟨v, w, append_none w ht hi hown c, by simpa using hown, grew_refl _ _, .inl rfl⟩
  | some a =>
    have hn : ∀ j u, (cellsOf bs)[j]? = some u → w.cell? (a.add j) = some u := by
      intro j u hu
      have hj : j < bs.length := by
        rcases Nat.lt_or_ge j bs.length with h | h
        · exact h
        · rw [List.getElem?_eq_none (by rw [cellsOf_length]; exact h)] at hu; cases hu
      obtain ⟨b, o, h, _, hc⟩ := hb (by omega)
      cases h
      rw [addr_add, hc j hj, ← hu, cellsOf_at _ _ hj]
    obtain ⟨v', w', hr, h2, h3, _, h5⟩ := run_append_own_at (P := P) w 0 t ty e i (.int .u8 0) 1 1 ht hi hz0 hz1 hz2 rfl (by omega) v n (cellsOf xs) hown a bs.length c (cellsOf bs) (by rw [cellsOf_length]; omega) hn (cellsOf_one _)
      (by unfold maxLen; omega) (by omega) (Nat.zero_le _)
    exact ⟨v', w', hr, by rw [cellsOf_append]; exact h2, h3, h5⟩

/-- An append whose run is known, at the list of a plain region. -/
theorem wpList_append_run {P : Program} {ops : Array Oper} {rest : List Oper} {o : Oper} {a : Act} {Q : Exit → Act → World → Prop} (hgd : o.guard = none) (s x : Operand) (t : TypeId)
    (ho : o.op = .call { callee := .builtin .append, args := #[s, x], argTypes := #[t, t] }) {v u : Value} (hs : a.eval s = v) (hx : a.eval x = u) {L : Value → World → Prop}
    (hr : ∀ ty, ∃ v' w', (Builtin.append_ #[t, t] ty #[v, u]).run P w = .ok v' w' ∧ L v' w') (h : ∀ v' w', L v' w' → wpList P ops Q rest (a.put o.dst v') w') : wpList P ops Q (o :: rest) a w := by
  refine wpList_plain hgd fun K hK => ?_
  obtain ⟨v', w', hr, hl⟩ := hr o.type
  unfold Oper.wp execOp
  simp only [ho, resolve, invoke, builtin, Sem.run_bind, Sem.run_pure, Result.andThen_ok, List.map_toArray, List.map_cons, List.map_nil, hs, hx, hr]
  exact hK _ _ (h v' w' hl)
/-- The same at a step of a region that draws its order. -/
theorem step_append_run {P : Program} {ops : Array Oper} {o : Oper} {a : Act} {K : Act → World → Prop} {Q : Exit → Act → World → Prop} {E : Prop} (hgd : o.guard = none) (s x : Operand) (t : TypeId)
    (ho : o.op = .call { callee := .builtin .append, args := #[s, x], argTypes := #[t, t] }) {v u : Value} (hs : a.eval s = v) (hx : a.eval x = u) {L : Value → World → Prop}
    (hr : ∀ ty, ∃ v' w', (Builtin.append_ #[t, t] ty #[v, u]).run P w = .ok v' w' ∧ L v' w') (h : ∀ v' w', L v' w' → K (a.put o.dst v') w') :
    if Region.wanted o (yielded ops a.tmps) = true then Oper.wp P o a w K Q else E := by
  have hw : Region.wanted o (yielded ops a.tmps) = true := by simp [Region.wanted, hgd]
  rw [if_pos hw]
  obtain ⟨v', w', hr, hl⟩ := hr o.type
  unfold Oper.wp execOp
  simp only [ho, resolve, invoke, builtin, Sem.run_bind, Sem.run_pure, Result.andThen_ok, List.map_toArray, List.map_cons, List.map_nil, hs, hx, hr]
  exact h v' w' hl
end

/-- A quiet call ahead of which others were. -/
theorem quiet_same {P : Program} {f : FuncId} {args : Array Value} {w : World} {n : Nat} {v : Value}
    (h : Calls P f args (w.drewN n) fun e w' => e = .returned v ∧ w.drewN n = w') : Calls P f args (w.drewN n) fun e w'' => e = .returned v ∧ ∃ m, w'' = w.drewN m :=
  h.mono fun _ _ ⟨he, hm⟩ => ⟨he, n, hm.symm⟩

end Go.Proofs.Ytibbeodcheefaaa


/- Forms as trees: what the chapter's words tell of one (depth, open, lengths, what is wrong, the same), and where one lies in memory. -/
namespace Go.Proofs.Ytibbeodcheefaaa
open Go.RowKit

theorem Whole.new_at (w : World) (cs : Array Value) (t : TypeId) {p : Nat} (hp : p = w.heap.size) : Whole (w.alloc (.cells cs t)) p cs t := by subst hp; exact Whole.new w cs t

/-- Six cells of a block turned. -/
def put6 (w : World) (q : Nat) (v0 v1 v2 v3 v4 v5 : Value) : World :=
  (((((w.setCell ⟨q, 0, none⟩ v0).setCell ⟨q, 1, none⟩ v1).setCell ⟨q, 2, none⟩ v2).setCell ⟨q, 3, none⟩ v3).setCell ⟨q, 4, none⟩ v4).setCell ⟨q, 5, none⟩ v5
theorem Whole.put6 {w : World} {q : Nat} {a0 a1 a2 a3 a4 a5 : Value} {t : TypeId} (h : Whole w q #[a0, a1, a2, a3, a4, a5] t) (v0 v1 v2 v3 v4 v5 : Value) : Whole (put6 w q v0 v1 v2 v3 v4 v5) q #[v0, v1, v2, v3, v4, v5] t :=
  (((((h.set 0 v0).set 1 v1).set 2 v2).set 3 v3).set 4 v4).set 5 v5
theorem grew_put6 {a w : World} {row : Option Nat} (h : Grew a w row) {q : Nat} (hq : a.heap.size ≤ q) (v0 v1 v2 v3 v4 v5 : Value) : Grew a (put6 w q v0 v1 v2 v3 v4 v5) row :=
  grew_own h (grew_set (grew_set (grew_set (grew_set (grew_set (grew_set (grew_refl w (some q)) _ _ _) _ _ _) _ _ _) _ _ _) _ _ _) _ _ _) hq
theorem fr_put6 (w : World) (q : Nat) (v0 v1 v2 v3 v4 v5 : Value) : Fr w (put6 w q v0 v1 v2 v3 v4 v5) (fun i => i = q) := by
  have hp : ∀ {w' : World} (i : Nat) (u : Value), Fr w w' (fun i => i = q) → Fr w (w'.setCell ⟨q, i, none⟩ u) (fun i => i = q) := fun i u h => h.set (.inl rfl) _ _ _
  exact hp _ _ (hp _ _ (hp _ _ (hp _ _ (hp _ _ (hp _ _ (Fr.refl _ _))))))

/-- A form: its numbers, where its parts lie, its parts. -/
inductive Fo where
  | mk (k s l h t : Int) (A : Option Addr) (c : Nat) (ps : List Fo)

namespace Fo
def k : Fo → Int | mk k _ _ _ _ _ _ _ => k
def s : Fo → Int | mk _ s _ _ _ _ _ _ => s
def l : Fo → Int | mk _ _ l _ _ _ _ _ => l
def h : Fo → Int | mk _ _ _ h _ _ _ _ => h
def t : Fo → Int | mk _ _ _ _ t _ _ _ => t
def A : Fo → Option Addr | mk _ _ _ _ _ A _ _ => A
def c : Fo → Nat | mk _ _ _ _ _ _ c _ => c
def ps : Fo → List Fo | mk _ _ _ _ _ _ _ ps => ps
/-- Its six cells. -/
def cells (f : Fo) : Array Value := #[.int .i64 f.k, .int .i64 f.s, .int .i64 f.l, .int .i64 f.h, .int .i64 f.t, .slice f.A f.ps.length f.c]
def val (f : Fo) : Value := .agg f.cells

theorem ind {P : Fo → Prop} (H : ∀ k s l h t A c ps, (∀ p ∈ ps, P p) → P (mk k s l h t A c ps)) : ∀ f, P f
  | mk k s l h t A c ps => H k s l h t A c ps (fun p _ => ind H p)
termination_by f => SizeOf.sizeOf f
decreasing_by
  have := List.sizeOf_lt_of_mem ‹_›
  simp
  omega

/-- The slice at A holds the forms (of none nothing is asked). -/
def Lie (w : World) (A : Option Addr) (ps : List Fo) : Prop :=
  0 < ps.length → ∃ b o, A = some ⟨b, o, none⟩ ∧ ∀ (i : Nat) (p : Fo), ps[i]? = some p → ∀ (j : Nat) (v : Value), p.cells[j]? = some v → w.cell? ⟨b, o + i * 6 + j, none⟩ = some v
theorem Lie.grew {w w' : World} {A : Option Addr} {ps : List Fo} (h : Lie w A ps) (g : Grew w w' none) : Lie w' A ps := by
  intro hn
  obtain ⟨b, o, e, hcell⟩ := h hn
  exact ⟨b, o, e, fun i p hi j v hv => g.cell (hcell i p hi j v hv) (by simp)⟩
theorem Lie.fr {w w' : World} {F : Nat → Prop} {A : Option Addr} {ps : List Fo} (h : Lie w A ps) (g : Fr w w' F) (hF : ∀ a, A = some a → ¬ F a.block) : Lie w' A ps := by
  intro hn
  obtain ⟨b, o, e, hcell⟩ := h hn
  exact ⟨b, o, e, fun i p hi j v hv => g.cell (hcell i p hi j v hv) (hF ⟨b, o, none⟩ e)⟩
theorem Lie.take {w : World} {A : Option Addr} {ps : List Fo} (h : Lie w A ps) (n : Nat) : Lie w A (ps.take n) := by
  intro hn
  have hl : (ps.take n).length ≤ ps.length := List.length_take_le' _ _
  obtain ⟨b, o, e, hcell⟩ := h (by omega)
  refine ⟨b, o, e, fun i p hi j v hv => hcell i p ?_ j v hv⟩
  rw [List.getElem?_take] at hi
  split at hi
  · exact hi
  · cases hi
/-- The cells of forms, one behind the other. -/
def flat (ps : List Fo) : List Value := ps.flatMap (fun p => p.cells.toList)
theorem flat_length (ps : List Fo) : (flat ps).length = ps.length * 6 := by
  induction ps with
  | nil => rfl
  | cons p ps ih =>
    have : flat (p :: ps) = p.cells.toList ++ flat ps := rfl
    rw [this, List.length_append, ih]; simp [cells]; omega
theorem flat_append (ps qs : List Fo) : flat (ps ++ qs) = flat ps ++ flat qs := by simp [flat]
theorem flat_at {ps : List Fo} {i : Nat} {p : Fo} (h : ps[i]? = some p) {j : Nat} {v : Value} (hv : p.cells[j]? = some v) : (flat ps)[i * 6 + j]? = some v := by
  have hj : j < 6 := by
    rcases Nat.lt_or_ge j 6 with h | h
    · exact h
    · rw [Array.getElem?_eq_none (by simpa [cells] using h)] at hv; cases hv
  induction ps generalizing i with
  | nil => simp at h
  | cons q ps ih =>
    have hq : flat (q :: ps) = q.cells.toList ++ flat ps := rfl
    have hl : q.cells.toList.length = 6 := by simp [cells]
    rw [hq]
    cases i with
    | zero =>
      simp at h
      subst h
      rw [List.getElem?_append_left (by omega)]
      simpa using hv
    | succ i =>
      rw [List.getElem?_append_right (by omega), hl]
      have : (i + 1) * 6 + j - 6 = i * 6 + j := by omega
      rw [this]
      exact ih (by simpa using h)
theorem flat_lt {ps : List Fo} {m : Nat} (h : m < (flat ps).length) : ∃ p, ps[m / 6]? = some p ∧ p.cells[m % 6]? = (flat ps)[m]? := by
  rw [flat_length] at h
  have hi : m / 6 < ps.length := by omega
  have hp : ps[m / 6]? = some ps[m / 6] := List.getElem?_eq_getElem hi
  refine ⟨ps[m / 6], hp, ?_⟩
  have hj : m % 6 < (ps[m / 6]).cells.size := by simp [cells]; omega
  rw [Array.getElem?_eq_getElem hj]
  have := flat_at hp (Array.getElem?_eq_getElem hj)
  rw [← this]
  congr 1
  omega
theorem flat_one (ps : List Fo) : ∀ v ∈ flat ps, v.oneCell' = true := by
  intro v hv
  obtain ⟨p, _, hp⟩ := List.mem_flatMap.1 hv
  simp [cells] at hp
  rcases hp with rfl | rfl | rfl | rfl | rfl | rfl <;> rfl
/-- An owned row of forms. -/
theorem Lie.of_own {w : World} {e : TypeId} {v : Value} {n : Nat} {ps : List Fo} (h : w.ownsRow 0 e 6 v n (flat ps)) : ∃ A c, v = .slice A ps.length c ∧ ps.length ≤ c ∧ Lie w A ps := by
  have hl := h.1
  rw [flat_length] at hl
  have hn : n = ps.length := by omega
  subst hn
  rcases h.2 with ⟨rfl, h0⟩ | ⟨b, cap, cur, rfl, _, hh, hnc, _, hsz, ht⟩
  · exact ⟨none, 0, by rw [h0], by omega, fun h => by omega⟩
  · refine ⟨_, _, rfl, hnc, fun _ => ⟨b, 0, rfl, fun i p hi j v hv => ?_⟩⟩
    have hW : Whole w b cur e := hh
    have hil : i < ps.length := by
      rcases Nat.lt_or_ge i ps.length with h | h
      · exact h
      · rw [List.getElem?_eq_none h] at hi; cases hi
    have hj : j < 6 := by
      rcases Nat.lt_or_ge j 6 with h | h
      · exact h
      · rw [Array.getElem?_eq_none (by simpa [cells] using h)] at hv; cases hv
    have hf := flat_at hi hv
    rw [← ht, List.getElem?_take_of_lt (by omega)] at hf
    rw [hW.cell, Nat.zero_add, ← Array.getElem?_toList]
    exact hf

/-- A block of forms. -/
theorem Lie.whole {w : World} {b : Nat} {cs : Array Value} {e : TypeId} {ps : List Fo} (h : Whole w b cs e) (hf : cs.toList = flat ps) : Lie w (some ⟨b, 0, none⟩) ps := by
  refine fun _ => ⟨b, 0, rfl, fun i p hi j v hv => ?_⟩
  rw [h.cell, Nat.zero_add, ← Array.getElem?_toList, hf]
  exact flat_at hi hv
theorem Lie.nil (w : World) (A : Option Addr) : Lie w A [] := fun h => by simp at h

/-- Where its parts lie in memory. -/
inductive In (w : World) : Fo → Prop
  | mk {k s l h t : Int} {A : Option Addr} {c : Nat} {ps : List Fo} (hc : ps.length ≤ c) (hz : ps.length ≤ 2199023255552) (ha : Lie w A ps) (hp : ∀ p ∈ ps, In w p) : In w (.mk k s l h t A c ps)

theorem In.grew {w w' : World} {f : Fo} (h : In w f) (g : Grew w w' none) : In w' f := by
  induction h with
  | mk hc hz ha _ ih =>
    exact .mk hc hz (ha.grew g) ih

/-- None of its parts lies in a block of F. -/
inductive Off (F : Nat → Prop) : Fo → Prop
  | mk {k s l h t : Int} {A : Option Addr} {c : Nat} {ps : List Fo} (ha : ∀ a, A = some a → ¬ F a.block) (hp : ∀ p ∈ ps, Off F p) : Off F (.mk k s l h t A c ps)
theorem In.fr {w w' : World} {F : Nat → Prop} {f : Fo} (h : In w f) (g : Fr w w' F) (ho : Off F f) : In w' f := by
  induction h with
  | mk hc hz ha _ ih =>
    cases ho with
    | mk h1 h2 => exact .mk hc hz (ha.fr g h1) (fun p hp => ih p hp (h2 p hp))

theorem In.parts {w : World} {f : Fo} (h : In w f) : ∀ p ∈ f.ps, In w p := by
  cases h with
  | mk _ _ _ hp => exact hp

/-- The cells of a form that lies. -/
theorem Lie.at {w : World} {A : Option Addr} {ps : List Fo} (H : Lie w A ps) {i : Nat} (hi : i < ps.length) :
    ∃ b o p, A = some ⟨b, o, none⟩ ∧ ps[i]? = some p ∧ p ∈ ps ∧ w.cell? ⟨b, o + i * 6, none⟩ = some (.int .i64 p.k) ∧ w.cell? ⟨b, o + i * 6 + 1, none⟩ = some (.int .i64 p.s) ∧
      w.cell? ⟨b, o + i * 6 + 2, none⟩ = some (.int .i64 p.l) ∧ w.cell? ⟨b, o + i * 6 + 3, none⟩ = some (.int .i64 p.h) ∧ w.cell? ⟨b, o + i * 6 + 4, none⟩ = some (.int .i64 p.t) ∧
      w.cell? ⟨b, o + i * 6 + 5, none⟩ = some (.slice p.A p.ps.length p.c) := by
  obtain ⟨b, o, e, hcell⟩ := H (by omega)
  have he : ps[i]? = some ps[i] := List.getElem?_eq_getElem hi
  have hm : ps[i] ∈ ps := List.getElem_mem hi
  exact ⟨b, o, ps[i], e, he, hm, hcell i _ he 0 _ rfl, hcell i _ he 1 _ rfl, hcell i _ he 2 _ rfl, hcell i _ he 3 _ rfl, hcell i _ he 4 _ rfl, hcell i _ he 5 _ rfl⟩

/-- The cells of a part. -/
theorem In.at {w : World} {k s l h t : Int} {A : Option Addr} {c : Nat} {ps : List Fo} (H : In w (.mk k s l h t A c ps)) {i : Nat} (hi : i < ps.length) :
    ∃ b o p, A = some ⟨b, o, none⟩ ∧ ps[i]? = some p ∧ p ∈ ps ∧ In w p ∧ w.cell? ⟨b, o + i * 6, none⟩ = some (.int .i64 p.k) ∧ w.cell? ⟨b, o + i * 6 + 1, none⟩ = some (.int .i64 p.s) ∧
      w.cell? ⟨b, o + i * 6 + 2, none⟩ = some (.int .i64 p.l) ∧ w.cell? ⟨b, o + i * 6 + 3, none⟩ = some (.int .i64 p.h) ∧ w.cell? ⟨b, o + i * 6 + 4, none⟩ = some (.int .i64 p.t) ∧
      w.cell? ⟨b, o + i * 6 + 5, none⟩ = some (.slice p.A p.ps.length p.c) := by
  cases H with
  | mk hc hz ha hp =>
    obtain ⟨b, o, e, hcell⟩ := ha (by omega)
    have he : ps[i]? = some ps[i] := List.getElem?_eq_getElem hi
    have hm : ps[i] ∈ ps := List.getElem_mem hi
    exact ⟨b, o, ps[i], e, he, hm, hp _ hm, hcell i _ he 0 _ rfl, hcell i _ he 1 _ rfl, hcell i _ he 2 _ rfl, hcell i _ he 3 _ rfl, hcell i _ he 4 _ rfl, hcell i _ he 5 _ rfl⟩

/-- The parts that play a part. -/
def inn : Fo → List Fo | mk k _ _ _ _ _ _ ps => if k = 2 ∨ k = 3 then ps else []
def innV : Fo → Value | mk k _ _ _ _ A c ps => if k = 2 ∨ k = 3 then .slice A ps.length c else .slice none 0 0

theorem In.inner {w : World} {k s l h t : Int} {A : Option Addr} {c : Nat} {ps : List Fo} (H : In w (.mk k s l h t A c ps)) :
    ∃ A' c' qs, innV (.mk k s l h t A c ps) = .slice A' qs.length c' ∧ inn (.mk k s l h t A c ps) = qs ∧ qs.length ≤ 2199023255552 ∧ Lie w A' qs ∧ (∀ q ∈ qs, q ∈ ps ∧ In w q) := by
  cases H with
  | mk hc hz ha hp =>
    by_cases hk : k = 2 ∨ k = 3
    · exact ⟨A, c, ps, by rw [innV, if_pos hk], by rw [inn, if_pos hk], hz, ha, fun q hq => ⟨hq, hp q hq⟩⟩
    · exact ⟨none, 0, [], by rw [innV, if_neg hk]; rfl, by rw [inn, if_neg hk], by simp, fun h => by simp at h, fun q hq => by simp at hq⟩

mutual
/-- Depth. -/
def dep : Fo → Nat
  | mk k _ _ _ _ _ _ ps => if k = 2 ∨ k = 3 then deps ps + 1 else 1
def deps : List Fo → Nat
  | [] => 0
  | p :: ps => max (dep p) (deps ps)
end

mutual
/-- How many there are. -/
def cnt : Fo → Nat
  | mk k _ _ _ _ _ _ ps => if k = 2 ∨ k = 3 then cnts ps + 1 else 1
def cnts : List Fo → Nat
  | [] => 0
  | p :: ps => cnt p + cnts ps
end

mutual
/-- Open. -/
def opn : Fo → Bool
  | mk k _ _ _ _ _ _ ps => if k = 3 ∧ 0 < ps.length then opnL ps else decide (k = 4)
def opnL : List Fo → Bool
  | [] => false
  | p :: ps => if ps.length = 0 then opn p else opnL ps
end

/-- A sum, as Go has it. -/
def plus (a b : Int) : Int := wrap64 (a + b)

mutual
/-- The least length, or the greatest. -/
def len (b : Bool) : Fo → Int
  | mk k s l h _ _ _ ps => if k = 0 then s else if k = 1 ∨ k = 2 then plus s (if b then h else l) else if k = 3 then lens b 0 ps else if k = 4 then (if b then h else l) else l
def lens (b : Bool) : Int → List Fo → Int
  | a, [] => a
  | a, p :: ps => lens b (plus a (len b p)) ps
end

/-- What is wrong with a form itself. -/
def alone (k s l h t : Int) (n : Nat) : Int :=
  if k = 0 then (if s = 1 ∨ s = 2 ∨ s = 3 ∨ s = 4 ∨ s = 8 then 0 else 3)
  else if k = 4 then (if 0 ≤ l ∧ l ≤ h ∧ h ≤ 16777215 then 0 else 5)
  else if k = 5 then (if 0 ≤ l ∧ l ≤ 16777215 then 0 else 5)
  else if k = 1 ∨ k = 2 then (if 1 ≤ s ∧ s ≤ 3 then (if 0 ≤ l ∧ l ≤ h ∧ h ≤ 256 ^ s.toNat - 1 ∧ 1 ≤ t ∧ t ≤ 65536 then (if k = 2 ∧ n ≠ 1 then 15 else 0) else 5) else 3)
  else if k = 3 then (if n ≤ 32 then 0 else 15)
  else 2

/-- Parts where they may not stand. -/
def mis (k : Int) (ps : List Fo) : Bool :=
  if k = 2 then ps.any (fun p => p.opn || decide (p.len false = 0)) else if k = 3 then ps.dropLast.any opn else false

mutual
/-- What is wrong with a form, its depth apart. -/
def wrg : Fo → Int
  | mk k s l h t _ _ ps => if alone k s l h t ps.length ≠ 0 then alone k s l h t ps.length else if (if k = 2 ∨ k = 3 then wrgs ps else 0) ≠ 0 then wrgs ps else if mis k ps then 15 else 0
def wrgs : List Fo → Int
  | [] => 0
  | p :: ps => if wrg p ≠ 0 then wrg p else wrgs ps
end

/-- What Check tells. -/
def chk (f : Fo) : Int := if 8 < f.dep then 14 else f.wrg

/-- The same, but that of parts only their number is asked. -/
def al : Fo → Fo → Bool
  | mk k s l h t _ _ ps, mk k' s' l' h' t' _ _ ps' =>
    decide (k = k') && (if k = 2 ∨ k = 3 then decide (ps.length = ps'.length) else true) &&
    (if k = 0 then decide (s = s') else if k = 1 ∨ k = 2 then decide (s = s') && decide (l = l') && decide (h = h') && decide (t = t')
     else if k = 4 then decide (l = l') && decide (h = h') else if k = 5 then decide (l = l') else true)

mutual
/-- The same. -/
def same : Fo → Fo → Bool
  | mk k s l h t A c ps, g => al (mk k s l h t A c ps) g && (if k = 2 ∨ k = 3 then sames ps g.ps else true)
def sames : List Fo → List Fo → Bool
  | [], _ => true
  | _ :: _, [] => true
  | p :: ps, q :: qs => same p q && sames ps qs
end

theorem deps_append (xs ys : List Fo) : deps (xs ++ ys) = max (deps xs) (deps ys) := by
  induction xs with
  | nil => simp [deps]
  | cons x xs ih => simp only [List.cons_append, deps, ih]; omega
theorem deps_le {ps : List Fo} {m : Nat} : deps ps ≤ m ↔ ∀ p ∈ ps, dep p ≤ m := by
  induction ps with
  | nil => simp [deps]
  | cons x xs ih => simp [deps, ← ih]; omega
theorem cnts_append (xs ys : List Fo) : cnts (xs ++ ys) = cnts xs + cnts ys := by
  induction xs with
  | nil => simp [cnts]
  | cons x xs ih => simp [cnts, ih]; omega
theorem deps_take {qs : List Fo} {n : Nat} {p : Fo} (h : qs[n]? = some p) : deps (qs.take (n + 1)) = max (deps (qs.take n)) (dep p) := by
  rw [List.take_add_one, h, deps_append]; simp [deps]
theorem cnts_take {qs : List Fo} {n : Nat} {p : Fo} (h : qs[n]? = some p) : cnts (qs.take (n + 1)) = cnts (qs.take n) + cnt p := by
  rw [List.take_add_one, h, cnts_append]; simp [cnts]
theorem cnts_take_le (qs : List Fo) (n : Nat) : cnts (qs.take n) ≤ cnts qs := by
  have := cnts_append (qs.take n) (qs.drop n)
  rw [List.take_append_drop] at this
  omega
theorem dep_pos (f : Fo) : 1 ≤ f.dep := by
  cases f; simp only [dep]; split <;> omega
theorem cnt_pos (f : Fo) : 1 ≤ f.cnt := by
  cases f; simp only [cnt]; split <;> omega
theorem dep_inn (f : Fo) : f.dep = deps f.inn + 1 := by
  cases f; simp only [dep, inn]; split
  · rfl
  · simp only [deps]
theorem cnt_inn (f : Fo) : f.cnt = cnts f.inn + 1 := by
  cases f; simp only [cnt, inn]; split
  · rfl
  · simp only [cnts]
theorem opnL_last (ps : List Fo) (h : ps ≠ []) : opnL ps = opn (ps.getLast h) := by
  induction ps with
  | nil => exact absurd rfl h
  | cons x xs ih =>
    cases xs with
    | nil => simp [opnL]
    | cons y ys => simp only [opnL, List.length_cons]; rw [if_neg (by omega), List.getLast_cons (by simp)]; exact ih (by simp)
theorem take_succ' {ps : List Fo} {i : Nat} {p : Fo} (h : ps[i]? = some p) : ps.take (i + 1) = ps.take i ++ [p] := by
  rw [List.take_add_one, h]; rfl
theorem drop_at {ps : List Fo} {i : Nat} {p : Fo} (h : ps[i]? = some p) : ps.drop i = p :: ps.drop (i + 1) := by
  obtain ⟨hi, rfl⟩ := List.getElem?_eq_some_iff.1 h
  exact List.drop_eq_getElem_cons hi

end Fo
end Go.Proofs.Ytibbeodcheefaaa


/- Contracts of forms that are made, and of their parts that play a part. -/
namespace Go.Proofs.Ytibbeodcheefaaa
open Go.RowKit Fo

theorem ne_beq {a b : Int} (h : ¬ a = b) : (a == b) = false := by simpa using h

theorem parts_any (w : World) (f : Fo) :
    Calls Try.prog 36 #[f.val] w fun e w' => e = .returned f.innV ∧ Grew w w' none := by
  obtain ⟨k, s, l, h, t, A, c, ps⟩ := f
  have key : (k = 2 ∨ k = 3) ∨ ((k == 2) = false ∧ (k == 3) = false ∧ ¬ (k = 2 ∨ k = 3)) := by
    by_cases h2 : k = 2
    · exact .inl (.inl h2)
    · by_cases h3 : k = 3
      · exact .inl (.inr h3)
      · exact .inr ⟨ne_beq h2, ne_beq h3, by omega⟩
  simp only [Fo.val, Fo.cells, Fo.innV, Fo.k, Fo.s, Fo.l, Fo.h, Fo.t, Fo.A, Fo.ps, Fo.c]
  rcases key with (rfl | rfl) | ⟨h2, h3, hn⟩
  · go_enter Try.func36, Try.ntmps36
    go_wp2_with fail
    go_ret
    exact ⟨rfl, grew_alloc (grew_refl _ _) _⟩
  · go_enter Try.func36, Try.ntmps36
    go_wp2_with fail
    go_ret
    exact ⟨rfl, grew_alloc (grew_refl _ _) _⟩
  · rw [if_neg hn]
    clear hn
    go_enter Try.func36, Try.ntmps36
    go_wp2_with fail
    go_ret
    exact ⟨rfl, grew_alloc (grew_refl _ _) _⟩

theorem inside_any (w : World) (f : Fo) :
    Calls Try.prog 89 #[f.val] w fun e w' => e = .returned f.innV ∧ Grew w w' none := by
  obtain ⟨k, s, l, h, t, A, c, ps⟩ := f
  have key : (k = 2 ∨ k = 3) ∨ ((k == 2) = false ∧ (k == 3) = false ∧ ¬ (k = 2 ∨ k = 3)) := by
    by_cases h2 : k = 2
    · exact .inl (.inl h2)
    · by_cases h3 : k = 3
      · exact .inl (.inr h3)
      · exact .inr ⟨ne_beq h2, ne_beq h3, by omega⟩
  simp only [Fo.val, Fo.cells, Fo.innV, Fo.k, Fo.s, Fo.l, Fo.h, Fo.t, Fo.A, Fo.ps, Fo.c]
  rcases key with (rfl | rfl) | ⟨h2, h3, hn⟩
  · go_enter Try.func89, Try.ntmps89
    go_wp2_with fail
    go_ret
    exact ⟨rfl, grew_alloc (grew_refl _ _) _⟩
  · go_enter Try.func89, Try.ntmps89
    go_wp2_with fail
    go_ret
    exact ⟨rfl, grew_alloc (grew_refl _ _) _⟩
  · rw [if_neg hn]
    clear hn
    go_enter Try.func89, Try.ntmps89
    go_wp2_with fail
    go_ret
    exact ⟨rfl, grew_alloc (grew_refl _ _) _⟩

theorem info_form : (Try.prog.info? 24).map (fun i => (i.zero, i.size, i.bytes)) = some (some (.agg #[.int .i64 0, .int .i64 0, .int .i64 0, .int .i64 0, .int .i64 0, .slice none 0 0]), 6, 64) := by kernel_rfl

set_option maxRecDepth 100000 in
/-- 'append(v, parts...)': v owns a row of forms. -/
theorem append_forms (w : World) (ty : TypeId) {v : Value} {n : Nat} {xs : List Fo} (hown : w.ownsRow 0 24 6 v n (flat xs)) {A : Option Addr} {ps : List Fo} (hb : Lie w A ps) (c : Nat) (hm : n + ps.length ≤ 2199023255552) :
    ∃ v' w', (Builtin.append_ #[22, 22] ty #[v, .slice A ps.length c]).run Try.prog w = .ok v' w' ∧ AppLeft w 24 6 v (n + ps.length) (flat (xs ++ ps)) v' w' := by
  obtain ⟨i, hi, hz⟩ := Option.map_eq_some_iff.1 info_form
  simp only [Prod.mk.injEq] at hz
  obtain ⟨hz0, hz1, hz2⟩ := hz
  cases A with
  | none =>
    have e0 : ps = [] := by
      rcases Nat.eq_zero_or_pos ps.length with h | h
      · exact List.eq_nil_of_length_eq_zero h
      · obtain ⟨_, _, h, _⟩ := hb h
        cases h
    subst e0
    exact ⟨v, w, append_none w Try.underlying22 hi hown c, by simpa using hown, grew_refl _ _, .inl rfl⟩
  | some a =>
    have hn : ∀ j u, (flat ps)[j]? = some u → w.cell? (a.add j) = some u := by
      intro j u hu
      have hj : j < (flat ps).length := by
        rcases Nat.lt_or_ge j (flat ps).length with h | h
        · exact h
        · rw [List.getElem?_eq_none h] at hu; cases hu
      obtain ⟨p, hp, hc⟩ := flat_lt hj
      rw [flat_length] at hj
      obtain ⟨b, o, e, hcell⟩ := hb (by omega)
      cases e
      rw [addr_add]
      have := hcell _ p hp _ u (hc.trans hu)
      rw [← this]
      congr 2
      omega
    obtain ⟨v', w', hr, h2, h3, _, h5⟩ := run_append_own_at (P := Try.prog) w 0 22 ty 24 i _ 6 64 Try.underlying22 hi hz0 hz1 hz2 rfl (by omega) v n (flat xs) hown a ps.length c (flat ps) (flat_length _) hn (flat_one _)
      (by unfold maxLen; omega) (by omega) (Nat.zero_le _)
    exact ⟨v', w', hr, by rw [flat_append]; exact h2, h3, h5⟩

end Go.Proofs.Ytibbeodcheefaaa


/- Regions that draw their order and whose calls make memory of their own alone: the class of worlds that hold what there was, and more. -/
namespace Go.Proofs.Ytibbeodcheefaaa
open Go.RowKit

/-- What came to a world: how many draws there are, the blocks behind its own. -/
structure Pad where
  n : Nat
  hs : Array Obj

instance : Inhabited Pad := ⟨⟨0, #[]⟩⟩

/-- A world with more. -/
def World.pad (w : World) (x : Pad) : World := { w with heap := w.heap ++ x.hs, drawn := x.n }

theorem grew_pad (w : World) (x : Pad) : Grew w (World.pad w x) none :=
  ⟨rfl, rfl, rfl, by simp [World.pad], fun i hi _ => by simp [World.pad, Array.getElem?_append_left hi]⟩
theorem pad_of_grew {w w' : World} (h : Grew w w' none) : ∃ x, w' = World.pad w x := by
  refine ⟨⟨w'.drawn, w'.heap.extract w.heap.size w'.heap.size⟩, ?_⟩
  have hh : w'.heap = w.heap ++ w'.heap.extract w.heap.size w'.heap.size := by
    apply Array.ext_getElem?
    intro i
    rcases Nat.lt_or_ge i w.heap.size with hi | hi
    · rw [Array.getElem?_append_left hi, h.block i hi (by simp)]
    · rw [Array.getElem?_append_right hi]
      rw [Array.getElem?_extract]
      have := h.size
      split
      · congr 1; omega
      · rw [Array.getElem?_eq_none (by omega)]
  obtain ⟨heap, tape, drawn, os, output⟩ := w
  obtain ⟨heap', tape', drawn', os', output'⟩ := w'
  have h1 : os' = os := h.os
  have h2 : tape' = tape := h.tape
  have h3 : output' = output := h.output
  subst h1 h2 h3
  simp only [World.pad] at hh ⊢
  rw [← hh]
theorem pad_step {w w' : World} {x : Pad} (h : Grew (World.pad w x) w' none) : ∃ y, w' = World.pad w y := pad_of_grew (grew_trans (grew_pad w x) h)
theorem pad_cell {w : World} {a : Addr} {v : Value} (h : w.cell? a = some v) (x : Pad) : (World.pad w x).cell? a = some v := (grew_pad w x).cell h (by simp)

/-- A call whose answer is the same in every such world. -/
theorem pad_call {P : Program} {f : FuncId} {args : Array Value} {w : World} {x : Pad} {v : Value}
    (h : Calls P f args (World.pad w x) fun e w' => e = .returned v ∧ Grew (World.pad w x) w' none) : Calls P f args (World.pad w x) fun e w'' => e = .returned v ∧ ∃ y, w'' = World.pad w y :=
  h.mono fun _ _ ⟨he, hm⟩ => ⟨he, pad_step hm⟩

theorem wp_region_pad {P : Program} {id : Nat} {Q : Exit → Act → World → Prop} {a : Act} {w : World} {l : List Oper} (hm : P.follows .mixedOrders = true) (hB : Region.lexB .any l.toArray = true)
    (h : wpQuiet P l.toArray (fun w' => ∃ x, w' = World.pad w x) (fun a' => ∀ w', (∃ x, w' = World.pad w x) → Q .normal a' w') l a) : (Code.region id l.toArray true).wp P Q a w :=
  wp_region_quiet (C := fun w' => ∃ x, w' = World.pad w x) hm hB (pad_of_grew (grew_drew (grew_refl w none))) (by simpa using h)

end Go.Proofs.Ytibbeodcheefaaa


/- Forms that are open, and their lengths. -/
namespace Go.Proofs.Ytibbeodcheefaaa
open Go.RowKit Fo

set_option maxHeartbeats 1000000 in
theorem open_any (f : Fo) : ∀ (w : World), f.In w →
    Calls Try.prog 104 #[f.val] w fun e w' => e = .returned (.bool f.opn) ∧ Grew w w' none := by
  induction f using Fo.ind with
  | H k s l h t A c ps ih =>
  intro w hin
  have HIN := Lib.hid hin
  have IH := Lib.hid ih
  clear hin ih
  change Calls Try.prog 104 #[.agg #[.int .i64 k, .int .i64 s, .int .i64 l, .int .i64 h, .int .i64 t, .slice A ps.length c]] w _
  have HO := Lib.hid (show opn (.mk k s l h t A c ps) = if k = 3 ∧ 0 < ps.length then opnL ps else decide (k = 4) from by rw [opn])
  rw [HO.out]
  clear HO
  by_cases hk : k = 3
  · subst hk
    rcases Nat.eq_zero_or_pos ps.length with h0 | h0
    · rw [if_neg (by omega)]
      rw [h0]
      go_enter Try.func104, Try.ntmps104
      go_wp2_with fail
      go_ret
      exact ⟨rfl, grew_alloc (grew_refl _ _) _⟩
    · rw [if_pos ⟨rfl, h0⟩]
      obtain ⟨n, hn⟩ : ∃ n, ps.length = n + 1 := ⟨ps.length - 1, by omega⟩
      obtain ⟨b, o, p, hA, hp, hpm, hpi, c0, c1, c2, c3, c4, c5⟩ := (HIN.out.grew (grew_alloc (grew_refl w none) (.cells #[.int .i64 3, .int .i64 s, .int .i64 l, .int .i64 h, .int .i64 t, .slice A ps.length c] 24))).at (i := n) (by omega)
      subst hA
      have hlz : n ≤ 2199023255552 := by have := HIN.out; cases this; omega
      have HE := Lib.hid (show opnL ps = p.opn by
        rw [opnL_last ps (by intro e; subst e; simp at h0)]
        congr 1
        rw [List.getLast_eq_getElem]
        obtain ⟨_, rfl⟩ := List.getElem?_eq_some_iff.1 hp
        congr 1
        omega)
      have HP := Lib.hid (show p ∈ ps ∧ In (w.alloc (.cells #[.int .i64 3, .int .i64 s, .int .i64 l, .int .i64 h, .int .i64 t, .slice (some ⟨b, o, none⟩) ps.length c] 24)) p from ⟨hpm, hpi⟩)
      clear hp hpm hpi h0
      rw [hn] at *
      clear hn
      go_enter Try.func104, Try.ntmps104
      go_wp2_with fail
      refine (IH.out p HP.out.1 _ HP.out.2).mono ?_
      rintro e w1 ⟨rfl, g1⟩
      go_wp2_with fail
      go_ret
      exact ⟨by rw [HE.out]; rfl, grew_trans (grew_alloc (grew_refl _ _) _) g1⟩
  · rw [if_neg (by omega)]
    have hb := ne_beq hk
    go_enter Try.func104, Try.ntmps104
    go_wp2_with fail
    go_ret
    exact ⟨rfl, grew_alloc (grew_refl _ _) _⟩

theorem low_any (w : World) (f : Fo) :
    Calls Try.prog 106 #[f.val] w fun e w' => e = .returned (.int .i64 f.l) ∧ Grew w w' none := by
  have hval : f.val = .agg #[.int .i64 f.k, .int .i64 f.s, .int .i64 f.l, .int .i64 f.h, .int .i64 f.t, .slice f.A f.ps.length f.c] := rfl
  rw [hval]
  clear hval
  go_enter Try.func106, Try.ntmps106
  go_wp2_with fail
  go_ret
  exact ⟨rfl, grew_alloc (grew_refl _ _) _⟩

theorem plus_in {a b : Int} (h : -9223372036854775808 ≤ a + b) (h' : a + b ≤ 9223372036854775807) : plus a b = a + b := IntWalk.wrap64_in _ (by omega)

set_option maxRecDepth 100000 in
set_option maxHeartbeats 2000000 in
theorem length_low (f : Fo) : ∀ (w : World), f.In w →
    Calls Try.prog 105 #[f.val, .func (.func 106) #[] #[]] w fun e w' => e = .returned (.int .i64 (f.len false)) ∧ Grew w w' none := by
  induction f using Fo.ind with
  | H k s l h t A c ps ih =>
  intro w hin
  have HIN := Lib.hid hin
  have IH := Lib.hid ih
  clear hin ih
  change Calls Try.prog 105 #[.agg #[.int .i64 k, .int .i64 s, .int .i64 l, .int .i64 h, .int .i64 t, .slice A ps.length c], .func (.func 106) #[] #[]] w _
  have HO := Lib.hid (show len false (.mk k s l h t A c ps) = if k = 0 then s else if k = 1 ∨ k = 2 then plus s (if false then h else l) else if k = 3 then lens false 0 ps else if k = 4 then (if false then h else l) else l from by rw [len])
  rw [HO.out]
  clear HO
  have key : k = 0 ∨ (k = 1 ∨ k = 2) ∨ k = 3 ∨ k = 4 ∨ ((k == 0) = false ∧ (k == 1) = false ∧ (k == 2) = false ∧ (k == 3) = false ∧ (k == 4) = false ∧ ¬ k = 0 ∧ ¬ (k = 1 ∨ k = 2) ∧ ¬ k = 3 ∧ ¬ k = 4) := by
    by_cases h0 : k = 0
    · exact .inl h0
    by_cases h1 : k = 1
    · exact .inr (.inl (.inl h1))
    by_cases h2 : k = 2
    · exact .inr (.inl (.inr h2))
    by_cases h3 : k = 3
    · exact .inr (.inr (.inl h3))
    by_cases h4 : k = 4
    · exact .inr (.inr (.inr (.inl h4)))
    · exact .inr (.inr (.inr (.inr ⟨ne_beq h0, ne_beq h1, ne_beq h2, ne_beq h3, ne_beq h4, h0, by omega, h3, h4⟩)))
  rcases key with rfl | (rfl | rfl) | rfl | rfl | ⟨b0, b1, b2, b3, b4, n0, n1, n3, n4⟩
  · go_enter Try.func105, Try.ntmps105
    go_wp2_with fail
    go_ret
    exact ⟨rfl, grew_alloc (grew_refl _ _) _⟩
  · rw [if_neg (by omega), if_pos (by omega)]
    have hc := (Whole.new w #[.int .i64 1, .int .i64 s, .int .i64 l, .int .i64 h, .int .i64 t, .slice A ps.length c] 24)
    have HG := Lib.hid (grew_alloc (grew_refl w none) (.cells #[.int .i64 1, .int .i64 s, .int .i64 l, .int .i64 h, .int .i64 t, .slice A ps.length c] 24))
    have d0 := fun x => pad_cell (hc.cell 0) x
    have d1 := fun x => pad_cell (hc.cell 1) x
    have d2 := fun x => pad_cell (hc.cell 2) x
    have d3 := fun x => pad_cell (hc.cell 3) x
    have d4 := fun x => pad_cell (hc.cell 4) x
    have d5 := fun x => pad_cell (hc.cell 5) x
    clear hc
    go_enter Try.func105, Try.ntmps105
    go_wp2_with fail
    refine wp_region_pad (by kernel_rfl) (by kernel_rfl) ?_
    repeat (go_big_quiet_step ((go_at_call 106; exact pad_call (low_any _ (.mk 1 s l h t A c ps)))))
    refine wpQuiet_nil ?_
    rintro _ ⟨xq, rfl⟩
    go_wp2_with fail
    go_ret
    exact ⟨rfl, grew_trans HG.out (grew_pad _ xq)⟩
  · rw [if_neg (by omega), if_pos (by omega)]
    have hc := (Whole.new w #[.int .i64 2, .int .i64 s, .int .i64 l, .int .i64 h, .int .i64 t, .slice A ps.length c] 24)
    have HG := Lib.hid (grew_alloc (grew_refl w none) (.cells #[.int .i64 2, .int .i64 s, .int .i64 l, .int .i64 h, .int .i64 t, .slice A ps.length c] 24))
    have d0 := fun x => pad_cell (hc.cell 0) x
    have d1 := fun x => pad_cell (hc.cell 1) x
    have d2 := fun x => pad_cell (hc.cell 2) x
    have d3 := fun x => pad_cell (hc.cell 3) x
    have d4 := fun x => pad_cell (hc.cell 4) x
    have d5 := fun x => pad_cell (hc.cell 5) x
    clear hc
    go_enter Try.func105, Try.ntmps105
    go_wp2_with fail
    refine wp_region_pad (by kernel_rfl) (by kernel_rfl) ?_
    repeat (go_big_quiet_step ((go_at_call 106; exact pad_call (low_any _ (.mk 2 s l h t A c ps)))))
    refine wpQuiet_nil ?_
    rintro _ ⟨xq, rfl⟩
    go_wp2_with fail
    go_ret
    exact ⟨rfl, grew_trans HG.out (grew_pad _ xq)⟩
  · rw [if_neg (by omega), if_neg (by omega), if_pos rfl]
    go_enter Try.func105, Try.ntmps105
    have HR := Lib.hid (show Grew w (w.alloc (.cells #[.int .i64 3, .int .i64 s, .int .i64 l, .int .i64 h, .int .i64 t, .slice A ps.length c] 24)) none ∧ lens false 0 (ps.drop 0) = lens false 0 ps from ⟨grew_alloc (grew_refl _ _) _, rfl⟩)
    go_wp2_with fail
    generalize w.alloc (.cells #[.int .i64 3, .int .i64 s, .int .i64 l, .int .i64 h, .int .i64 t, .slice A ps.length c] 24) = W0 at *
    have hlz : ps.length ≤ 2199023255552 := by have := HIN.out; cases this; assumption
    go_loopw [28, 5] (fun i d wr => ∃ (n : Nat) (x : Int), n ≤ ps.length ∧ i = .int .i64 n ∧ d = .int .i64 x ∧ Hid (Grew w wr none ∧ lens false x (ps.drop n) = lens false 0 ps)) (fun i _ _ => ps.length - (intOf i).toNat)
    case atStart => exact ⟨0, 0, Nat.zero_le _, rfl, rfl, HR⟩
    case round =>
      obtain ⟨n, x, hn, rfl, rfl, R⟩ := hrel
      by_cases hlt : n < ps.length
      · obtain ⟨b, o, p, rfl, hp, hpm, hpi, c0, c1, c2, c3, c4, c5⟩ := (HIN.out.grew R.out.1).at hlt
        have HP := Lib.hid (show ps[n]? = some p ∧ p ∈ ps ∧ In wr p from ⟨hp, hpm, hpi⟩)
        clear hp hpm hpi
        go_wp2_with fail
        refine (IH.out p HP.out.2.1 _ (HP.out.2.2.grew (grew_alloc (grew_refl _ _) _))).mono ?_
        rintro e w2 ⟨rfl, g2⟩
        have HR2 := Lib.hid (show Grew w w2 none ∧ lens false (plus x (p.len false)) (ps.drop (n + 1)) = lens false 0 ps from ⟨grew_trans (grew_alloc R.out.1 _) g2, by
          have := R.out.2
          rw [drop_at HP.out.1, lens] at this
          exact this⟩)
        clear c0 c1 c2 c3 c4 c5 g2 R
        generalize hy : p.len false = y at *
        have HY := Lib.hid hy
        clear hy
        go_wp2_with fail
        go_roundw
        case rel => exact ⟨n + 1, plus x y, by omega, by go_num, rfl, HR2⟩
        case measure => simp [intOf]; omega
      · have HE := Lib.hid (show x = lens false 0 ps by
          have h3 := R.out.2
          have : n = ps.length := by omega
          rw [this, List.drop_length, lens] at h3
          exact h3)
        have HG := Lib.hid R.out.1
        clear R
        go_wp2_with fail
        go_ret
        exact ⟨by rw [← HE.out]; rfl, HG.out⟩
  · rw [if_neg (by omega), if_neg (by omega), if_neg (by omega), if_pos rfl]
    go_enter Try.func105, Try.ntmps105
    go_wp2_with fail
    refine (low_any _ (.mk 4 s l h t A c ps)).mono ?_
    rintro e w1 ⟨rfl, g1⟩
    go_wp2_with fail
    go_ret
    exact ⟨rfl, grew_trans (grew_alloc (grew_refl _ _) _) g1⟩
  · rw [if_neg n0, if_neg n1, if_neg n3, if_neg n4]
    clear n0 n1 n3 n4
    go_enter Try.func105, Try.ntmps105
    go_wp2_with fail
    go_ret
    exact ⟨rfl, grew_alloc (grew_refl _ _) _⟩

end Go.Proofs.Ytibbeodcheefaaa


/- What is wrong with a form itself: the code's answer. -/
namespace Go.Proofs.Ytibbeodcheefaaa
open Go.RowKit Fo

theorem numsize_any (w : World) (s : Int) :
    Calls Try.prog 101 #[.int .i64 s] w fun e w' => e = .returned (.bool (decide (s = 1 ∨ s = 2 ∨ s = 3 ∨ s = 4 ∨ s = 8))) ∧ w = w' := by
  have key : s = 1 ∨ s = 2 ∨ s = 3 ∨ s = 4 ∨ s = 8 ∨ ((s == 1) = false ∧ (s == 2) = false ∧ (s == 3) = false ∧ (s == 4) = false ∧ (s == 8) = false ∧ ¬ (s = 1 ∨ s = 2 ∨ s = 3 ∨ s = 4 ∨ s = 8)) := by
    by_cases h : s = 1 ∨ s = 2 ∨ s = 3 ∨ s = 4 ∨ s = 8
    · omega
    · exact .inr (.inr (.inr (.inr (.inr ⟨ne_beq (by omega), ne_beq (by omega), ne_beq (by omega), ne_beq (by omega), ne_beq (by omega), h⟩))))
  rcases key with rfl | rfl | rfl | rfl | rfl | ⟨h1, h2, h3, h4, h8, hn⟩
  case inr.inr.inr.inr.inr =>
    rw [decide_eq_false hn]
    clear hn
    go_enter Try.func101, Try.ntmps101
    go_wp2_with fail
    go_ret
    exact ⟨rfl, rfl⟩
  all_goals
    go_enter Try.func101, Try.ntmps101
    go_wp2_with fail
    go_ret
    exact ⟨rfl, rfl⟩

theorem span_any (w : World) (l h m : Int) :
    Calls Try.prog 102 #[.int .i64 l, .int .i64 h, .int .i64 m] w fun e w' => e = .returned (.bool (decide (0 ≤ l ∧ l ≤ h ∧ h ≤ m))) ∧ w = w' := by
  by_cases h0 : 0 ≤ l
  · by_cases h1 : l ≤ h
    · have e : decide (0 ≤ l ∧ l ≤ h ∧ h ≤ m) = decide (h ≤ m) := by simp [h0, h1]
      rw [e]
      clear e
      go_enter Try.func102, Try.ntmps102
      go_wp2_with fail
      go_ret
      exact ⟨rfl, rfl⟩
    · have e : decide (0 ≤ l ∧ l ≤ h ∧ h ≤ m) = false := by simp [h1]
      rw [e]
      clear e
      go_enter Try.func102, Try.ntmps102
      go_wp2_with fail
      go_ret
      exact ⟨rfl, rfl⟩
  · have e : decide (0 ≤ l ∧ l ≤ h ∧ h ≤ m) = false := by simp [h0]
    rw [e]
    clear e
    go_enter Try.func102, Try.ntmps102
    go_wp2_with fail
    go_ret
    exact ⟨rfl, rfl⟩

theorem count_one (w : World) (n : Int) :
    Calls Try.prog 103 #[.int .i64 1, .int .i64 n] w fun e w' => e = .returned (.bool true) ∧ w = w' := by
  go_enter Try.func103, Try.ntmps103
  go_wp2_with fail
  go_ret
  exact ⟨rfl, rfl⟩
theorem count_two (w : World) (n : Int) :
    Calls Try.prog 103 #[.int .i64 2, .int .i64 n] w fun e w' => e = .returned (.bool (n == 1)) ∧ w = w' := by
  go_enter Try.func103, Try.ntmps103
  go_wp2_with fail
  go_ret
  exact ⟨rfl, rfl⟩
theorem count_three (w : World) (n : Int) :
    Calls Try.prog 103 #[.int .i64 3, .int .i64 n] w fun e w' => e = .returned (.bool (decide (n ≤ 32))) ∧ w = w' := by
  go_enter Try.func103, Try.ntmps103
  go_wp2_with fail
  go_ret
  exact ⟨rfl, rfl⟩

end Go.Proofs.Ytibbeodcheefaaa

