/- Plain facts on memory: bytes that a slice reads as, a block that is known whole, worlds that differ in one block. -/
import Derived.WalkKit
import Derived.WalkSpells
import Derived.WalkLawsBesides
import Derived.Laws.BytesArg
import Derived.Laws.CopyOwn
import Derived.Maps.AppendAt
import Derived.Laws.OwnMore
import Derived.Test.YtnjnghbonmdbdaaDoorRows
import Derived.Lib.Hide
import Derived.IntWalk
import Derived.Deep.Cut
namespace Go.Proofs.YtnjnghbonmdbdaaDoor
open Go.RowKit

/-- The slice at A holds the bytes xs, in a block below B (of no bytes nothing is asked). -/
def Byt (w : World) (B : Nat) (A : Option Addr) (xs : List UInt8) : Prop :=
  0 < xs.length → ∃ b o, A = some ⟨b, o, none⟩ ∧ b < B ∧ ∀ i, i < xs.length → w.cell? ⟨b, o + i, none⟩ = some (.int .u8 ((xs.getD i 0).toNat : Int))

/-- A block of cells, whole, nothing frozen. -/
def Whole (w : World) (p : Nat) (cs : Array Value) (t : TypeId) : Prop := w.heap[p]? = some (.cells cs t (0, 0))

theorem Whole.lt {w : World} {p : Nat} {cs : Array Value} {t : TypeId} (h : Whole w p cs t) : p < w.heap.size := by
  rcases Nat.lt_or_ge p w.heap.size with h1 | h1
  · exact h1
  · unfold Whole at h; rw [Array.getElem?_eq_none h1] at h; cases h

theorem Whole.cell {w : World} {p : Nat} {cs : Array Value} {t : TypeId} (h : Whole w p cs t) (i : Nat) : w.cell? ⟨p, i, none⟩ = cs[i]? := by
  unfold Whole at h
  simp [World.cell?, h]

theorem Whole.frozen {w : World} {p : Nat} {cs : Array Value} {t : TypeId} (h : Whole w p cs t) (i : Nat) : w.frozen? ⟨p, i, none⟩ = false := by
  unfold Whole at h
  simp [World.frozen?, h]

theorem Whole.new (w : World) (cs : Array Value) (t : TypeId) : Whole (w.alloc (.cells cs t)) w.heap.size cs t := heap_alloc_new w _

theorem Whole.set {w : World} {p : Nat} {cs : Array Value} {t : TypeId} (h : Whole w p cs t) (i : Nat) (u : Value) : Whole (w.setCell ⟨p, i, none⟩ u) p (cs.setIfInBounds i u) t := by
  unfold Whole at h ⊢
  simp [World.setCell, Array.getElem?_modify, h]

/-- Nothing that was there has turned but block 'row' (none: nothing). -/
abbrev Grew (w w' : World) (row : Option Nat) : Prop := w.grownBy w' row

theorem grew_refl (w : World) (row : Option Nat) : Grew w w row := ⟨rfl, rfl, rfl, Nat.le_refl _, fun _ _ _ => rfl⟩
theorem grew_trans {a b c : World} {row : Option Nat} (h : Grew a b row) (k : Grew b c row) : Grew a c row :=
  ⟨k.os.trans h.os, k.tape.trans h.tape, k.output.trans h.output, Nat.le_trans h.size k.size, fun i hi hn => (k.block i (Nat.lt_of_lt_of_le hi h.size) hn).trans (h.block i hi hn)⟩
theorem grew_weak {a b : World} {row : Option Nat} (h : Grew a b none) : Grew a b row := ⟨h.os, h.tape, h.output, h.size, fun i hi _ => h.block i hi (by simp)⟩
theorem grew_alloc {a w : World} {row : Option Nat} (h : Grew a w row) (o : Obj) : Grew a (w.alloc o) row :=
  grew_trans h ⟨rfl, rfl, rfl, by simp, fun i hi _ => Below.heap_alloc _ _ _ hi⟩
theorem grew_set {a w : World} {p : Nat} (h : Grew a w (some p)) (i : Nat) (s : Option Nat) (u : Value) : Grew a (w.setCell ⟨p, i, s⟩ u) (some p) :=
  grew_trans h ⟨rfl, rfl, rfl, by simp [World.setCell], fun k _ hk => Below.heap_setCell _ _ _ _ (fun e => hk (by rw [e]))⟩
theorem grew_drewN {a w : World} {row : Option Nat} (h : Grew a w row) (n : Nat) : Grew a (w.drewN n) row := ⟨h.os, h.tape, h.output, h.size, h.block⟩
theorem grew_drew {a w : World} {row : Option Nat} (h : Grew a w row) : Grew a w.drew row := ⟨h.os, h.tape, h.output, h.size, h.block⟩
theorem grew_own {a b c : World} {row : Option Nat} {p : Nat} (h : Grew a b row) (k : Grew b c (some p)) (hp : a.heap.size ≤ p) : Grew a c row :=
  ⟨k.os.trans h.os, k.tape.trans h.tape, k.output.trans h.output, Nat.le_trans h.size k.size, fun i hi hn => (k.block i (Nat.lt_of_lt_of_le hi h.size) (fun e => by cases e; omega)).trans (h.block i hi hn)⟩
theorem grew_below {a b : World} {row : Option Nat} {B : Nat} (h : Grew a b row) (hB : B ≤ a.heap.size) (hr : ∀ k, row = some k → B ≤ k) : Below B a b :=
  ⟨h.os, h.tape, h.output, h.size, fun k hk => h.block k (by omega) (fun e => by have := hr k e.symm; omega)⟩

theorem Whole.grew {w w' : World} {row : Option Nat} {p : Nat} {cs : Array Value} {t : TypeId} (h : Whole w p cs t) (g : Grew w w' row) (hr : some p ≠ row) : Whole w' p cs t :=
  (g.block p h.lt hr).trans h

theorem Byt.grew {w w' : World} {row : Option Nat} {B : Nat} {A : Option Addr} {xs : List UInt8} (h : Byt w B A xs) (g : Grew w w' row) (hr : ∀ k, row = some k → B ≤ k) : Byt w' B A xs := by
  intro hn
  obtain ⟨b, o, rfl, hb, hc⟩ := h hn
  exact ⟨b, o, rfl, hb, fun i hi => g.cell (hc i hi) (fun e => by have := hr b e.symm; omega)⟩
theorem Byt.more {w : World} {B B' : Nat} {A : Option Addr} {xs : List UInt8} (h : Byt w B A xs) (hB : B ≤ B') : Byt w B' A xs := by
  intro hn
  obtain ⟨b, o, rfl, hb, hc⟩ := h hn
  exact ⟨b, o, rfl, by omega, hc⟩
theorem Byt.take {w : World} {B : Nat} {A : Option Addr} {xs : List UInt8} (h : Byt w B A xs) (k : Nat) : Byt w B A (xs.take k) := by
  intro hn
  have hl : (xs.take k).length ≤ xs.length := List.length_take_le' _ _
  obtain ⟨b, o, rfl, hb, hc⟩ := h (by omega)
  refine ⟨b, o, rfl, hb, fun i hi => ?_⟩
  rw [hc i (by omega)]
  have hik : i < k := by rw [List.length_take] at hi; omega
  simp [List.getD, List.getElem?_take_of_lt hik]

/-- Where a slice's rest begins: at its very end the address stays. -/
def cutAt (A : Option Addr) (c k : Nat) : Option Addr := if c = k then A else A.map (fun x => x.add k)

theorem Byt.drop {w : World} {B : Nat} {A : Option Addr} {xs : List UInt8} (h : Byt w B A xs) {k c : Nat} (hc : xs.length ≤ c) : Byt w B (cutAt A c k) (xs.drop k) := by
  intro hn
  rw [List.length_drop] at hn
  obtain ⟨b, o, rfl, hb, hcell⟩ := h (by omega)
  refine ⟨b, o + k, ?_, hb, fun i hi => ?_⟩
  · unfold cutAt
    rw [if_neg (by omega)]
    by_cases h0 : k = 0
    · subst h0; simp [Addr.add]
    · simp [Addr.add, h0]
  · rw [List.length_drop] at hi
    rw [Nat.add_assoc, hcell (k + i) (by omega)]
    simp [List.getD, List.getElem?_drop]

/-- The bytes as a text. -/
def txt (xs : List UInt8) : ByteArray := ⟨xs.toArray⟩
theorem txt_size (xs : List UInt8) : (txt xs).size = xs.length := by simp [txt, ByteArray.size]
theorem txt_append (xs ys : List UInt8) : txt xs ++ txt ys = txt (xs ++ ys) := by
  apply ByteArray.ext; simp [txt]

theorem strOf_map (xs : List UInt8) : strOfNums (xs.map fun x => (x.toNat : Int)) = txt xs := by
  simp only [strOfNums, txt, List.map_map]
  congr 2
  conv => rhs; rw [← List.map_id xs]
  apply List.map_congr_left
  intro x _
  simp

/-- 'string(b)'. -/
theorem conv_txt {P : Program} (w : World) {src e dst : TypeId} (hs : P.underlying src = some (.slice e)) (he : P.underlying e = some (.int .u8)) (hd : P.underlying dst = some .string)
    {B : Nat} {A : Option Addr} {xs : List UInt8} (h : Byt w B A xs) {n : Nat} (hn : n = xs.length) (c : Nat) : (convert src dst (.slice A n c)).run P w = .ok (.string (txt xs)) w := by
  subst hn
  cases A with
  | none =>
    have h0 : xs = [] := by
      rcases Nat.eq_zero_or_pos xs.length with h0 | h0
      · exact List.eq_nil_of_length_eq_zero h0
      · obtain ⟨b, o, e, _⟩ := h h0; cases e
    subst h0
    exact run_convert_bytes_nil w src e hs he _ c dst hd
  | some a =>
    have key : ∀ (b o : Nat), (∀ i, i < xs.length → w.cell? ⟨b, o + i, none⟩ = some (.int .u8 ((xs.getD i 0).toNat : Int))) → (convert src dst (.slice (some ⟨b, o, none⟩) xs.length c)).run P w = .ok (.string (txt xs)) w := by
      intro b o hc
      have := run_convert_bytes_arg (P := P) w src e hs he b o xs.length c (xs.map fun x => (x.toNat : Int)) (by simp) (fun i hi => by
        rw [hc i hi]
        simp [List.getD, List.getElem?_eq_getElem hi]) dst hd
      rw [this, strOf_map]
    rcases Nat.eq_zero_or_pos xs.length with h0 | h0
    · have e0 : xs = [] := List.eq_nil_of_length_eq_zero h0
      subst e0
      rw [run_convert_bytes_string w src dst e _ _ c hs he hd]
      have hl : (loadCells a 0).run P w = .ok (([] : List Int).map (Value.int .u8)).toArray w := by
        have := run_loadCells_list (P := P) w a [] (fun j v hj => by simp at hj)
        simpa using this
      exact (run_bytesToString (P := P) w a 0 c [] hl).trans rfl
    · obtain ⟨b, o, e', _, hc⟩ := h h0
      cases e'
      exact key b o hc

end Go.Proofs.YtnjnghbonmdbdaaDoor


/- Footprints: which blocks may have turned; rows that the program owns; append onto such a row. -/
namespace Go.Proofs.YtnjnghbonmdbdaaDoor
open Go.RowKit

/-- Nothing that was there has turned but blocks of F. -/
structure Fr (w w' : World) (F : Nat → Prop) : Prop where
  os : w'.os = w.os
  tape : w'.tape = w.tape
  output : w'.output = w.output
  size : w.heap.size ≤ w'.heap.size
  block : ∀ i, i < w.heap.size → ¬ F i → w'.heap[i]? = w.heap[i]?

theorem Fr.refl (w : World) (F : Nat → Prop) : Fr w w F := ⟨rfl, rfl, rfl, Nat.le_refl _, fun _ _ _ => rfl⟩
/-- What the second may turn is the first's, or new. -/
theorem Fr.trans {a b c : World} {F G : Nat → Prop} (h : Fr a b F) (k : Fr b c G) (hs : ∀ i, i < a.heap.size → G i → F i) : Fr a c F :=
  ⟨k.os.trans h.os, k.tape.trans h.tape, k.output.trans h.output, Nat.le_trans h.size k.size, fun i hi hn => (k.block i (Nat.lt_of_lt_of_le hi h.size) (fun g => hn (hs i hi g))).trans (h.block i hi hn)⟩
theorem Fr.mono {a b : World} {F G : Nat → Prop} (h : Fr a b F) (hs : ∀ i, i < a.heap.size → F i → G i) : Fr a b G :=
  ⟨h.os, h.tape, h.output, h.size, fun i hi hn => h.block i hi (fun g => hn (hs i hi g))⟩
theorem Fr.of_grew {a b : World} {row : Option Nat} (h : Grew a b row) : Fr a b (fun i => some i = row) :=
  ⟨h.os, h.tape, h.output, h.size, fun i hi hn => h.block i hi hn⟩
theorem Fr.of_grew' {a b : World} {row : Option Nat} {F : Nat → Prop} (h : Grew a b row) (hr : ∀ i, row = some i → F i) : Fr a b F :=
  ⟨h.os, h.tape, h.output, h.size, fun i hi hn => h.block i hi (fun e => hn (hr i e.symm))⟩
theorem Fr.alloc {a w : World} {F : Nat → Prop} (h : Fr a w F) (o : Obj) : Fr a (w.alloc o) F :=
  h.trans (G := fun _ => False) ⟨rfl, rfl, rfl, by simp, fun i hi _ => Below.heap_alloc _ _ _ hi⟩ (fun _ _ h => h.elim)
theorem Fr.set {a w : World} {F : Nat → Prop} (h : Fr a w F) {p : Nat} (hp : F p ∨ a.heap.size ≤ p) (i : Nat) (s : Option Nat) (u : Value) : Fr a (w.setCell ⟨p, i, s⟩ u) F :=
  h.trans (G := fun k => k = p) ⟨rfl, rfl, rfl, by simp [World.setCell], fun k _ hk => Below.heap_setCell _ _ _ _ hk⟩ (fun k hk e => by subst e; rcases hp with h | h; exact h; omega)
theorem Fr.drewN {a w : World} {F : Nat → Prop} (h : Fr a w F) (n : Nat) : Fr a (w.drewN n) F := ⟨h.os, h.tape, h.output, h.size, h.block⟩
theorem Fr.drew {a w : World} {F : Nat → Prop} (h : Fr a w F) : Fr a w.drew F := ⟨h.os, h.tape, h.output, h.size, h.block⟩
/-- Behind blocks that were new nothing old has turned. -/
theorem grew_fr {a b c : World} {row : Option Nat} {F : Nat → Prop} (h : Grew a b row) (k : Fr b c F) (hF : ∀ i, F i → a.heap.size ≤ i) : Grew a c row :=
  ⟨k.os.trans h.os, k.tape.trans h.tape, k.output.trans h.output, Nat.le_trans h.size k.size, fun i hi hn => (k.block i (Nat.lt_of_lt_of_le hi h.size) (fun g => by have := hF i g; omega)).trans (h.block i hi hn)⟩

theorem Whole.fr {w w' : World} {F : Nat → Prop} {p : Nat} {cs : Array Value} {t : TypeId} (h : Whole w p cs t) (g : Fr w w' F) (hr : ¬ F p) : Whole w' p cs t :=
  (g.block p h.lt hr).trans h
theorem Whole.ne {w : World} {p q : Nat} {cs ds : Array Value} {t u : TypeId} (h : Whole w p cs t) (k : Whole w q ds u) (hne : t ≠ u) : p ≠ q := by
  rintro rfl
  unfold Whole at h k
  rw [h] at k
  injection k with k
  injection k with _ k
  exact hne k

/-- A cell of a block that has not turned. -/
theorem Fr.cell {w w' : World} {F : Nat → Prop} (h : Fr w w' F) {a : Addr} {v : Value} (hc : w.cell? a = some v) (hn : ¬ F a.block) : w'.cell? a = some v :=
  (World.cell?_of_block (h.block a.block (World.block_lt_of_cell? w a hc) hn)).trans hc

/-- The slice at A holds the bytes xs, in a block of F (of no bytes nothing is asked). -/
def ByF (w : World) (F : Nat → Prop) (A : Option Addr) (xs : List UInt8) : Prop :=
  0 < xs.length → ∃ b o, A = some ⟨b, o, none⟩ ∧ F b ∧ ∀ i, i < xs.length → w.cell? ⟨b, o + i, none⟩ = some (.int .u8 ((xs.getD i 0).toNat : Int))
theorem Byt.byf {w : World} {B : Nat} {A : Option Addr} {xs : List UInt8} (h : Byt w B A xs) : ByF w (· < B) A xs := h
theorem ByF.byt {w : World} {F : Nat → Prop} {A : Option Addr} {xs : List UInt8} (h : ByF w F A xs) : Byt w w.heap.size A xs := by
  intro hn
  obtain ⟨b, o, e, _, hc⟩ := h hn
  exact ⟨b, o, e, World.block_lt_of_cell? w _ (hc 0 hn), hc⟩
theorem ByF.mono {w : World} {F G : Nat → Prop} {A : Option Addr} {xs : List UInt8} (h : ByF w F A xs) (hs : ∀ i, F i → G i) : ByF w G A xs := by
  intro hn
  obtain ⟨b, o, e, hb, hc⟩ := h hn
  exact ⟨b, o, e, hs b hb, hc⟩
theorem ByF.fr {w w' : World} {F G : Nat → Prop} {A : Option Addr} {xs : List UInt8} (h : ByF w F A xs) (g : Fr w w' G) (hr : ∀ i, F i → ¬ G i) : ByF w' F A xs := by
  intro hn
  obtain ⟨b, o, e, hb, hc⟩ := h hn
  exact ⟨b, o, e, hb, fun i hi => g.cell (hc i hi) (hr b hb)⟩
theorem ByF.take {w : World} {F : Nat → Prop} {A : Option Addr} {xs : List UInt8} (h : ByF w F A xs) (k : Nat) : ByF w F A (xs.take k) := by
  intro hn
  have hl : (xs.take k).length ≤ xs.length := List.length_take_le' _ _
  obtain ⟨b, o, rfl, hb, hc⟩ := h (by omega)
  refine ⟨b, o, rfl, hb, fun i hi => ?_⟩
  rw [hc i (by omega)]
  have hik : i < k := by rw [List.length_take] at hi; omega
  simp [List.getD, List.getElem?_take_of_lt hik]
theorem ByF.nil (w : World) (F : Nat → Prop) (A : Option Addr) : ByF w F A [] := fun h => by simp at h

/-- A row that is owned stands where its block has not turned. -/
theorem own_fr {w w' : World} {F : Nat → Prop} {e : TypeId} {size n : Nat} {v : Value} {xs : List Value} (h : w.ownsRow 0 e size v n xs) (g : Fr w w' F) (hr : ∀ k, v.ownBlock = some k → ¬ F k) : w'.ownsRow 0 e size v n xs := by
  refine ⟨h.1, ?_⟩
  rcases h.2 with h0 | ⟨b, cap, cur, rfl, hb, hh, rest⟩
  · exact .inl h0
  · refine .inr ⟨b, cap, cur, rfl, hb, ?_, rest⟩
    have hW : Whole w b cur e := hh
    exact hW.fr g (hr b rfl)
theorem own_lt {w : World} {e : TypeId} {size n : Nat} {v : Value} {xs : List Value} (h : w.ownsRow 0 e size v n xs) : ∀ k, v.ownBlock = some k → k < w.heap.size := fun k hk => (h.lt k hk).2
/-- Rows of other types, and blocks known whole of other types, are apart. -/
theorem own_ne {w : World} {e : TypeId} {size n p : Nat} {v : Value} {xs : List Value} {cs : Array Value} {t : TypeId} (h : w.ownsRow 0 e size v n xs) (k : Whole w p cs t) (hne : e ≠ t) : v.ownBlock ≠ some p := by
  rcases h.2 with ⟨rfl, _⟩ | ⟨b, cap, cur, rfl, _, hh, _⟩
  · simp [Value.ownBlock]
  · intro he
    have e' : b = p := by simpa [Value.ownBlock] using he
    exact Whole.ne (w := w) (t := e) hh k hne e'
theorem own_own {w : World} {e e' : TypeId} {size size' n n' : Nat} {v v' : Value} {xs xs' : List Value} (h : w.ownsRow 0 e size v n xs) (k : w.ownsRow 0 e' size' v' n' xs') (hne : e ≠ e') : ∀ g, v.ownBlock = some g → v'.ownBlock ≠ some g := by
  intro g hg
  rcases h.2 with ⟨rfl, _⟩ | ⟨b, cap, cur, rfl, _, hh, _⟩
  · simp [Value.ownBlock] at hg
  · have e2 : b = g := by simpa [Value.ownBlock] using hg
    subst e2
    exact own_ne (t := e) k hh (fun h => hne h.symm)

/-- The cells of bytes. -/
def cellsOf (xs : List UInt8) : List Value := xs.map fun x => .int .u8 (x.toNat : Int)
theorem cellsOf_length (xs : List UInt8) : (cellsOf xs).length = xs.length := by simp [cellsOf]
theorem cellsOf_append (xs ys : List UInt8) : cellsOf (xs ++ ys) = cellsOf xs ++ cellsOf ys := by simp [cellsOf]
theorem cellsOf_one (xs : List UInt8) : ∀ v ∈ cellsOf xs, v.oneCell' = true := by
  intro v hv
  obtain ⟨x, _, rfl⟩ := List.mem_map.1 hv
  rfl
theorem cellsOf_at (xs : List UInt8) (i : Nat) (h : i < xs.length) : (cellsOf xs)[i]? = some (.int .u8 ((xs.getD i 0).toNat : Int)) := by
  simp [cellsOf, List.getD, List.getElem?_eq_getElem h]
theorem addr_add (b o n : Nat) : (⟨b, o, none⟩ : Addr).add n = ⟨b, o + n, none⟩ := by
  unfold Addr.add
  split <;> simp_all

/-- An owned row of bytes read as a slice. -/
theorem own_by {w : World} {e : TypeId} {A : Option Addr} {n c : Nat} {xs : List UInt8} (h : w.ownsRow 0 e 1 (.slice A n c) n (cellsOf xs)) : ByF w (fun i => (Value.slice A n c).ownBlock = some i) A xs := by
  intro hn
  have hl := h.1
  rw [cellsOf_length] at hl
  rcases h.2 with ⟨_, h0⟩ | ⟨b, cap, cur, hv, _, hh, hnc, _, hsz, ht⟩
  · omega
  · injection hv with hA _ hc
    subst hA hc
    refine ⟨b, 0, rfl, by simp [Value.ownBlock], fun i hi => ?_⟩
    have hW : Whole w b cur e := hh
    rw [hW.cell, ← cellsOf_at _ _ hi, ← ht, List.getElem?_take_of_lt (by omega), Nat.zero_add, Array.getElem?_toList]

section
variable {P : Program} (w : World)
/-- Onto an owned row nothing is appended out of nil. -/
theorem append_none {t ty e : TypeId} {i : TypeInfo} {size : Nat} (ht : P.underlying t = some (.slice e)) (hi : P.info? e = some i) {v : Value} {n : Nat} {xs : List Value} (hown : w.ownsRow 0 e size v n xs) (c : Nat) :
    (Builtin.append_ #[t, t] ty #[v, .slice none 0 c]).run P w = .ok v w := by
  rcases hown.2 with ⟨rfl, rfl⟩ | ⟨g, cap, cur, rfl, _, _, hnc, _⟩
  · simp [Builtin.append_, run_underlying ht, sizeOf, typeInfo, hi, Builtin.lenOf, Builtin.firstCells]
  · simp [Builtin.append_, run_underlying ht, sizeOf, typeInfo, hi, Builtin.lenOf, Builtin.firstCells, hnc, storeCells]

/-- What an append leaves: the value, the world. -/
def AppLeft (w : World) (e : TypeId) (size : Nat) (v : Value) (n : Nat) (ys : List Value) (v' : Value) (w' : World) : Prop :=
  w'.ownsRow 0 e size v' n ys ∧ Grew w w' v.ownBlock ∧ (v'.ownBlock = v.ownBlock ∨ v'.ownBlock = some w.heap.size)

/-- 'append(v, src...)': v owns a row of bytes; src is nil, empty or not. -/
theorem append_bytes (t ty e : TypeId) (ht : P.underlying t = some (.slice e)) (hinfo : (P.info? e).map (fun i => (i.zero, i.size, i.bytes)) = some (some (.int .u8 0), 1, 1))
    {v : Value} {n : Nat} {xs : List UInt8} (hown : w.ownsRow 0 e 1 v n (cellsOf xs)) {F : Nat → Prop} {A : Option Addr} {bs : List UInt8} (hb : ByF w F A bs) (c : Nat) (hm : n + bs.length ≤ 140737488355328) :
    ∃ v' w', (Builtin.append_ #[t, t] ty #[v, .slice A bs.length c]).run P w = .ok v' w' ∧ AppLeft w e 1 v (n + bs.length) (cellsOf (xs ++ bs)) v' w' := by
  obtain ⟨i, hi, hz⟩ := Option.map_eq_some_iff.1 hinfo
  simp only [Prod.mk.injEq] at hz
  obtain ⟨hz0, hz1, hz2⟩ := hz
  cases A with
  | none =>
    have e0 : bs = [] := by
      rcases Nat.eq_zero_or_pos bs.length with h | h
      · exact List.eq_nil_of_length_eq_zero h
      · obtain ⟨_, _, h, _⟩ := hb h
        cases h
    subst e0
    exact ⟨v, w, append_none w ht hi hown c, by simpa using hown, grew_refl _ _, .inl rfl⟩
  | some a =>
    have hn : ∀ j u, (cellsOf bs)[j]? = some u → w.cell? (a.add j) = some u := by
      intro j u hu
      have hj : j < bs.length := by
        rcases Nat.lt_or_ge j bs.length with h | h
        · exact h
        · rw [List.getElem?_eq_none (by rw [cellsOf_length]; exact h)] at hu; cases hu
      obtain ⟨b, o, h, _, hc⟩ := hb (by omega)
      cases h
      rw [addr_add, hc j hj, ← hu, cellsOf_at _ _ hj]
    obtain ⟨v', w', hr, h2, h3, _, h5⟩ := run_append_own_at (P := P) w 0 t ty e i (.int .u8 0) 1 1 ht hi hz0 hz1 hz2 rfl (by omega) v n (cellsOf xs) hown a bs.length c (cellsOf bs) (by rw [cellsOf_length]; omega) hn (cellsOf_one _)
      (by unfold maxLen; omega) (by omega) (Nat.zero_le _)
    exact ⟨v', w', hr, by rw [cellsOf_append]; exact h2, h3, h5⟩

/-- An append whose run is known, at the list of a plain region. -/
theorem wpList_append_run {P : Program} {ops : Array Oper} {rest : List Oper} {o : Oper} {a : Act} {Q : Exit → Act → World → Prop} (hgd : o.guard = none) (s x : Operand) (t : TypeId)
    (ho : o.op = .call { callee := .builtin .append, args := #[s, x], argTypes := #[t, t] }) {v u : Value} (hs : a.eval s = v) (hx : a.eval x = u) {L : Value → World → Prop}
    (hr : ∀ ty, ∃ v' w', (Builtin.append_ #[t, t] ty #[v, u]).run P w = .ok v' w' ∧ L v' w') (h : ∀ v' w', L v' w' → wpList P ops Q rest (a.put o.dst v') w') : wpList P ops Q (o :: rest) a w := by
  refine wpList_plain hgd fun K hK => ?_
  obtain ⟨v', w', hr, hl⟩ := hr o.type
  unfold Oper.wp execOp
  simp only [ho, resolve, invoke, builtin, Sem.run_bind, Sem.run_pure, Result.andThen_ok, List.map_toArray, List.map_cons, List.map_nil, hs, hx, hr]
  exact hK _ _ (h v' w' hl)
/-- The same at a step of a region that draws its order. -/
theorem step_append_run {P : Program} {ops : Array Oper} {o : Oper} {a : Act} {K : Act → World → Prop} {Q : Exit → Act → World → Prop} {E : Prop} (hgd : o.guard = none) (s x : Operand) (t : TypeId)
    (ho : o.op = .call { callee := .builtin .append, args := #[s, x], argTypes := #[t, t] }) {v u : Value} (hs : a.eval s = v) (hx : a.eval x = u) {L : Value → World → Prop}
    (hr : ∀ ty, ∃ v' w', (Builtin.append_ #[t, t] ty #[v, u]).run P w = .ok v' w' ∧ L v' w') (h : ∀ v' w', L v' w' → K (a.put o.dst v') w') :
    if Region.wanted o (yielded ops a.tmps) = true then Oper.wp P o a w K Q else E := by
  have hw : Region.wanted o (yielded ops a.tmps) = true := by simp [Region.wanted, hgd]
  rw [if_pos hw]
  obtain ⟨v', w', hr, hl⟩ := hr o.type
  unfold Oper.wp execOp
  simp only [ho, resolve, invoke, builtin, Sem.run_bind, Sem.run_pure, Result.andThen_ok, List.map_toArray, List.map_cons, List.map_nil, hs, hx, hr]
  exact h v' w' hl
end

/-- A quiet call ahead of which others were. -/
theorem quiet_same {P : Program} {f : FuncId} {args : Array Value} {w : World} {n : Nat} {v : Value}
    (h : Calls P f args (w.drewN n) fun e w' => e = .returned v ∧ w.drewN n = w') : Calls P f args (w.drewN n) fun e w'' => e = .returned v ∧ ∃ m, w'' = w.drewN m :=
  h.mono fun _ _ ⟨he, hm⟩ => ⟨he, n, hm.symm⟩

end Go.Proofs.YtnjnghbonmdbdaaDoor


/- Things: a tree, with where its bytes and its list lie; what the chapter's words tell of it. -/
namespace Go.Proofs.YtnjnghbonmdbdaaDoor
open Go.RowKit

/-- A thing: its class, its tag, is it made of others, where its bytes lie, its bytes, where its list lies, its list. -/
inductive Nd where
  | mk (k t : Int) (m : Bool) (B : Option Addr) (d : Nat) (bs : List UInt8) (A : Option Addr) (c : Nat) (ls : List Nd)

namespace Nd
def k : Nd → Int | mk k _ _ _ _ _ _ _ _ => k
def t : Nd → Int | mk _ t _ _ _ _ _ _ _ => t
def m : Nd → Bool | mk _ _ m _ _ _ _ _ _ => m
def B : Nd → Option Addr | mk _ _ _ B _ _ _ _ _ => B
def d : Nd → Nat | mk _ _ _ _ d _ _ _ _ => d
def bs : Nd → List UInt8 | mk _ _ _ _ _ bs _ _ _ => bs
def A : Nd → Option Addr | mk _ _ _ _ _ _ A _ _ => A
def c : Nd → Nat | mk _ _ _ _ _ _ _ c _ => c
def ls : Nd → List Nd | mk _ _ _ _ _ _ _ _ ls => ls
/-- Its five cells. -/
def cells (v : Nd) : Array Value := #[.int .i64 v.k, .int .i64 v.t, .bool v.m, .slice v.B v.bs.length v.d, .slice v.A v.ls.length v.c]
def val (v : Nd) : Value := .agg v.cells

theorem ind {P : Nd → Prop} (H : ∀ k t m B d bs A c ls, (∀ p ∈ ls, P p) → P (mk k t m B d bs A c ls)) : ∀ v, P v
  | mk k t m B d bs A c ls => H k t m B d bs A c ls (fun p _ => ind H p)
termination_by v => SizeOf.sizeOf v
decreasing_by
  have := List.sizeOf_lt_of_mem ‹_›
  simp
  omega

/-- The slice at A holds the values (of none nothing is asked). -/
def Lie (w : World) (A : Option Addr) (ps : List Nd) : Prop :=
  0 < ps.length → ∃ b o, A = some ⟨b, o, none⟩ ∧ ∀ (i : Nat) (p : Nd), ps[i]? = some p → ∀ (j : Nat) (v : Value), p.cells[j]? = some v → w.cell? ⟨b, o + i * 5 + j, none⟩ = some v
theorem Lie.grew {w w' : World} {A : Option Addr} {ps : List Nd} (h : Lie w A ps) (g : Grew w w' none) : Lie w' A ps := by
  intro hn
  obtain ⟨b, o, e, hcell⟩ := h hn
  exact ⟨b, o, e, fun i p hi j v hv => g.cell (hcell i p hi j v hv) (by simp)⟩
theorem Lie.fr {w w' : World} {F : Nat → Prop} {A : Option Addr} {ps : List Nd} (h : Lie w A ps) (g : Fr w w' F) (hF : ∀ a, A = some a → ¬ F a.block) : Lie w' A ps := by
  intro hn
  obtain ⟨b, o, e, hcell⟩ := h hn
  exact ⟨b, o, e, fun i p hi j v hv => g.cell (hcell i p hi j v hv) (hF ⟨b, o, none⟩ e)⟩
theorem Lie.take {w : World} {A : Option Addr} {ps : List Nd} (h : Lie w A ps) (n : Nat) : Lie w A (ps.take n) := by
  intro hn
  have hl : (ps.take n).length ≤ ps.length := List.length_take_le' _ _
  obtain ⟨b, o, e, hcell⟩ := h (by omega)
  refine ⟨b, o, e, fun i p hi j v hv => hcell i p ?_ j v hv⟩
  rw [List.getElem?_take] at hi
  split at hi
  · exact hi
  · cases hi
/-- The cells of values, one behind the other. -/
def flat (ps : List Nd) : List Value := ps.flatMap (fun p => p.cells.toList)
theorem flat_length (ps : List Nd) : (flat ps).length = ps.length * 5 := by
  induction ps with
  | nil => rfl
  | cons p ps ih =>
    have : flat (p :: ps) = p.cells.toList ++ flat ps := rfl
    rw [this, List.length_append, ih]; simp [cells]; omega
theorem flat_append (ps qs : List Nd) : flat (ps ++ qs) = flat ps ++ flat qs := by simp [flat]
theorem flat_at {ps : List Nd} {i : Nat} {p : Nd} (h : ps[i]? = some p) {j : Nat} {v : Value} (hv : p.cells[j]? = some v) : (flat ps)[i * 5 + j]? = some v := by
  have hj : j < 5 := by
    rcases Nat.lt_or_ge j 5 with h | h
    · exact h
    · rw [Array.getElem?_eq_none (by simpa [cells] using h)] at hv; cases hv
  induction ps generalizing i with
  | nil => simp at h
  | cons q ps ih =>
    have hq : flat (q :: ps) = q.cells.toList ++ flat ps := rfl
    have hl : q.cells.toList.length = 5 := by simp [cells]
    rw [hq]
    cases i with
    | zero =>
      simp at h
      subst h
      rw [List.getElem?_append_left (by omega)]
      simpa using hv
    | succ i =>
      rw [List.getElem?_append_right (by omega), hl]
      have : (i + 1) * 5 + j - 5 = i * 5 + j := by omega
      rw [this]
      exact ih (by simpa using h)
theorem flat_lt {ps : List Nd} {m : Nat} (h : m < (flat ps).length) : ∃ p, ps[m / 5]? = some p ∧ p.cells[m % 5]? = (flat ps)[m]? := by
  rw [flat_length] at h
  have hi : m / 5 < ps.length := by omega
  have hp : ps[m / 5]? = some ps[m / 5] := List.getElem?_eq_getElem hi
  refine ⟨ps[m / 5], hp, ?_⟩
  have hj : m % 5 < (ps[m / 5]).cells.size := by simp [cells]; omega
  rw [Array.getElem?_eq_getElem hj]
  have := flat_at hp (Array.getElem?_eq_getElem hj)
  rw [← this]
  congr 1
  omega
theorem flat_one (ps : List Nd) : ∀ v ∈ flat ps, v.oneCell' = true := by
  intro v hv
  obtain ⟨p, _, hp⟩ := List.mem_flatMap.1 hv
  simp [cells] at hp
  rcases hp with rfl | rfl | rfl | rfl | rfl <;> rfl
/-- An owned row of values. -/
theorem Lie.of_own {w : World} {e : TypeId} {v : Value} {n : Nat} {ps : List Nd} (h : w.ownsRow 0 e 5 v n (flat ps)) : ∃ A c, v = .slice A ps.length c ∧ ps.length ≤ c ∧ Lie w A ps := by
  have hl := h.1
  rw [flat_length] at hl
  have hn : n = ps.length := by omega
  subst hn
  rcases h.2 with ⟨rfl, h0⟩ | ⟨b, cap, cur, rfl, _, hh, hnc, _, hsz, ht⟩
  · exact ⟨none, 0, by rw [h0], by omega, fun h => by omega⟩
  · refine ⟨_, _, rfl, hnc, fun _ => ⟨b, 0, rfl, fun i p hi j v hv => ?_⟩⟩
    have hW : Whole w b cur e := hh
    have hil : i < ps.length := by
      rcases Nat.lt_or_ge i ps.length with h | h
      · exact h
      · rw [List.getElem?_eq_none h] at hi; cases hi
    have hj : j < 5 := by
      rcases Nat.lt_or_ge j 5 with h | h
      · exact h
      · rw [Array.getElem?_eq_none (by simpa [cells] using h)] at hv; cases hv
    have hf := flat_at hi hv
    rw [← ht, List.getElem?_take_of_lt (by omega)] at hf
    rw [hW.cell, Nat.zero_add, ← Array.getElem?_toList]
    exact hf
/-- A block of values. -/
theorem Lie.whole {w : World} {b : Nat} {cs : Array Value} {e : TypeId} {ps : List Nd} (h : Whole w b cs e) (hf : cs.toList = flat ps) : Lie w (some ⟨b, 0, none⟩) ps := by
  refine fun _ => ⟨b, 0, rfl, fun i p hi j v hv => ?_⟩
  rw [h.cell, Nat.zero_add, ← Array.getElem?_toList, hf]
  exact flat_at hi hv
theorem Lie.nil (w : World) (A : Option Addr) : Lie w A [] := fun h => by simp at h

/-- Where its bytes and its list lie in memory. -/
inductive In (w : World) : Nd → Prop
  | mk {k t : Int} {m : Bool} {B : Option Addr} {d : Nat} {bs : List UInt8} {A : Option Addr} {c : Nat} {ls : List Nd} (hn : (-9223372036854775808 ≤ k ∧ k ≤ 9223372036854775807) ∧ -9223372036854775808 ≤ t ∧ t ≤ 9223372036854775807) (hb : Byt w w.heap.size B bs) (hd : bs.length ≤ d ∧ bs.length ≤ 140737488355328)
      (hc : ls.length ≤ c) (hz : ls.length ≤ 1954687338268) (ha : Lie w A ls) (hp : ∀ p ∈ ls, In w p) : In w (.mk k t m B d bs A c ls)

theorem In.grew {w w' : World} {v : Nd} (h : In w v) (g : Grew w w' none) : In w' v := by
  induction h with
  | mk hn hb hd hc hz ha _ ih =>
    exact .mk hn ((hb.grew g (fun _ h => by cases h)).more g.size) hd hc hz (ha.grew g) ih
theorem In.parts {w : World} {v : Nd} (h : In w v) : ∀ p ∈ v.ls, In w p := by
  cases h with
  | mk _ _ _ _ _ _ hp => exact hp
theorem In.num {w : World} {v : Nd} (h : In w v) : (-9223372036854775808 ≤ v.k ∧ v.k ≤ 9223372036854775807) ∧ -9223372036854775808 ≤ v.t ∧ v.t ≤ 9223372036854775807 := by
  cases h with
  | mk hn _ _ _ _ _ _ => exact hn
theorem In.bytes {w : World} {v : Nd} (h : In w v) : Byt w w.heap.size v.B v.bs ∧ v.bs.length ≤ v.d ∧ v.bs.length ≤ 140737488355328 := by
  cases h with
  | mk _ hb hd _ _ _ _ => exact ⟨hb, hd⟩
theorem In.list {w : World} {v : Nd} (h : In w v) : Lie w v.A v.ls ∧ v.ls.length ≤ v.c ∧ v.ls.length ≤ 1954687338268 := by
  cases h with
  | mk _ _ _ hc hz ha _ => exact ⟨ha, hc, hz⟩

/-- The cells of a value that lies. -/
theorem Lie.at {w : World} {A : Option Addr} {ps : List Nd} (H : Lie w A ps) {i : Nat} (hi : i < ps.length) :
    ∃ b o p, A = some ⟨b, o, none⟩ ∧ ps[i]? = some p ∧ p ∈ ps ∧ w.cell? ⟨b, o + i * 5, none⟩ = some (.int .i64 p.k) ∧ w.cell? ⟨b, o + i * 5 + 1, none⟩ = some (.int .i64 p.t) ∧ w.cell? ⟨b, o + i * 5 + 2, none⟩ = some (.bool p.m) ∧ w.cell? ⟨b, o + i * 5 + 3, none⟩ = some (.slice p.B p.bs.length p.d) ∧
      w.cell? ⟨b, o + i * 5 + 4, none⟩ = some (.slice p.A p.ls.length p.c) := by
  obtain ⟨b, o, e, hcell⟩ := H (by omega)
  have he : ps[i]? = some ps[i] := List.getElem?_eq_getElem hi
  have hm : ps[i] ∈ ps := List.getElem_mem hi
  exact ⟨b, o, ps[i], e, he, hm, hcell i _ he 0 _ rfl, hcell i _ he 1 _ rfl, hcell i _ he 2 _ rfl, hcell i _ he 3 _ rfl, hcell i _ he 4 _ rfl⟩

mutual
/-- How many things there are, and their bytes. -/
def cnt : Nd → Nat
  | mk _ _ _ _ _ bs _ _ ls => cnts ls + bs.length + 1
def cnts : List Nd → Nat
  | [] => 0
  | p :: ps => cnt p + cnts ps
end
mutual
/-- How deep it is. -/
def dep : Nd → Nat
  | mk _ _ _ _ _ _ _ _ ls => deps ls + 1
def deps : List Nd → Nat
  | [] => 0
  | p :: ps => max (dep p) (deps ps)
end
mutual
/-- The same. -/
def same : Nd → Nd → Bool
  | mk k t m _ _ bs _ _ ls, u => decide (k = u.k) && decide (t = u.t) && decide (m = u.m) && decide (bs = u.bs) && decide (ls.length = u.ls.length) && sames ls u.ls
def sames : List Nd → List Nd → Bool
  | [], _ => true
  | _ :: _, [] => true
  | p :: ps, q :: qs => same p q && sames ps qs
end
theorem cnts_append (xs ys : List Nd) : cnts (xs ++ ys) = cnts xs + cnts ys := by
  induction xs with
  | nil => simp [cnts]
  | cons x xs ih => simp [cnts, ih]; omega
theorem take_succ' {ps : List Nd} {i : Nat} {p : Nd} (h : ps[i]? = some p) : ps.take (i + 1) = ps.take i ++ [p] := by
  rw [List.take_add_one, h]; rfl
theorem cnts_take {qs : List Nd} {n : Nat} {p : Nd} (h : qs[n]? = some p) : cnts (qs.take (n + 1)) = cnts (qs.take n) + cnt p := by
  rw [take_succ' h, cnts_append]; simp [cnts]
theorem cnts_take_le (qs : List Nd) (n : Nat) : cnts (qs.take n) ≤ cnts qs := by
  have := cnts_append (qs.take n) (qs.drop n)
  rw [List.take_append_drop] at this
  omega
theorem deps_append (xs ys : List Nd) : deps (xs ++ ys) = max (deps xs) (deps ys) := by
  induction xs with
  | nil => simp [deps]
  | cons x xs ih => simp [deps, ih]
theorem deps_take {qs : List Nd} {n : Nat} {p : Nd} (h : qs[n]? = some p) : deps (qs.take (n + 1)) = max (deps (qs.take n)) (dep p) := by
  rw [take_succ' h, deps_append]; simp [deps]
theorem cnt_pos (v : Nd) : 1 ≤ v.cnt := by
  cases v; simp only [cnt]; omega
theorem dep_pos (v : Nd) : 1 ≤ v.dep := by
  cases v; simp only [dep]; omega
theorem drop_at {ps : List Nd} {i : Nat} {p : Nd} (h : ps[i]? = some p) : ps.drop i = p :: ps.drop (i + 1) := by
  obtain ⟨hi, rfl⟩ := List.getElem?_eq_some_iff.1 h
  exact List.drop_eq_getElem_cons hi
theorem dep_le_cnt : ∀ v : Nd, v.dep ≤ v.cnt := by
  refine ind fun k t m B d bs A c ls ih => ?_
  have : ∀ qs : List Nd, (∀ p ∈ qs, p.dep ≤ p.cnt) → deps qs ≤ cnts qs := by
    intro qs
    induction qs with
    | nil => intro _; exact Nat.le_refl _
    | cons q qs ih2 =>
      intro hq
      have h1 := hq q List.mem_cons_self
      have h2 := ih2 (fun p hp => hq p (List.mem_cons_of_mem _ hp))
      simp only [deps, cnts]
      omega
  have := this ls ih
  simp only [dep, cnt]
  omega
end Nd
end Go.Proofs.YtnjnghbonmdbdaaDoor


/- The document's own answers of layer 11: Depth, Count. -/
namespace Go.Proofs.YtnjnghbonmdbdaaDoor
open Go.RowKit Nd

theorem Nd.new_of (w : World) (f : Nd) : Whole (w.alloc (.cells f.cells 27)) w.heap.size f.cells 27 := Whole.new _ _ _

set_option maxRecDepth 100000 in
set_option maxHeartbeats 1000000 in
theorem rdepth_any : ∀ (f : Nd) (w : World) (n : Nat), f.In w → n ≤ 1099511627776 →
    Calls Tryd.prog 19 #[f.val, .int .i64 (n : Int)] w fun e w' => e = .returned (.int .i64 ((min f.dep (n + 1) : Nat) : Int)) ∧ Grew w w' none := by
  refine Nd.ind fun k t m B d bs A c ls ih => ?_
  intro w n hin hn
  have hl := hin.list
  obtain ⟨R, hR⟩ : ∃ R, min (Nd.mk k t m B d bs A c ls).dep (n + 1) = R := ⟨_, rfl⟩
  rw [hR]
  have hR2 : min (deps ls + 1) (n + 1) = R := hR
  obtain ⟨L, hL⟩ : ∃ L, ls.length = L := ⟨_, rfl⟩
  have HIN := Lib.hid hin
  have HR := Lib.hid hR2
  have HLie := Lib.hid hl.1
  have HL := Lib.hid hL
  have hLI : (L : Int) ≤ 1954687338268 := by have : ls.length ≤ 1954687338268 := hl.2.2; omega
  have hnI : (n : Int) ≤ 1099511627776 := by omega
  have HW := Lib.hid (show Whole (w.alloc (.cells #[.int .i64 k, .int .i64 t, .bool m, .slice B bs.length d, .slice A L c] 27)) w.heap.size #[.int .i64 k, .int .i64 t, .bool m, .slice B bs.length d, .slice A L c] 27 from Whole.new _ _ _)
  have HG := Lib.hid (show Grew w (w.alloc (.cells #[.int .i64 k, .int .i64 t, .bool m, .slice B bs.length d, .slice A L c] 27)) none from grew_alloc (grew_refl _ _) _)
  have hsz : (w.alloc (.cells #[.int .i64 k, .int .i64 t, .bool m, .slice B bs.length d, .slice A L c] 27)).heap.size = w.heap.size + 1 := by simp
  change Calls Tryd.prog 19 #[.agg #[.int .i64 k, .int .i64 t, .bool m, .slice B bs.length d, .slice A ls.length c], .int .i64 (n : Int)] w _
  rw [hL]
  clear hin hl hR hR2 hL
  go_enter Tryd.func19, Tryd.ntmps19
  go_upto_region 1 with (fail)
  generalize w.alloc (.cells #[.int .i64 k, .int .i64 t, .bool m, .slice B bs.length d, .slice A L c] 27) = W at *
  obtain ⟨q, hq⟩ : ∃ q, w.heap.size = q := ⟨_, rfl⟩
  rw [hq] at HW ⊢
  clear hsz
  go_upto_region 3 with (fail)
  go_loopw [5, 6] (fun b i wr => ∃ (j : Nat), j ≤ L ∧ (j = 0 ∨ 0 < n) ∧ i = .int .i64 j ∧ b = .int .i64 ((min (deps (ls.take j)) n : Nat) : Int) ∧ Hid (Grew W wr none)) (fun _ i _ => L - (intOf i).toNat)
  case atStart => exact ⟨0, Nat.zero_le _, .inl rfl, rfl, by simp [deps], Lib.hid (grew_refl _ _)⟩
  case round =>
    obtain ⟨j, hj, h0n, rfl, rfl, hG⟩ := hrel
    have hjI : (j : Int) ≤ 1954687338268 := by omega
    have c4 : wr.cell? ⟨q, 4, none⟩ = some (.slice A L c) := (HW.out.grew hG.out (by simp)).cell 4
    by_cases hlt : j < L
    · have hltI : (j : Int) < (L : Int) := by omega
      by_cases h0 : 0 < n
      · have h0' : 0 < (n : Int) := by omega
        obtain ⟨b, o, p, hA, hp, hpm, k0, k1, k2, k3, k4⟩ := Lie.at HLie.out (show j < _ by rw [show (Nd.mk k t m B d bs A c ls).ls = ls from rfl, HL.out]; exact hlt)
        obtain rfl : A = some ⟨b, o, none⟩ := hA
        replace hp : ls[j]? = some p := hp
        replace hpm : p ∈ ls := hpm
        have hgw := grew_trans HG.out hG.out
        have d0 : wr.cell? ⟨b, o + j * 5, none⟩ = some (.int .i64 p.k) := hgw.cell k0 (by simp)
        have d1 : wr.cell? ⟨b, o + j * 5 + 1, none⟩ = some (.int .i64 p.t) := hgw.cell k1 (by simp)
        have d2 : wr.cell? ⟨b, o + j * 5 + 2, none⟩ = some (.bool p.m) := hgw.cell k2 (by simp)
        have d3 : wr.cell? ⟨b, o + j * 5 + 3, none⟩ = some (.slice p.B p.bs.length p.d) := hgw.cell k3 (by simp)
        have d4 : wr.cell? ⟨b, o + j * 5 + 4, none⟩ = some (.slice p.A p.ls.length p.c) := hgw.cell k4 (by simp)
        obtain ⟨n', hn'⟩ : ∃ n', n = n' + 1 := ⟨n - 1, by omega⟩
        have hn1 : (n : Int) - 1 = (n' : Int) := by omega
        have hcall := ih p hpm wr n' ((HIN.out.parts p hpm).grew hgw) (by omega)
        rw [← hn'] at hcall
        obtain ⟨X, hX⟩ : ∃ X, min p.dep n = X := ⟨_, rfl⟩
        obtain ⟨Y, hY⟩ : ∃ Y, min (deps (ls.take j)) n = Y := ⟨_, rfl⟩
        have hN : min (deps (ls.take (j + 1))) n = max Y X := by rw [deps_take hp, ← hX, ← hY]; omega
        have HN := Lib.hid hN
        rw [hX] at hcall
        rw [hY]
        have hXI : X ≤ n := by omega
        have hYI : Y ≤ n := by omega
        have HC := Lib.hid hcall
        clear k0 k1 k2 k3 k4 hgw hcall hX hY hp hN hn'
        go_wp2_with fail
        refine HC.out.mono ?_
        rintro e w1 ⟨rfl, hG1⟩
        have HG1 := Lib.hid (grew_trans hG.out hG1)
        clear hG1 d0 d1 d2 d3 d4 c4 HC
        by_cases hgt : Y < X
        · have hgt' : (Y : Int) < (X : Int) := by omega
          go_wp2_with fail
          go_roundw
          case rel => exact ⟨j + 1, hlt, .inr (by omega), rfl, by rw [HN.out, Nat.max_eq_right (by omega)], HG1⟩
          case measure => simp [intOf]; omega
        · have hgt' : ¬ (Y : Int) < (X : Int) := by omega
          go_wp2_with fail
          go_roundw
          case rel => exact ⟨j + 1, hlt, .inr (by omega), rfl, by rw [HN.out, Nat.max_eq_left (by omega)], HG1⟩
          case measure => simp [intOf]; omega
      · have h0' : ¬ 0 < (n : Int) := by omega
        obtain rfl : n = 0 := by omega
        have hRe : ((0 : Nat) : Int) + 1 = (R : Int) := by have := HR.out; omega
        have HRE := Lib.hid hRe
        have hm0 : min (deps (ls.take j)) 0 = 0 := by omega
        rw [hm0]
        clear hRe hm0
        go_wp2_with fail
        go_ret
        exact ⟨by rw [← HRE.out]; rfl, grew_trans HG.out hG.out⟩
    · obtain rfl : j = L := by omega
      have hltI : ¬ (j : Int) < (j : Int) := by omega
      have ht : ls.take j = ls := List.take_of_length_le (by rw [HL.out]; exact Nat.le_refl _)
      rw [ht]
      obtain ⟨Y, hY⟩ : ∃ Y, min (deps ls) n = Y := ⟨_, rfl⟩
      rw [hY]
      have HRE := Lib.hid (show (Y : Int) + 1 = (R : Int) by have := HR.out; omega)
      have hYI : (Y : Int) ≤ 1099511627776 := by omega
      clear hY ht
      go_wp2_with fail
      go_ret
      exact ⟨by rw [← HRE.out]; rfl, grew_trans HG.out hG.out⟩
end Go.Proofs.YtnjnghbonmdbdaaDoor


/- The document's own answers of layer 11: Count; what is too great to be looked at. -/
namespace Go.Proofs.YtnjnghbonmdbdaaDoor
open Go.RowKit Nd

/-- What Count tells of c things and bytes, up to n. -/
def CntOf (n c r : Nat) : Prop := r ≤ n + 140737488355330 ∧ (c ≤ n → r = c) ∧ (n < c → n < r)

set_option maxRecDepth 100000 in
set_option maxHeartbeats 1000000 in
theorem rcount_any : ∀ (f : Nd) (w : World) (n : Nat), f.In w → n ≤ 1099511627776 →
    Calls Tryd.prog 23 #[f.val, .int .i64 (n : Int)] w fun e w' => ∃ r : Nat, e = .returned (.int .i64 (r : Int)) ∧ CntOf n f.cnt r ∧ Grew w w' none := by
  refine Nd.ind fun k t m B d bs A c ls ih => ?_
  intro w n hin hn
  have hl := hin.list
  have hby : bs.length ≤ 140737488355328 := hin.bytes.2.2
  obtain ⟨L, hL⟩ : ∃ L, ls.length = L := ⟨_, rfl⟩
  obtain ⟨Z, hZ⟩ : ∃ Z, bs.length = Z := ⟨_, rfl⟩
  have HCN := Lib.hid (show (Nd.mk k t m B d bs A c ls).cnt = cnts ls + Z + 1 by rw [← hZ]; rfl)
  have HIN := Lib.hid hin
  have HLie := Lib.hid hl.1
  have HL := Lib.hid hL
  have HN := Lib.hid hn
  have hLI : (L : Int) ≤ 1954687338268 := by have : ls.length ≤ 1954687338268 := hl.2.2; omega
  have hZI : (Z : Int) ≤ 140737488355328 := by omega
  have hnI : (n : Int) ≤ 1099511627776 := by omega
  have HW := Lib.hid (show Whole (w.alloc (.cells #[.int .i64 k, .int .i64 t, .bool m, .slice B Z d, .slice A L c] 27)) w.heap.size #[.int .i64 k, .int .i64 t, .bool m, .slice B Z d, .slice A L c] 27 from Whole.new _ _ _)
  have HG := Lib.hid (show Grew w (w.alloc (.cells #[.int .i64 k, .int .i64 t, .bool m, .slice B Z d, .slice A L c] 27)) none from grew_alloc (grew_refl _ _) _)
  change Calls Tryd.prog 23 #[.agg #[.int .i64 k, .int .i64 t, .bool m, .slice B bs.length d, .slice A ls.length c], .int .i64 (n : Int)] w _
  rw [hL, hZ]
  clear hin hl hL hZ hby
  go_enter Tryd.func23, Tryd.ntmps23
  go_upto_region 1 with (fail)
  generalize w.alloc (.cells #[.int .i64 k, .int .i64 t, .bool m, .slice B Z d, .slice A L c] 27) = W at *
  obtain ⟨q, hq⟩ : ∃ q, w.heap.size = q := ⟨_, rfl⟩
  rw [hq] at HW ⊢
  have c3 : W.cell? ⟨q, 3, none⟩ = some (.slice B Z d) := HW.out.cell 3
  go_upto_region 3 with (fail)
  clear c3
  go_loopw [5, 6] (fun b i wr => ∃ (j K : Nat), j ≤ L ∧ 1 ≤ K ∧ i = .int .i64 j ∧ b = .int .i64 (K : Int) ∧ Hid (CntOf n (cnts (ls.take j) + Z + 1) K) ∧ Hid (Grew W wr none)) (fun _ i _ => L - (intOf i).toNat)
  case atStart => exact ⟨0, Z + 1, Nat.zero_le _, by omega, rfl, by rw [show ((Z + 1 : Nat) : Int) = 1 + (Z : Int) by omega], Lib.hid ⟨by omega, fun _ => by simp [cnts], fun h => by simpa [cnts] using h⟩, Lib.hid (grew_refl _ _)⟩
  case round =>
    obtain ⟨j, K, hj, hK1, rfl, rfl, hC, hG⟩ := hrel
    have hjI : (j : Int) ≤ 1954687338268 := by omega
    have hKI : (K : Int) ≤ 141836999983106 := by have := hC.out.1; have := HN.out; omega
    have c4 : wr.cell? ⟨q, 4, none⟩ = some (.slice A L c) := (HW.out.grew hG.out (by simp)).cell 4
    by_cases hlt : j < L
    · have hltI : (j : Int) < (L : Int) := by omega
      by_cases h0 : K ≤ n
      · have h0' : (K : Int) ≤ (n : Int) := by omega
        obtain ⟨b, o, p, hA, hp, hpm, k0, k1, k2, k3, k4⟩ := Lie.at HLie.out (show j < _ by rw [show (Nd.mk k t m B d bs A c ls).ls = ls from rfl, HL.out]; exact hlt)
        obtain rfl : A = some ⟨b, o, none⟩ := hA
        replace hp : ls[j]? = some p := hp
        replace hpm : p ∈ ls := hpm
        have hgw := grew_trans HG.out hG.out
        have d0 : wr.cell? ⟨b, o + j * 5, none⟩ = some (.int .i64 p.k) := hgw.cell k0 (by simp)
        have d1 : wr.cell? ⟨b, o + j * 5 + 1, none⟩ = some (.int .i64 p.t) := hgw.cell k1 (by simp)
        have d2 : wr.cell? ⟨b, o + j * 5 + 2, none⟩ = some (.bool p.m) := hgw.cell k2 (by simp)
        have d3 : wr.cell? ⟨b, o + j * 5 + 3, none⟩ = some (.slice p.B p.bs.length p.d) := hgw.cell k3 (by simp)
        have d4 : wr.cell? ⟨b, o + j * 5 + 4, none⟩ = some (.slice p.A p.ls.length p.c) := hgw.cell k4 (by simp)
        obtain ⟨n', hn'⟩ : ∃ n', n = K + n' := ⟨n - K, by omega⟩
        have hn1 : (n : Int) - (K : Int) = (n' : Int) := by omega
        have hcall := ih p hpm wr n' ((HIN.out.parts p hpm).grew hgw) (by have := HN.out; omega)
        have HCj := Lib.hid (show ∀ r, CntOf n' p.cnt r → CntOf n (cnts (ls.take (j + 1)) + Z + 1) (K + r) from fun r hr => by
          obtain ⟨h1, h2, h3⟩ := hr
          obtain ⟨g1, g2, g3⟩ := hC.out
          rw [cnts_take hp]
          have hKe : K = cnts (ls.take j) + Z + 1 := by
            rcases Nat.lt_or_ge n (cnts (ls.take j) + Z + 1) with h | h
            · have := g3 h; omega
            · exact g2 h
          refine ⟨by omega, fun h => ?_, fun h => ?_⟩
          · have := h2 (by omega); omega
          · have := h3 (by omega); omega)
        have HRB := Lib.hid (show ∀ r, CntOf n' p.cnt r → K + r ≤ 141836999983106 from fun r hr => by have := hr.1; have := HN.out; omega)
        have HC := Lib.hid hcall
        clear k0 k1 k2 k3 k4 hgw hcall hp hn' hC
        go_wp2_with fail
        refine HC.out.mono ?_
        rintro e w1 ⟨r, rfl, hr, hG1⟩
        have HG1 := Lib.hid (grew_trans hG.out hG1)
        have hrb := HRB.out r hr
        have hrI : (K : Int) + (r : Int) ≤ 141836999983106 := by omega
        have HNX := Lib.hid (HCj.out r hr)
        clear hG1 d0 d1 d2 d3 d4 c4 HC hr HCj HRB hrb
        go_wp2_with fail
        go_roundw
        case rel => exact ⟨j + 1, K + r, hlt, by omega, rfl, rfl, HNX, HG1⟩
        case measure => simp [intOf]; omega
      · have h0' : ¬ (K : Int) ≤ (n : Int) := by omega
        have HF := Lib.hid (show CntOf n (Nd.mk k t m B d bs A c ls).cnt K by
          obtain ⟨g1, g2, g3⟩ := hC.out
          have := cnts_take_le ls j
          rw [HCN.out]
          refine ⟨g1, fun h => ?_, fun _ => by omega⟩
          have := g2 (by omega)
          omega)
        clear hC
        go_wp2_with fail
        go_ret
        exact ⟨K, rfl, HF.out, grew_trans HG.out hG.out⟩
    · obtain rfl : j = L := by omega
      have ht : ls.take j = ls := List.take_of_length_le (by rw [HL.out]; exact Nat.le_refl _)
      have HF := Lib.hid (show CntOf n (Nd.mk k t m B d bs A c ls).cnt K by
        have := hC.out
        rw [ht] at this
        rw [HCN.out]
        exact this)
      clear ht hC
      go_wp2_with fail
      go_ret
      exact ⟨K, rfl, HF.out, grew_trans HG.out hG.out⟩
end Go.Proofs.YtnjnghbonmdbdaaDoor


/- What is too great to be looked at; a thing is itself. -/
namespace Go.Proofs.YtnjnghbonmdbdaaDoor
open Go.RowKit Nd

theorem Nd.sames_refl {ls : List Nd} (h : ∀ p ∈ ls, same p p = true) : sames ls ls = true := by
  induction ls with
  | nil => rw [sames]
  | cons p ps ih => rw [sames, h p (by simp), ih (fun q hq => h q (by simp [hq]))]; rfl
theorem Nd.same_refl : ∀ v : Nd, same v v = true := by
  refine Nd.ind fun k t m B d bs A c ls ih => ?_
  rw [same]; simp [Nd.k, Nd.t, Nd.m, Nd.bs, Nd.ls, Nd.sames_refl ih]

set_option maxRecDepth 100000 in
set_option maxHeartbeats 1000000 in
/-- Great: 0, and none has more than 3000 things and bytes; or 1. -/
theorem great_any (w : World) (A : Option Addr) (c : Nat) (ls : List Nd) (hl : Nd.Lie w A ls) (hp : ∀ v ∈ ls, v.In w) (hz : ls.length ≤ 1954687338268) :
    Calls Tryd.prog 14 #[.slice A ls.length c] w fun e w' => Grew w w' none ∧ ((e = .returned (.int .i64 0) ∧ ∀ v ∈ ls, v.cnt ≤ 3000) ∨ (e = .returned (.int .i64 1) ∧ ∃ v ∈ ls, 3000 < v.cnt)) := by
  have HL := Lib.hid hl
  have HP := Lib.hid hp
  have hzI : (ls.length : Int) ≤ 1954687338268 := by omega
  clear hl hp
  go_enter Tryd.func14, Tryd.ntmps14
  go_upto_region 2 with (fail)
  go_loopw [7] (fun i wr => ∃ (j : Nat), j ≤ ls.length ∧ i = .int .i64 j ∧ Hid (Grew w wr none) ∧ Hid (∀ v ∈ ls.take j, v.cnt ≤ 3000)) (fun i _ => ls.length - (intOf i).toNat)
  case atStart => exact ⟨0, Nat.zero_le _, rfl, Lib.hid (grew_refl _ _), Lib.hid (fun v hv => by simp at hv)⟩
  case round =>
    obtain ⟨j, hj, rfl, R, S⟩ := hrel
    have hjI : (j : Int) ≤ 1954687338268 := by omega
    by_cases hlt : j < ls.length
    · have hltI : (j : Int) < (ls.length : Int) := by omega
      have hj0 : (0 : Int) ≤ (j : Int) := by omega
      obtain ⟨b, o, v, rfl, hv, hvm, d0, d1, d2, d3, d4⟩ := Lie.at (HL.out.grew R.out) hlt
      have HV := Lib.hid (HP.out v hvm)
      have HM := Lib.hid (And.intro hv hvm)
      clear hv hvm
      go_wp2_with fail
      have HW := Lib.hid (Whole.new wr #[.int .i64 v.k, .int .i64 v.t, .bool v.m, .slice v.B v.bs.length v.d, .slice v.A v.ls.length v.c] 27)
      have HG := Lib.hid (grew_alloc R.out (.cells #[.int .i64 v.k, .int .i64 v.t, .bool v.m, .slice v.B v.bs.length v.d, .slice v.A v.ls.length v.c] 27))
      clear d0 d1 d2 d3 d4 R
      generalize wr.alloc (.cells #[.int .i64 v.k, .int .i64 v.t, .bool v.m, .slice v.B v.bs.length v.d, .slice v.A v.ls.length v.c] 27) = W1 at *
      generalize wr.heap.size = qv at *
      refine (rcount_any v _ 3000 (HV.out.grew HG.out) (by omega)).mono ?_
      rintro e w2 ⟨r, rfl, hC, g2⟩
      have HG2 := Lib.hid (grew_trans HG.out g2)
      have hrI : (r : Int) ≤ 140737488358330 := by have := hC.1; omega
      by_cases hD : 3000 < r
      · have hDI : (3000 : Int) < (r : Int) := by omega
        have HX := Lib.hid (show ∃ v ∈ ls, 3000 < v.cnt from ⟨v, HM.out.2, by
          rcases Nat.lt_or_ge 3000 v.cnt with h | h
          · exact h
          · have := hC.2.1 h; omega⟩)
        clear hC g2 S
        go_wp2_with fail
        go_ret
        exact ⟨HG2.out, .inr ⟨rfl, HX.out⟩⟩
      · have hDI : (r : Int) ≤ (3000 : Int) := by omega
        have HS := Lib.hid (show ∀ u ∈ ls.take (j + 1), u.cnt ≤ 3000 by
          rw [take_succ' HM.out.1]
          intro u hu
          rcases List.mem_append.1 hu with h | h
          · exact S.out u h
          · rw [List.mem_singleton.1 h]
            rcases Nat.lt_or_ge 3000 v.cnt with h | h
            · have := hC.2.2 h; omega
            · exact h)
        clear hC g2 S hD
        go_wp2_with fail
        go_roundw
        case rel => exact ⟨j + 1, by omega, by go_num, HG2, HS⟩
        case measure => simp [intOf]; omega
    · have HA := Lib.hid (show ∀ v ∈ ls, v.cnt ≤ 3000 from fun v hv => S.out v (by rw [List.take_of_length_le (by omega)]; exact hv))
      have HG := Lib.hid R.out
      clear R S
      go_wp2_with fail
      go_ret
      exact ⟨HG.out, .inl ⟨rfl, HA.out⟩⟩
end Go.Proofs.YtnjnghbonmdbdaaDoor


/- A head of a DER thing: what the chapter says, as plain functions: which there are, its bytes, what is read. -/
namespace Go.Proofs.YtnjnghbonmdbdaaDoor
open Go.RowKit

/-- A head. -/
structure Hd where
  c : Int
  t : Int
  m : Bool
  l : Int
deriving DecidableEq

def Hd.z : Hd := ⟨0, 0, false, 0⟩
/-- Its cells. -/
def Hd.agg (h : Hd) : Value := .agg #[.int .i64 h.c, .int .i64 h.t, .bool h.m, .int .i64 h.l]

/-- Is there such a thing? -/
def kd (c t : Int) (m : Bool) : Bool :=
  if c = 2 then decide (0 ≤ t ∧ t ≤ 30)
  else if c = 0 then
    if t = 1 ∨ t = 2 ∨ t = 3 ∨ t = 4 ∨ t = 5 ∨ t = 6 ∨ t = 10 ∨ t = 12 ∨ t = 18 ∨ t = 19 ∨ t = 20 ∨ t = 22 ∨ t = 23 ∨ t = 24 ∨ t = 26 ∨ t = 28 ∨ t = 30 then !m
    else if t = 16 ∨ t = 17 then m else false
  else false
theorem kd_bounds {c t : Int} {m : Bool} (h : kd c t m = true) : (c = 0 ∨ c = 2) ∧ 0 ≤ t ∧ t ≤ 30 := by
  unfold kd at h
  split at h
  · have := of_decide_eq_true h; omega
  · split at h
    · split at h
      · omega
      · split at h
        · omega
        · cases h
    · cases h

/-- The first byte. -/
def fb (c t : Int) (m : Bool) : Nat := (64 * c + t + (if m then 32 else 0)).toNat
/-- A length's bytes. -/
def lenB (n : Nat) : List UInt8 :=
  if n < 128 then [.ofNat n] else if n < 256 then [129, .ofNat n] else if n < 65536 then [130, .ofNat (n / 256), .ofNat (n % 256)] else [131, .ofNat (n / 65536), .ofNat (n / 256 % 256), .ofNat (n % 256)]
/-- A head's bytes. -/
def putH (h : Hd) : List UInt8 := .ofNat (fb h.c h.t h.m) :: lenB h.l.toNat
/-- A number of its bytes, the highest first. -/
def bval : List UInt8 → Nat := List.foldl (fun n x => 256 * n + x.toNat) 0
/-- What is read of bytes: the head, how many bytes or where it is wrong, the error. -/
def rdH (xs : List UInt8) : Hd × Nat × Int :=
  match xs with
  | [] => (.z, 0, 4)
  | a :: r =>
    if kd (a.toNat / 64 : Nat) (a.toNat % 32 : Nat) (a.toNat / 32 % 2 == 1) then
      match r with
      | [] => (.z, 1, 4)
      | b :: r =>
        if b.toNat = 128 ∨ 131 < b.toNat then (.z, 1, 13)
        else if 128 < b.toNat ∧ r.length < b.toNat - 128 then (.z, xs.length, 4)
        else
          let h : Hd := ⟨(a.toNat / 64 : Nat), (a.toNat % 32 : Nat), a.toNat / 32 % 2 == 1, if b.toNat < 128 then b.toNat else (bval (r.take (b.toNat - 128)) : Nat)⟩
          if putH h <+: xs then (h, (putH h).length, 0) else (.z, 1, 13)
    else (.z, 0, 13)

/-- What the first byte tells. -/
abbrev hdC (a : UInt8) : Int := (a.toNat : Int) / 64
abbrev hdT (a : UInt8) : Int := (a.toNat : Int) % 32
abbrev hdM (a : UInt8) : Bool := a.toNat / 32 % 2 == 1
theorem rdH_no {a : UInt8} {r : List UInt8} (h : kd (hdC a) (hdT a) (hdM a) = false) : rdH (a :: r) = (.z, 0, 13) := by
  have h' : kd (a.toNat / 64 : Nat) (a.toNat % 32 : Nat) (a.toNat / 32 % 2 == 1) = false := h
  cases r <;> (unfold rdH; simp only [h']; rfl)
theorem rdH_one {a : UInt8} (h : kd (hdC a) (hdT a) (hdM a) = true) : rdH [a] = (.z, 1, 4) := by
  have h' : kd (a.toNat / 64 : Nat) (a.toNat % 32 : Nat) (a.toNat / 32 % 2 == 1) = true := h
  unfold rdH; simp only [h']; rfl
theorem rdH_bad {a b : UInt8} {r : List UInt8} (h : kd (hdC a) (hdT a) (hdM a) = true) (hb : b.toNat = 128 ∨ 131 < b.toNat) : rdH (a :: b :: r) = (.z, 1, 13) := by
  have h' : kd (a.toNat / 64 : Nat) (a.toNat % 32 : Nat) (a.toNat / 32 % 2 == 1) = true := h
  unfold rdH; simp only [h', if_pos hb, if_true]
theorem rdH_few {a b : UInt8} {r : List UInt8} (h : kd (hdC a) (hdT a) (hdM a) = true) (h1 : 128 < b.toNat) (h2 : b.toNat ≤ 131) (h3 : r.length < b.toNat - 128) : rdH (a :: b :: r) = (.z, r.length + 2, 4) := by
  have h' : kd (a.toNat / 64 : Nat) (a.toNat % 32 : Nat) (a.toNat / 32 % 2 == 1) = true := h
  unfold rdH; simp only [h', if_true]; rw [if_neg (by omega), if_pos ⟨h1, h3⟩]; rfl
/-- The head that bytes begin with. -/
def hdOf (a b : UInt8) (r : List UInt8) : Hd := ⟨hdC a, hdT a, hdM a, if b.toNat < 128 then b.toNat else (bval (r.take (b.toNat - 128)) : Nat)⟩
theorem rdH_all {a b : UInt8} {r : List UInt8} (h : kd (hdC a) (hdT a) (hdM a) = true) (h1 : b.toNat < 128 ∨ 128 < b.toNat ∧ b.toNat ≤ 131 ∧ b.toNat - 128 ≤ r.length) :
    rdH (a :: b :: r) = if putH (hdOf a b r) <+: a :: b :: r then (hdOf a b r, (putH (hdOf a b r)).length, 0) else (.z, 1, 13) := by
  have h' : kd (a.toNat / 64 : Nat) (a.toNat % 32 : Nat) (a.toNat / 32 % 2 == 1) = true := h
  unfold rdH; simp only [h', if_true]; rw [if_neg (by omega), if_neg (by omega)]; rfl
end Go.Proofs.YtnjnghbonmdbdaaDoor


/- The document's own answers of layer 9: Kind. -/
namespace Go.Proofs.YtnjnghbonmdbdaaDoor
open Go.RowKit

set_option maxRecDepth 100000 in
set_option maxHeartbeats 2000000 in
theorem rkind_any (w : World) (c t : Int) (m : Bool) : Calls Tryd.prog 42 #[.int .i64 c, .int .i64 t, .bool m] w fun e w' => e = .returned (.bool (kd c t m)) ∧ w' = w := by
  by_cases h2 : c = 2
  · subst h2
    by_cases ht : 0 ≤ t
    · have hk : kd 2 t m = decide (t ≤ 30) := by unfold kd; rw [if_pos rfl]; simp [ht]
      rw [hk]
      go_enter Tryd.func42, Tryd.ntmps42
      go_wp2_with fail
      go_ret
      exact ⟨rfl, rfl⟩
    · have hk : kd 2 t m = false := by unfold kd; rw [if_pos rfl]; simp; omega
      rw [hk]
      go_enter Tryd.func42, Tryd.ntmps42
      go_wp2_with fail
      go_ret
      exact ⟨rfl, rfl⟩
  · by_cases h0 : c = 0
    · have hk : kd c t m = if t = 1 ∨ t = 2 ∨ t = 3 ∨ t = 4 ∨ t = 5 ∨ t = 6 ∨ t = 10 ∨ t = 12 ∨ t = 18 ∨ t = 19 ∨ t = 20 ∨ t = 22 ∨ t = 23 ∨ t = 24 ∨ t = 26 ∨ t = 28 ∨ t = 30 then !m
    else if t = 16 ∨ t = 17 then m else false := by unfold kd; rw [if_neg h2, if_pos h0]
      subst h0
      rw [hk]
      go_enter Tryd.func42, Tryd.ntmps42
      go_wp2_with fail
      all_goals (go_ret; refine ⟨?_, rfl⟩)
      all_goals (clear hk h2; simp only [beq_iff_eq, beq_eq_false_iff_ne, ne_eq] at *; first | (subst_vars; rfl) | (simp_all; done) | (trace_state; sorry))
    · have hk : kd c t m = false := by unfold kd; rw [if_neg h2, if_neg h0]
      rw [hk]
      go_enter Tryd.func42, Tryd.ntmps42
      go_wp2_with fail
      go_ret
      exact ⟨rfl, rfl⟩
end Go.Proofs.YtnjnghbonmdbdaaDoor


/- The document's own answers of layer 9: Put. -/
namespace Go.Proofs.YtnjnghbonmdbdaaDoor
open Go.RowKit

set_option maxRecDepth 100000 in
theorem info_u8 : (Tryd.prog.info? 5).map (fun i => (i.zero, i.size, i.bytes)) = some (some (.int .u8 0), 1, 1) := by kernel_rfl

/-- A new block of bytes is an owned row. -/
theorem own_new (w : World) (cs : Array Value) (xs : List UInt8) (h : cs.toList = cellsOf xs) (hl : xs.length ≤ 100) : (w.alloc (.cells cs 5)).ownsRow 0 5 1 (.slice (some ⟨w.heap.size, 0, none⟩) xs.length xs.length) xs.length (cellsOf xs) := by
  have hs : cs.size = xs.length := by rw [← Array.length_toList, h, cellsOf_length]
  exact ⟨by rw [cellsOf_length]; omega, .inr ⟨w.heap.size, xs.length, cs, rfl, Nat.zero_le _, Whole.new _ _ _, Nat.le_refl _, by unfold maxLen; omega, by omega, by rw [h]; rw [Nat.mul_one, ← cellsOf_length xs, List.take_length]⟩⟩

/-- 'append' of a new row of bytes to a new row of one byte. -/
theorem app_two (w : World) (f : UInt8) (bs : List UInt8) (cs : Array Value) (hcs : cs.toList = cellsOf bs) (hl : bs.length ≤ 100) : ∀ ty, ∃ v' w', (Builtin.append_ #[22, 22] ty #[.slice (some ⟨w.heap.size, 0, none⟩) 1 1, .slice (some ⟨w.heap.size + 1, 0, none⟩) bs.length bs.length]).run Tryd.prog ((w.alloc (.cells #[.int .u8 (f.toNat : Int)] 5)).alloc (.cells cs 5)) = .ok v' w' ∧
    AppLeft ((w.alloc (.cells #[.int .u8 (f.toNat : Int)] 5)).alloc (.cells cs 5)) 5 1 (.slice (some ⟨w.heap.size, 0, none⟩) 1 1) (1 + bs.length) (cellsOf ([f] ++ bs)) v' w' := fun ty => by
  have h1 := own_new w #[.int .u8 (f.toNat : Int)] [f] rfl (by simp)
  have h2 := own_fr h1 ((Fr.refl _ (fun _ => False)).alloc (.cells cs 5)) (fun _ _ h => h)
  have h3 := own_by (own_new (w.alloc (.cells #[.int .u8 (f.toNat : Int)] 5)) cs bs hcs hl)
  rw [World.size_alloc] at h3
  exact append_bytes (P := Tryd.prog) _ 22 ty 5 Tryd.underlying22 info_u8 h2 h3 bs.length (by simp; omega)

theorem u8_nat (n : Nat) (h : n < 256) : ((UInt8.ofNat n).toNat : Int) = n := by simp; omega

set_option maxRecDepth 100000 in
set_option maxHeartbeats 4000000 in
theorem rput_any (w : World) (h : Hd) (hk : kd h.c h.t h.m = true) (h0 : 0 ≤ h.l) (h1 : h.l ≤ 16777215) :
    Calls Tryd.prog 43 #[h.agg] w fun e w' => ∃ v, e = .returned v ∧ w'.ownsRow 0 5 1 v (putH h).length (cellsOf (putH h)) ∧ Below w.heap.size w w' ∧ (∀ k, v.ownBlock = some k → w.heap.size ≤ k) := by
  obtain ⟨c, t, m, l⟩ := h
  obtain ⟨hc, ht0, ht1⟩ := kd_bounds hk
  dsimp only at h0 h1 hc ht0 ht1
  have e1 : wrap64 (64 * c) = 64 * c := IntWalk.wrap64_in _ (by omega)
  have e2 : wrap64 (64 * c + t) = 64 * c + t := IntWalk.wrap64_in _ (by omega)
  have e3 : wrap64 (64 * c + t + 32) = 64 * c + t + 32 := IntWalk.wrap64_in _ (by omega)
  obtain ⟨n, rfl⟩ := Int.eq_ofNat_of_zero_le h0
  clear hk
  have hput : ∀ m, (putH ⟨c, t, m, (n : Int)⟩) = [.ofNat (fb c t m)] ++ lenB n := fun m => rfl
  rw [hput, Hd.agg]
  clear hput
  cases m with
  | false =>
    by_cases l1 : n < 128
    · have l1' : (n : Int) < 128 := by omega
      have hlb : lenB n = [.ofNat n] := by unfold lenB; rw [if_pos (by omega)]
      have ef : ((UInt8.ofNat (fb c t false)).toNat : Int) = 64 * c + t := by rw [u8_nat _ (by unfold fb; simp only [Bool.false_eq_true, if_false]; omega)]; unfold fb; simp only [Bool.false_eq_true, if_false]; omega
      have HA0 := app_two (w.alloc (.cells #[.int .i64 c, .int .i64 t, .bool false, .int .i64 (n : Int)] 69)) (.ofNat (fb c t false)) [.ofNat n] #[.int .u8 (n : Int)] (by simp only [cellsOf, List.map_cons, List.map_nil]; rw [u8_nat (n) (by omega)]; try rfl) (by simp)
      rw [ef, World.size_alloc, ← hlb] at HA0
      have hlen : (lenB n).length = 1 := by rw [hlb]; rfl
      rw [hlen] at HA0
      have HA := Lib.hid HA0
      have HLEN := Lib.hid hlen
      clear HA0 hlen hlb ef l1
      go_enter Tryd.func43, Tryd.ntmps43
      go_wp2_with (at_builtin; refine wpList_append_run _ rfl (.tmp 21) (.tmp 25) 22 rfl rfl rfl HA.out ?_; rintro v' w1 ⟨a1, a2, a3⟩; have A1 := Lib.hid a1; have A2 := Lib.hid a2; have A3 := Lib.hid a3; clear a1 a2 a3)
      go_ret
      refine ⟨v', rfl, ?_, ?_, ?_⟩
      · have := A1.out
        have hl : (lenB n).length + 1 = 1 + 1 := by rw [HLEN.out]
        first | (rw [hl]; exact this) | (show w1.ownsRow 0 5 1 v' ((lenB n).length + 1) _; rw [hl]; exact this)
      · exact grew_below (grew_own (row := none) (p := w.heap.size + 1) (grew_alloc (grew_alloc (grew_alloc (grew_refl w none) _) _) _) A2.out (by omega)) (Nat.le_refl _) (fun _ h => by cases h)
      · intro k hk
        rcases A3.out with h | h
        · rw [hk] at h; simp [Value.ownBlock] at h; omega
        · rw [hk] at h; simp at h; omega
    by_cases l2 : n < 256
    · have l2' : (n : Int) < 256 := by omega
      have j1 : ¬ (n : Int) < 128 := by omega
      have hlb : lenB n = [129, .ofNat n] := by unfold lenB; rw [if_neg (by omega)]; rw [if_pos (by omega)]
      have ef : ((UInt8.ofNat (fb c t false)).toNat : Int) = 64 * c + t := by rw [u8_nat _ (by unfold fb; simp only [Bool.false_eq_true, if_false]; omega)]; unfold fb; simp only [Bool.false_eq_true, if_false]; omega
      have HA0 := app_two (w.alloc (.cells #[.int .i64 c, .int .i64 t, .bool false, .int .i64 (n : Int)] 69)) (.ofNat (fb c t false)) [129, .ofNat n] #[.int .u8 129, .int .u8 (n : Int)] (by simp only [cellsOf, List.map_cons, List.map_nil]; rw [u8_nat (n) (by omega)]; try rfl) (by simp)
      rw [ef, World.size_alloc, ← hlb] at HA0
      have hlen : (lenB n).length = 2 := by rw [hlb]; rfl
      rw [hlen] at HA0
      have HA := Lib.hid HA0
      have HLEN := Lib.hid hlen
      clear HA0 hlen hlb ef l1 l2
      go_enter Tryd.func43, Tryd.ntmps43
      go_wp2_with (at_builtin; refine wpList_append_run _ rfl (.tmp 30) (.tmp 34) 22 rfl rfl rfl HA.out ?_; rintro v' w1 ⟨a1, a2, a3⟩; have A1 := Lib.hid a1; have A2 := Lib.hid a2; have A3 := Lib.hid a3; clear a1 a2 a3)
      go_ret
      refine ⟨v', rfl, ?_, ?_, ?_⟩
      · have := A1.out
        have hl : (lenB n).length + 1 = 1 + 2 := by rw [HLEN.out]
        first | (rw [hl]; exact this) | (show w1.ownsRow 0 5 1 v' ((lenB n).length + 1) _; rw [hl]; exact this)
      · exact grew_below (grew_own (row := none) (p := w.heap.size + 1) (grew_alloc (grew_alloc (grew_alloc (grew_refl w none) _) _) _) A2.out (by omega)) (Nat.le_refl _) (fun _ h => by cases h)
      · intro k hk
        rcases A3.out with h | h
        · rw [hk] at h; simp [Value.ownBlock] at h; omega
        · rw [hk] at h; simp at h; omega
    by_cases l3 : n < 65536
    · have l3' : (n : Int) < 65536 := by omega
      have j1 : ¬ (n : Int) < 128 := by omega
      have j2 : ¬ (n : Int) < 256 := by omega
      have hlb : lenB n = [130, .ofNat (n / 256), .ofNat (n % 256)] := by unfold lenB; rw [if_neg (by omega)]; rw [if_neg (by omega)]; rw [if_pos (by omega)]
      have ef : ((UInt8.ofNat (fb c t false)).toNat : Int) = 64 * c + t := by rw [u8_nat _ (by unfold fb; simp only [Bool.false_eq_true, if_false]; omega)]; unfold fb; simp only [Bool.false_eq_true, if_false]; omega
      have HA0 := app_two (w.alloc (.cells #[.int .i64 c, .int .i64 t, .bool false, .int .i64 (n : Int)] 69)) (.ofNat (fb c t false)) [130, .ofNat (n / 256), .ofNat (n % 256)] #[.int .u8 130, .int .u8 ((n / 256 : Nat) : Int), .int .u8 ((n % 256 : Nat) : Int)] (by simp only [cellsOf, List.map_cons, List.map_nil]; rw [u8_nat (n / 256) (by omega)]; rw [u8_nat (n % 256) (by omega)]; try rfl) (by simp)
      rw [ef, World.size_alloc, ← hlb] at HA0
      have hlen : (lenB n).length = 3 := by rw [hlb]; rfl
      rw [hlen] at HA0
      have HA := Lib.hid HA0
      have HLEN := Lib.hid hlen
      clear HA0 hlen hlb ef l1 l2 l3
      go_enter Tryd.func43, Tryd.ntmps43
      go_wp2_with (at_builtin; refine wpList_append_run _ rfl (.tmp 39) (.tmp 48) 22 rfl rfl rfl HA.out ?_; rintro v' w1 ⟨a1, a2, a3⟩; have A1 := Lib.hid a1; have A2 := Lib.hid a2; have A3 := Lib.hid a3; clear a1 a2 a3)
      go_ret
      refine ⟨v', rfl, ?_, ?_, ?_⟩
      · have := A1.out
        have hl : (lenB n).length + 1 = 1 + 3 := by rw [HLEN.out]
        first | (rw [hl]; exact this) | (show w1.ownsRow 0 5 1 v' ((lenB n).length + 1) _; rw [hl]; exact this)
      · exact grew_below (grew_own (row := none) (p := w.heap.size + 1) (grew_alloc (grew_alloc (grew_alloc (grew_refl w none) _) _) _) A2.out (by omega)) (Nat.le_refl _) (fun _ h => by cases h)
      · intro k hk
        rcases A3.out with h | h
        · rw [hk] at h; simp [Value.ownBlock] at h; omega
        · rw [hk] at h; simp at h; omega
    have j1 : ¬ (n : Int) < 128 := by omega
    have j2 : ¬ (n : Int) < 256 := by omega
    have j3 : ¬ (n : Int) < 65536 := by omega
    have hlb : lenB n = [131, .ofNat (n / 65536), .ofNat (n / 256 % 256), .ofNat (n % 256)] := by unfold lenB; rw [if_neg (by omega)]; rw [if_neg (by omega)]; rw [if_neg (by omega)]
    have ef : ((UInt8.ofNat (fb c t false)).toNat : Int) = 64 * c + t := by rw [u8_nat _ (by unfold fb; simp only [Bool.false_eq_true, if_false]; omega)]; unfold fb; simp only [Bool.false_eq_true, if_false]; omega
    have HA0 := app_two (w.alloc (.cells #[.int .i64 c, .int .i64 t, .bool false, .int .i64 (n : Int)] 69)) (.ofNat (fb c t false)) [131, .ofNat (n / 65536), .ofNat (n / 256 % 256), .ofNat (n % 256)] #[.int .u8 131, .int .u8 ((n / 65536 : Nat) : Int), .int .u8 ((n / 256 % 256 : Nat) : Int), .int .u8 ((n % 256 : Nat) : Int)] (by simp only [cellsOf, List.map_cons, List.map_nil]; rw [u8_nat (n / 65536) (by omega)]; rw [u8_nat (n / 256 % 256) (by omega)]; rw [u8_nat (n % 256) (by omega)]; try rfl) (by simp)
    rw [ef, World.size_alloc, ← hlb] at HA0
    have hlen : (lenB n).length = 4 := by rw [hlb]; rfl
    rw [hlen] at HA0
    have HA := Lib.hid HA0
    have HLEN := Lib.hid hlen
    clear HA0 hlen hlb ef l1 l2 l3
    go_enter Tryd.func43, Tryd.ntmps43
    go_wp2_with (at_builtin; refine wpList_append_run _ rfl (.tmp 50) (.tmp 64) 22 rfl rfl rfl HA.out ?_; rintro v' w1 ⟨a1, a2, a3⟩; have A1 := Lib.hid a1; have A2 := Lib.hid a2; have A3 := Lib.hid a3; clear a1 a2 a3)
    go_ret
    refine ⟨v', rfl, ?_, ?_, ?_⟩
    · have := A1.out
      have hl : (lenB n).length + 1 = 1 + 4 := by rw [HLEN.out]
      first | (rw [hl]; exact this) | (show w1.ownsRow 0 5 1 v' ((lenB n).length + 1) _; rw [hl]; exact this)
    · exact grew_below (grew_own (row := none) (p := w.heap.size + 1) (grew_alloc (grew_alloc (grew_alloc (grew_refl w none) _) _) _) A2.out (by omega)) (Nat.le_refl _) (fun _ h => by cases h)
    · intro k hk
      rcases A3.out with h | h
      · rw [hk] at h; simp [Value.ownBlock] at h; omega
      · rw [hk] at h; simp at h; omega
  | true =>
    by_cases l1 : n < 128
    · have l1' : (n : Int) < 128 := by omega
      have hlb : lenB n = [.ofNat n] := by unfold lenB; rw [if_pos (by omega)]
      have ef : ((UInt8.ofNat (fb c t true)).toNat : Int) = 64 * c + t + 32 := by rw [u8_nat _ (by unfold fb; simp only [if_true]; omega)]; unfold fb; simp only [if_true]; omega
      have HA0 := app_two (w.alloc (.cells #[.int .i64 c, .int .i64 t, .bool true, .int .i64 (n : Int)] 69)) (.ofNat (fb c t true)) [.ofNat n] #[.int .u8 (n : Int)] (by simp only [cellsOf, List.map_cons, List.map_nil]; rw [u8_nat (n) (by omega)]; try rfl) (by simp)
      rw [ef, World.size_alloc, ← hlb] at HA0
      have hlen : (lenB n).length = 1 := by rw [hlb]; rfl
      rw [hlen] at HA0
      have HA := Lib.hid HA0
      have HLEN := Lib.hid hlen
      clear HA0 hlen hlb ef l1
      go_enter Tryd.func43, Tryd.ntmps43
      go_wp2_with (at_builtin; refine wpList_append_run _ rfl (.tmp 21) (.tmp 25) 22 rfl rfl rfl HA.out ?_; rintro v' w1 ⟨a1, a2, a3⟩; have A1 := Lib.hid a1; have A2 := Lib.hid a2; have A3 := Lib.hid a3; clear a1 a2 a3)
      go_ret
      refine ⟨v', rfl, ?_, ?_, ?_⟩
      · have := A1.out
        have hl : (lenB n).length + 1 = 1 + 1 := by rw [HLEN.out]
        first | (rw [hl]; exact this) | (show w1.ownsRow 0 5 1 v' ((lenB n).length + 1) _; rw [hl]; exact this)
      · exact grew_below (grew_own (row := none) (p := w.heap.size + 1) (grew_alloc (grew_alloc (grew_alloc (grew_refl w none) _) _) _) A2.out (by omega)) (Nat.le_refl _) (fun _ h => by cases h)
      · intro k hk
        rcases A3.out with h | h
        · rw [hk] at h; simp [Value.ownBlock] at h; omega
        · rw [hk] at h; simp at h; omega
    by_cases l2 : n < 256
    · have l2' : (n : Int) < 256 := by omega
      have j1 : ¬ (n : Int) < 128 := by omega
      have hlb : lenB n = [129, .ofNat n] := by unfold lenB; rw [if_neg (by omega)]; rw [if_pos (by omega)]
      have ef : ((UInt8.ofNat (fb c t true)).toNat : Int) = 64 * c + t + 32 := by rw [u8_nat _ (by unfold fb; simp only [if_true]; omega)]; unfold fb; simp only [if_true]; omega
      have HA0 := app_two (w.alloc (.cells #[.int .i64 c, .int .i64 t, .bool true, .int .i64 (n : Int)] 69)) (.ofNat (fb c t true)) [129, .ofNat n] #[.int .u8 129, .int .u8 (n : Int)] (by simp only [cellsOf, List.map_cons, List.map_nil]; rw [u8_nat (n) (by omega)]; try rfl) (by simp)
      rw [ef, World.size_alloc, ← hlb] at HA0
      have hlen : (lenB n).length = 2 := by rw [hlb]; rfl
      rw [hlen] at HA0
      have HA := Lib.hid HA0
      have HLEN := Lib.hid hlen
      clear HA0 hlen hlb ef l1 l2
      go_enter Tryd.func43, Tryd.ntmps43
      go_wp2_with (at_builtin; refine wpList_append_run _ rfl (.tmp 30) (.tmp 34) 22 rfl rfl rfl HA.out ?_; rintro v' w1 ⟨a1, a2, a3⟩; have A1 := Lib.hid a1; have A2 := Lib.hid a2; have A3 := Lib.hid a3; clear a1 a2 a3)
      go_ret
      refine ⟨v', rfl, ?_, ?_, ?_⟩
      · have := A1.out
        have hl : (lenB n).length + 1 = 1 + 2 := by rw [HLEN.out]
        first | (rw [hl]; exact this) | (show w1.ownsRow 0 5 1 v' ((lenB n).length + 1) _; rw [hl]; exact this)
      · exact grew_below (grew_own (row := none) (p := w.heap.size + 1) (grew_alloc (grew_alloc (grew_alloc (grew_refl w none) _) _) _) A2.out (by omega)) (Nat.le_refl _) (fun _ h => by cases h)
      · intro k hk
        rcases A3.out with h | h
        · rw [hk] at h; simp [Value.ownBlock] at h; omega
        · rw [hk] at h; simp at h; omega
    by_cases l3 : n < 65536
    · have l3' : (n : Int) < 65536 := by omega
      have j1 : ¬ (n : Int) < 128 := by omega
      have j2 : ¬ (n : Int) < 256 := by omega
      have hlb : lenB n = [130, .ofNat (n / 256), .ofNat (n % 256)] := by unfold lenB; rw [if_neg (by omega)]; rw [if_neg (by omega)]; rw [if_pos (by omega)]
      have ef : ((UInt8.ofNat (fb c t true)).toNat : Int) = 64 * c + t + 32 := by rw [u8_nat _ (by unfold fb; simp only [if_true]; omega)]; unfold fb; simp only [if_true]; omega
      have HA0 := app_two (w.alloc (.cells #[.int .i64 c, .int .i64 t, .bool true, .int .i64 (n : Int)] 69)) (.ofNat (fb c t true)) [130, .ofNat (n / 256), .ofNat (n % 256)] #[.int .u8 130, .int .u8 ((n / 256 : Nat) : Int), .int .u8 ((n % 256 : Nat) : Int)] (by simp only [cellsOf, List.map_cons, List.map_nil]; rw [u8_nat (n / 256) (by omega)]; rw [u8_nat (n % 256) (by omega)]; try rfl) (by simp)
      rw [ef, World.size_alloc, ← hlb] at HA0
      have hlen : (lenB n).length = 3 := by rw [hlb]; rfl
      rw [hlen] at HA0
      have HA := Lib.hid HA0
      have HLEN := Lib.hid hlen
      clear HA0 hlen hlb ef l1 l2 l3
      go_enter Tryd.func43, Tryd.ntmps43
      go_wp2_with (at_builtin; refine wpList_append_run _ rfl (.tmp 39) (.tmp 48) 22 rfl rfl rfl HA.out ?_; rintro v' w1 ⟨a1, a2, a3⟩; have A1 := Lib.hid a1; have A2 := Lib.hid a2; have A3 := Lib.hid a3; clear a1 a2 a3)
      go_ret
      refine ⟨v', rfl, ?_, ?_, ?_⟩
      · have := A1.out
        have hl : (lenB n).length + 1 = 1 + 3 := by rw [HLEN.out]
        first | (rw [hl]; exact this) | (show w1.ownsRow 0 5 1 v' ((lenB n).length + 1) _; rw [hl]; exact this)
      · exact grew_below (grew_own (row := none) (p := w.heap.size + 1) (grew_alloc (grew_alloc (grew_alloc (grew_refl w none) _) _) _) A2.out (by omega)) (Nat.le_refl _) (fun _ h => by cases h)
      · intro k hk
        rcases A3.out with h | h
        · rw [hk] at h; simp [Value.ownBlock] at h; omega
        · rw [hk] at h; simp at h; omega
    have j1 : ¬ (n : Int) < 128 := by omega
    have j2 : ¬ (n : Int) < 256 := by omega
    have j3 : ¬ (n : Int) < 65536 := by omega
    have hlb : lenB n = [131, .ofNat (n / 65536), .ofNat (n / 256 % 256), .ofNat (n % 256)] := by unfold lenB; rw [if_neg (by omega)]; rw [if_neg (by omega)]; rw [if_neg (by omega)]
    have ef : ((UInt8.ofNat (fb c t true)).toNat : Int) = 64 * c + t + 32 := by rw [u8_nat _ (by unfold fb; simp only [if_true]; omega)]; unfold fb; simp only [if_true]; omega
    have HA0 := app_two (w.alloc (.cells #[.int .i64 c, .int .i64 t, .bool true, .int .i64 (n : Int)] 69)) (.ofNat (fb c t true)) [131, .ofNat (n / 65536), .ofNat (n / 256 % 256), .ofNat (n % 256)] #[.int .u8 131, .int .u8 ((n / 65536 : Nat) : Int), .int .u8 ((n / 256 % 256 : Nat) : Int), .int .u8 ((n % 256 : Nat) : Int)] (by simp only [cellsOf, List.map_cons, List.map_nil]; rw [u8_nat (n / 65536) (by omega)]; rw [u8_nat (n / 256 % 256) (by omega)]; rw [u8_nat (n % 256) (by omega)]; try rfl) (by simp)
    rw [ef, World.size_alloc, ← hlb] at HA0
    have hlen : (lenB n).length = 4 := by rw [hlb]; rfl
    rw [hlen] at HA0
    have HA := Lib.hid HA0
    have HLEN := Lib.hid hlen
    clear HA0 hlen hlb ef l1 l2 l3
    go_enter Tryd.func43, Tryd.ntmps43
    go_wp2_with (at_builtin; refine wpList_append_run _ rfl (.tmp 50) (.tmp 64) 22 rfl rfl rfl HA.out ?_; rintro v' w1 ⟨a1, a2, a3⟩; have A1 := Lib.hid a1; have A2 := Lib.hid a2; have A3 := Lib.hid a3; clear a1 a2 a3)
    go_ret
    refine ⟨v', rfl, ?_, ?_, ?_⟩
    · have := A1.out
      have hl : (lenB n).length + 1 = 1 + 4 := by rw [HLEN.out]
      first | (rw [hl]; exact this) | (show w1.ownsRow 0 5 1 v' ((lenB n).length + 1) _; rw [hl]; exact this)
    · exact grew_below (grew_own (row := none) (p := w.heap.size + 1) (grew_alloc (grew_alloc (grew_alloc (grew_refl w none) _) _) _) A2.out (by omega)) (Nat.le_refl _) (fun _ h => by cases h)
    · intro k hk
      rcases A3.out with h | h
      · rw [hk] at h; simp [Value.ownBlock] at h; omega
      · rw [hk] at h; simp at h; omega
end Go.Proofs.YtnjnghbonmdbdaaDoor

