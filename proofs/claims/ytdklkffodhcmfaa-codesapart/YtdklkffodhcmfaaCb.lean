/- Plain facts on the lists of codes; leaving a function behind a ranged function. -/
import Derived.Test.YtdklkffodhcmfaaAl8
import Derived.RangeFuncFrom
namespace Go.Proofs.Ytdklkffodhcmfaa
open Go.RowKit

theorem cdOf_some {k c : Int} {x : Cd} (h : cdOf k c = some x) : x ∈ cds k ∧ x.1 = c := ⟨List.mem_of_find?_eq_some h, by have := List.find?_some h; simpa using this⟩
theorem cdBy_some {k : Int} {s : ByteArray} {x : Cd} (h : cdBy k s = some x) : x ∈ cds k ∧ x.2 = s := ⟨List.mem_of_find?_eq_some h, by have := List.find?_some h; simpa using this⟩

/-- Codes of a kind: two numbers, two names; no name is empty, none long. -/
theorem cds_one (k : Int) : ∀ x ∈ cds k, (∀ y ∈ cds k, decide (x.1 = y.1) = decide (x.2 = y.2)) ∧ 1 ≤ x.2.size ∧ x.2.size ≤ 40 := by
  have d : ∀ xs : List Cd, (xs.all fun x => (xs.all fun y => decide (x.1 = y.1) == decide (x.2 = y.2)) && decide (1 ≤ x.2.size) && decide (x.2.size ≤ 40)) = true → ∀ x ∈ xs, (∀ y ∈ xs, decide (x.1 = y.1) = decide (x.2 = y.2)) ∧ 1 ≤ x.2.size ∧ x.2.size ≤ 40 := by
    intro xs h x hx
    have := List.all_eq_true.1 h x hx
    simp only [Bool.and_eq_true, List.all_eq_true, beq_iff_eq] at this
    exact ⟨this.1.1, by simpa using this.1.2, by simpa using this.2⟩
  unfold cds
  split
  · exact d _ (by decide +kernel)
  split
  · exact d _ (by decide +kernel)
  split
  · exact d _ (by decide +kernel)
  · intro x hx; simp at hx

theorem cd_eq {k : Int} {x y : Cd} (hx : x ∈ cds k) (hy : y ∈ cds k) (h : x.1 = y.1 ∨ x.2 = y.2) : x = y := by
  have := (cds_one k x hx).1 y hy
  rcases h with h | h
  · rw [decide_eq_true h] at this
    exact Prod.ext h (by simpa using this.symm)
  · rw [decide_eq_true h] at this
    exact Prod.ext (by simpa using this) h
theorem cdBy_self {k : Int} {x : Cd} (h : x ∈ cds k) : cdBy k x.2 = some x := by
  cases hb : cdBy k x.2 with
  | none => have := List.find?_eq_none.1 hb x h; simp at this
  | some y => obtain ⟨hy, e⟩ := cdBy_some hb; rw [cd_eq hy h (.inr e)]
theorem cdOf_self {k : Int} {x : Cd} (h : x ∈ cds k) : cdOf k x.1 = some x := by
  cases hb : cdOf k x.1 with
  | none => have := List.find?_eq_none.1 hb x h; simp at this
  | some y => obtain ⟨hy, e⟩ := cdOf_some hb; rw [cd_eq hy h (.inl e)]

/-- The last code; ahead of all of them -1. -/
def lstCd (xs : List Cd) : Int := (xs.getLast?.map (·.1)).getD (-1)
theorem lstCd_snoc (xs : List Cd) (x : Cd) : lstCd (xs ++ [x]) = x.1 := by simp [lstCd]
/-- Codes of a kind rise. -/
theorem cds_rise (k : Int) (pre : List Cd) (x : Cd) (h : pre ++ [x] <+: cds k) : lstCd pre < x.1 := by
  have d : ∀ xs : List Cd, ((List.range xs.length).all fun i => match xs[i]? with | some x => decide (lstCd (xs.take i) < x.1) | none => true) = true → ∀ pre x, pre ++ [x] <+: xs → lstCd pre < x.1 := by
    intro xs h pre x ⟨t, e⟩
    have hl : pre.length < xs.length := by rw [← e]; simp
    have := List.all_eq_true.1 h pre.length (List.mem_range.2 hl)
    have h1 : xs[pre.length]? = some x := by rw [← e]; simp
    have h2 : xs.take pre.length = pre := by rw [← e]; simp
    rw [h1, h2] at this
    simpa using this
  revert h
  unfold cds
  split
  · exact d _ (by decide +kernel) pre x
  split
  · exact d _ (by decide +kernel) pre x
  split
  · exact d _ (by decide +kernel) pre x
  · intro h; have := h.length_le; simp at this
theorem boxes2 (w : World) (v0 v1 : Value) (t0 t1 : TypeId) : ∃ W0, (w.alloc (.cells #[v0] t0)).alloc (.cells #[v1] t1) = W0 ∧ W0.heap.size = w.heap.size + 1 + 1 ∧ Below w.heap.size w W0 ∧
    Whole W0 w.heap.size #[v0] t0 ∧ Whole W0 (w.heap.size + 1) #[v1] t1 := by
  refine ⟨_, rfl, by simp, ((Below.refl _ w).alloc (Nat.le_refl _) _).alloc (by simp) _, whole_alloc (Whole.new w _ _) _, ?_⟩
  have := Whole.new (w.alloc (.cells #[v0] t0)) #[v1] t1
  rw [World.size_alloc] at this
  exact this

theorem whole_below {A B : World} {p n : Nat} {cs : Array Value} {t : TypeId} (h : Whole A p cs t) (b : Below n A B) (hp : p < n) : Whole B p cs t := (b.block p hp).trans h

/-- What CodesAll holds between two rounds: what came, its result, the document's list. -/
structure Sa (q b p : Nat) (v : Int) (A : Option Addr) (xs : List Cd) (w W : World) : Prop where
  leave : Whole W q #[.int .i64 v] 3
  res : Whole W (q + 1) #[.bool false] 4
  want : Whole W b #[.slice A xs.length xs.length] 33
  list : xs ≠ [] → Whole W p (cdCells xs).toArray 36
  bel : Below q w W
theorem Sa.below {q b p n : Nat} {v : Int} {A : Option Addr} {xs : List Cd} {w W W' : World} (h : Sa q b p v A xs w W) (k : Below n W W') (h1 : q + 1 < n) (h2 : b < n) (h3 : xs ≠ [] → p < n) : Sa q b p v A xs w W' :=
  ⟨whole_below h.leave k (by omega), whole_below h.res k h1, whole_below h.want k h2, fun e => whole_below (h.list e) k (h3 e), h.bel.trans (k.mono (by omega))⟩
theorem Sa.kept {q b p n : Nat} {v : Int} {A : Option Addr} {xs : List Cd} {w W W' : World} {row : Option Nat} (h : Sa q b p v A xs w W) (hg : W.grownBy W' row) (hr : ∀ r, row = some r → n ≤ r ∧ ∃ o : Obj, W.heap[r]? = some o ∧ o.isCells = false) (hn : q ≤ n) : Sa q b p v A xs w W' :=
  ⟨whole_kept h.leave hg (fun r e => (hr r e).2), whole_kept h.res hg (fun r e => (hr r e).2), whole_kept h.want hg (fun r e => (hr r e).2), fun e => whole_kept (h.list e) hg (fun r e => (hr r e).2),
    h.bel.grown hg (by have := h.res.lt; omega) (fun r e => Nat.le_trans hn (hr r e).1)⟩
theorem Sa.set {q b p i : Nat} {v : Int} {A : Option Addr} {xs : List Cd} {w W : World} (h : Sa q b p v A xs w W) (u : Value) (h0 : q < i) (h1 : q + 1 ≠ i) (h2 : b ≠ i) (h3 : xs ≠ [] → p ≠ i) : Sa q b p v A xs w (W.setCell ⟨i, 0, none⟩ u) :=
  ⟨whole_other h.leave _ (by omega), whole_other h.res _ h1, whole_other h.want _ h2, fun e => whole_other (h.list e) _ (h3 e), h.bel.setCell (p := ⟨i, 0, none⟩) (Nat.le_of_lt h0) _⟩

/-- A round of CodesAll goes on: what has come is the list's beginning, counted in block i. -/
structure Ia (q b p i : Nat) (v : Int) (A : Option Addr) (xs : List Cd) (Ds : List Nat) (w : World) (pre : List Cd) (W : World) : Prop where
  beg : pre <+: xs
  sa : Sa q b p v A xs w W
  cnt : Whole W i #[.int .i64 pre.length] 3
  ds : ∀ D ∈ Ds, W.heap[D]? = some (.deferred (some []))
/-- It ends: something else has come, or it has been counted enough. -/
def Xa (q b p i : Nat) (v : Int) (A : Option Addr) (xs : List Cd) (Ds : List Nat) (w : World) (E : Nat) (j : Code) (pre : List Cd) (W : World) : Prop :=
  (j = .ret ∧ ¬ pre <+: xs) ∨ (j = .exit E ∧ Sa q b p v A xs w W ∧ Whole W i #[.int .i64 v] 3 ∧ ∀ D ∈ Ds, W.heap[D]? = some (.deferred (some [])))
theorem defs_kept {Ds : List Nat} {B : Nat} {W W' : World} {row : Option Nat} (h : ∀ D ∈ Ds, W.heap[D]? = some (.deferred (some []))) (hg : W.grownBy W' row) (hr : ∀ r, row = some r → B ≤ r ∧ ∃ o : Obj, W.heap[r]? = some o ∧ o.isCells = false) (hD : ∀ D ∈ Ds, D < B) :
    ∀ D ∈ Ds, W'.heap[D]? = some (.deferred (some [])) := fun D hd => (hg.block D (Array.getElem?_eq_some_iff.1 (h D hd)).1 (fun e => by have := (hr D e.symm).1; have := hD D hd; omega)).trans (h D hd)
theorem Ia.own {q b p i B : Nat} {v : Int} {A : Option Addr} {xs : List Cd} {Ds : List Nat} {w : World} (hq : q ≤ B) (hD : ∀ D ∈ Ds, D < B) : OwnFrom B (Ia q b p i v A xs Ds w) :=
  fun _ _ _ _ h hg hr => ⟨h.beg, h.sa.kept hg hr hq, whole_kept h.cnt hg (fun r e => (hr r e).2), defs_kept h.ds hg hr hD⟩
theorem Xa.own {q b p i B : Nat} {v : Int} {A : Option Addr} {xs : List Cd} {Ds : List Nat} {w : World} {E : Nat} (hq : q ≤ B) (hD : ∀ D ∈ Ds, D < B) (j : Code) : OwnFrom B (Xa q b p i v A xs Ds w E j) :=
  fun _ _ _ _ h hg hr => by
    rcases h with h | ⟨h1, h2, h3, h4⟩
    · exact .inl h
    · exact .inr ⟨h1, h2.kept hg hr hq, whole_kept h3 hg (fun r e => (hr r e).2), defs_kept h4 hg hr hD⟩
theorem defs_set {Ds : List Nat} {W : World} (h : ∀ D ∈ Ds, W.heap[D]? = some (.deferred (some []))) (i : Nat) (u : Value) : ∀ D ∈ Ds, (W.setCell ⟨i, 0, none⟩ u).heap[D]? = some (.deferred (some [])) :=
  fun D hd => (KeepsOthers.setCell W ⟨i, 0, none⟩ u).same D _ (h D hd) rfl
theorem pre_snoc {xs pre : List Cd} {x y : Cd} (h : pre <+: xs) (hy : xs[pre.length]? = some y) : pre ++ [x] <+: xs ↔ y = x := by
  obtain ⟨t, rfl⟩ := h
  cases t with
  | nil => simp at hy
  | cons z t =>
    have hz : z = y := by simpa using hy
    subst hz
    rw [List.prefix_append_right_inj]
    simp [eq_comm]
end Go.Proofs.Ytdklkffodhcmfaa

