/- Reading: the reader, what a call of it asks and leaves; rows of values that are filled. -/
import Derived.Test.YtdamjbngopfpkaaRx
import Derived.Laws.MakeOwn
namespace Go.Proofs.Ytdamjbngopfpkaa
open Go.RowKit Va

/-- What may turn: the cursor, the tally. -/
def Ft (p : Nat) (t : Option Nat) : Nat → Prop := fun i => i = p ∨ t = some i
def Tly (w : World) (t : Option Nat) (m c : Int) : Prop := ∀ q, t = some q → Tal w q m c
/-- The reader's cells. -/
def rcells (t : Option Nat) : Array Value := #[.pointer (t.map fun q => ⟨q, 0, none⟩), .func (.func 44) #[] #[], .func (.func 45) #[] #[], .func (.func 46) #[] #[], .func (.func 47) #[] #[], .func (.func 48) #[] #[], .func (.func 49) #[] #[]]

/-- What a call asks. -/
structure Pre (w0 w : World) (r p : Nat) (t : Option Nat) (m c : Int) (xs : List UInt8) (a : Int) : Prop where
  g : Grew w0 w none
  rd : Whole w r (rcells t) 78
  cr : Cr w p w0.heap.size xs a
  tl : ∀ q, t = some q → w0.heap.size ≤ q
  ty : Tly w t m c

/-- What it leaves behind. -/
def Got (w0 w : World) (p : Nat) (t : Option Nat) (m c : Int) (xs : List UInt8) (a : Int) (R : Rd) (e : Ending) (w' : World) : Prop :=
  ∃ (v : Va) (ys : List UInt8) (a' : Int), e = .returned (.tuple #[v.val, fault (faI a R) R.e]) ∧ v.In w' ∧ v.Hi w.heap.size ∧ v.nf = R.v ∧ Cr w' p w0.heap.size ys a' ∧ (R.e = 0 → ys = xs.drop R.n ∧ a' = a + R.n) ∧ Tly w' t m (c + R.c) ∧ Fr w w' (Ft p t)

/-- A form is read. -/
def Reads (w0 : World) (r : Nat) (t : Option Nat) (f : Fo) : Prop :=
  ∀ (w : World) (p : Nat) (m c : Int) (xs : List UInt8) (a : Int), Pre w0 w r p t m c xs a → (t ≠ none → c + (Rd.rd f xs).c ≤ m) →
    Calls Try.prog 37 #[.pointer (some ⟨r, 0, none⟩), .pointer (some ⟨p, 0, none⟩), f.val] w (Got w0 w p t m c xs a (Rd.rd f xs))

theorem Pre.tlt {w0 w : World} {r p : Nat} {t : Option Nat} {m c : Int} {xs : List UInt8} {a : Int} (h : Pre w0 w r p t m c xs a) : ∀ q, t = some q → q < w.heap.size := fun q hq => (h.ty q hq).lt
theorem Pre.rne {w0 w : World} {r p : Nat} {t : Option Nat} {m c : Int} {xs : List UInt8} {a : Int} (h : Pre w0 w r p t m c xs a) : ¬ Ft p t r := by
  rintro (rfl | ht)
  · obtain ⟨_, _, _, A, c, hc, _⟩ := h.cr
    exact Whole.ne h.rd hc (by decide) rfl
  · exact Whole.ne h.rd (h.ty r ht).whole (by decide) rfl
theorem Pre.tne {w0 w : World} {r p : Nat} {t : Option Nat} {m c : Int} {xs : List UInt8} {a : Int} (h : Pre w0 w r p t m c xs a) : t ≠ some p := by
  intro ht
  obtain ⟨_, _, _, A, c, hc, _⟩ := h.cr
  exact Whole.ne (h.ty p ht).whole hc (by decide) rfl
theorem Pre.lo {w0 w : World} {r p : Nat} {t : Option Nat} {m c : Int} {xs : List UInt8} {a : Int} (h : Pre w0 w r p t m c xs a) : ∀ i, Ft p t i → w0.heap.size ≤ i := by
  rintro i (rfl | ht)
  · exact h.cr.1
  · exact h.tl i ht
theorem Pre.flt {w0 w : World} {r p : Nat} {t : Option Nat} {m c : Int} {xs : List UInt8} {a : Int} (h : Pre w0 w r p t m c xs a) : ∀ i, Ft p t i → i < w.heap.size := by
  rintro i (rfl | ht)
  · exact h.cr.lt
  · exact h.tlt i ht
theorem Tly.fr {w w' : World} {t : Option Nat} {m c : Int} {F : Nat → Prop} (h : Tly w t m c) (g : Fr w w' F) (hF : ∀ q, t = some q → ¬ F q) : Tly w' t m c := fun q hq => (h q hq).fr g (hF q hq)
theorem Pre.fr {w0 w w' : World} {r p : Nat} {t : Option Nat} {m c : Int} {xs : List UInt8} {a : Int} {F : Nat → Prop} (h : Pre w0 w r p t m c xs a) (g : Fr w w' F) (hr : ¬ F r) (hp : ∀ i, Ft p t i → ¬ F i) (hF : ∀ i, F i → w0.heap.size ≤ i) : Pre w0 w' r p t m c xs a :=
  ⟨grew_fr h.g g hF, h.rd.fr g hr, h.cr.fr g (hp p (.inl rfl)) hF, h.tl, h.ty.fr g (fun q hq => hp q (.inr hq))⟩
theorem Pre.got {w0 w w' : World} {r p : Nat} {t : Option Nat} {m c c' : Int} {xs ys : List UInt8} {a a' : Int} (h : Pre w0 w r p t m c xs a) (g : Fr w w' (Ft p t)) (hC : Cr w' p w0.heap.size ys a') (hT : Tly w' t m c') : Pre w0 w' r p t m c' ys a' :=
  ⟨grew_fr h.g g h.lo, h.rd.fr g h.rne, hC, h.tl, hT⟩
theorem fr_alloc (w : World) (o : Obj) (F : Nat → Prop) : Fr w (w.alloc o) F := (Fr.refl w F).alloc o
theorem fr_of {w w' : World} {F : Nat → Prop} (g : Grew w w' none) : Fr w w' F := Fr.of_grew' g (fun _ h => by cases h)

/-- The results are stored: what is left behind. -/
theorem got_close {w0 w X Y : World} {p q r k : Nat} {t : Option Nat} {m c : Int} {xs ys : List UInt8} {a a' : Int} {R : Rd} {v : Va} (hF : Fr w X (Ft p t)) (hC : Cr X p w0.heap.size ys a') (hT : Tly X t m (c + R.c)) (hY : Fr X Y (fun i => i = q ∨ i = r)) (hq : w.heap.size ≤ q) (hr : w.heap.size ≤ r) (hp : ∀ i, Ft p t i → i < w.heap.size)
    (hv : v.In X) (hi : v.Hi k) (hqk : q < k) (hrk : r < k) (hn : v.nf = R.v) (hx : R.e = 0 → ys = xs.drop R.n ∧ a' = a + R.n) {V : Value} (hV : V = .tuple #[v.val, fault (faI a R) R.e]) : Got w0 w p t m c xs a R (.returned V) Y := by
  have hB := hC.1
  have hp0 := hp p (.inl rfl)
  refine ⟨v, ys, a', by rw [hV], hv.fr hY hi (fun i hi => by rcases hi with rfl | rfl <;> assumption), hi.mono (by omega), hn, hC.fr hY (by omega) (fun i hi => by rcases hi with rfl | rfl <;> omega), hx, hT.fr hY (fun z hz e => by have := hp z (.inr hz); rcases e with rfl | rfl <;> omega), hF.trans hY (fun i hi e => by rcases e with rfl | rfl <;> omega)⟩

/-- What a leaf's step leaves, where there may be a tally. -/
theorem GotP.got {w0 w : World} {r p : Nat} {t : Option Nat} {m c : Int} {xs : List UInt8} {a : Int} {R : Rd} (h : Pre w0 w r p t m c xs a) (hc : R.c = 0) {e : Ending} {w' : World} (H : GotP w0.heap.size w p xs a R e w') : Got w0 w p t m c xs a R e w' := by
  obtain ⟨v, ys, a', he, hv, hi, hn, hC, hx, g⟩ := H
  have hF : Fr w w' (Ft p t) := Fr.of_grew' g (fun i hi => .inl (by cases hi; rfl))
  refine ⟨v, ys, a', he, hv, hi, hn, hC, hx, ?_, hF⟩
  rw [hc]
  intro q hq
  have := (h.ty q hq).grew g (by intro e; cases e; exact h.tne hq)
  simpa using this

theorem made_values (n : Nat) : (madeCells #[.int .u64 0, .slice none 0 0, .slice none 0 0] (n * 3)).toList = Va.flat (List.replicate n v0) := by
  apply List.ext_getElem?
  intro m
  by_cases hm : m < n * 3
  · obtain ⟨p, hp, hc⟩ := Va.flat_lt (ps := List.replicate n v0) (m := m) (by rw [Va.flat_length, List.length_replicate]; exact hm)
    have he : p = v0 := List.eq_of_mem_replicate (List.mem_of_getElem? hp)
    subst he
    rw [← hc, madeCells]
    simp only [Array.toList_map, Array.toList_range, List.getElem?_map, List.getElem?_range hm, Option.map_some]
    have h3 : m % 3 = 0 ∨ m % 3 = 1 ∨ m % 3 = 2 := by omega
    have hs : (#[.int .u64 0, .slice none 0 0, .slice none 0 0] : Array Value).size = 3 := rfl
    rw [hs]
    rcases h3 with h | h | h <;> rw [h] <;> rfl
  · rw [List.getElem?_eq_none (by simp [size_madeCells]; omega), List.getElem?_eq_none (by rw [Va.flat_length, List.length_replicate]; omega)]

/-- A value stored in a row of values. -/
theorem put_at {w : World} {b : Nat} {cs : Array Value} {e : TypeId} {xs zs : List Va} {y : Va} (h : Whole w b cs e) (hf : cs.toList = Va.flat (xs ++ y :: zs)) (v : Va) (i : Nat) (hi : i = xs.length * 3) :
    ∃ cs', Whole (((w.setCell ⟨b, i, none⟩ (.int .u64 v.n)).setCell ⟨b, i + 1, none⟩ (.slice v.B v.bs.length v.d)).setCell ⟨b, i + 2, none⟩ (.slice v.A v.ls.length v.c)) b cs' e ∧ cs'.toList = Va.flat (xs ++ v :: zs) := by
  refine ⟨_, ((h.set i _).set (i + 1) _).set (i + 2) _, ?_⟩
  have e1 : Va.flat (xs ++ y :: zs) = Va.flat xs ++ (y.cells.toList ++ Va.flat zs) := by rw [Va.flat_append]; rfl
  have e2 : Va.flat (xs ++ v :: zs) = Va.flat xs ++ (v.cells.toList ++ Va.flat zs) := by rw [Va.flat_append]; rfl
  have hl : (Va.flat xs).length = i := by rw [Va.flat_length, hi]
  simp only [Array.toList_setIfInBounds, hf, e1, e2]
  rw [List.set_append_right _ _ (by omega), List.set_append_right _ _ (by omega), List.set_append_right _ _ (by omega), hl]
  congr 1
  simp [Va.cells]
end Go.Proofs.Ytdamjbngopfpkaa

