/- Values: a tree, with where its bytes and its list lie; what the chapter's words tell of it. -/
import Derived.Test.YtdamjbngopfpkaaFo
namespace Go.Proofs.Ytdamjbngopfpkaa
open Go.RowKit

/-- A value: its number, where its bytes lie, its bytes, where its list lies, its list. -/
inductive Va where
  | mk (n : Int) (B : Option Addr) (d : Nat) (bs : List UInt8) (A : Option Addr) (c : Nat) (ls : List Va)

namespace Va
def n : Va → Int | mk n _ _ _ _ _ _ => n
def B : Va → Option Addr | mk _ B _ _ _ _ _ => B
def d : Va → Nat | mk _ _ d _ _ _ _ => d
def bs : Va → List UInt8 | mk _ _ _ bs _ _ _ => bs
def A : Va → Option Addr | mk _ _ _ _ A _ _ => A
def c : Va → Nat | mk _ _ _ _ _ c _ => c
def ls : Va → List Va | mk _ _ _ _ _ _ ls => ls
/-- Its three cells. -/
def cells (v : Va) : Array Value := #[.int .u64 v.n, .slice v.B v.bs.length v.d, .slice v.A v.ls.length v.c]
def val (v : Va) : Value := .agg v.cells

theorem ind {P : Va → Prop} (H : ∀ n B d bs A c ls, (∀ p ∈ ls, P p) → P (mk n B d bs A c ls)) : ∀ v, P v
  | mk n B d bs A c ls => H n B d bs A c ls (fun p _ => ind H p)
termination_by v => SizeOf.sizeOf v
decreasing_by
  have := List.sizeOf_lt_of_mem ‹_›
  simp
  omega

/-- The slice at A holds the values (of none nothing is asked). -/
def Lie (w : World) (A : Option Addr) (ps : List Va) : Prop :=
  0 < ps.length → ∃ b o, A = some ⟨b, o, none⟩ ∧ ∀ (i : Nat) (p : Va), ps[i]? = some p → ∀ (j : Nat) (v : Value), p.cells[j]? = some v → w.cell? ⟨b, o + i * 3 + j, none⟩ = some v
theorem Lie.grew {w w' : World} {A : Option Addr} {ps : List Va} (h : Lie w A ps) (g : Grew w w' none) : Lie w' A ps := by
  intro hn
  obtain ⟨b, o, e, hcell⟩ := h hn
  exact ⟨b, o, e, fun i p hi j v hv => g.cell (hcell i p hi j v hv) (by simp)⟩
theorem Lie.fr {w w' : World} {F : Nat → Prop} {A : Option Addr} {ps : List Va} (h : Lie w A ps) (g : Fr w w' F) (hF : ∀ a, A = some a → ¬ F a.block) : Lie w' A ps := by
  intro hn
  obtain ⟨b, o, e, hcell⟩ := h hn
  exact ⟨b, o, e, fun i p hi j v hv => g.cell (hcell i p hi j v hv) (hF ⟨b, o, none⟩ e)⟩
theorem Lie.take {w : World} {A : Option Addr} {ps : List Va} (h : Lie w A ps) (n : Nat) : Lie w A (ps.take n) := by
  intro hn
  have hl : (ps.take n).length ≤ ps.length := List.length_take_le' _ _
  obtain ⟨b, o, e, hcell⟩ := h (by omega)
  refine ⟨b, o, e, fun i p hi j v hv => hcell i p ?_ j v hv⟩
  rw [List.getElem?_take] at hi
  split at hi
  · exact hi
  · cases hi
/-- The cells of values, one behind the other. -/
def flat (ps : List Va) : List Value := ps.flatMap (fun p => p.cells.toList)
theorem flat_length (ps : List Va) : (flat ps).length = ps.length * 3 := by
  induction ps with
  | nil => rfl
  | cons p ps ih =>
    have : flat (p :: ps) = p.cells.toList ++ flat ps := rfl
    rw [this, List.length_append, ih]; simp [cells]; omega
theorem flat_append (ps qs : List Va) : flat (ps ++ qs) = flat ps ++ flat qs := by simp [flat]
theorem flat_at {ps : List Va} {i : Nat} {p : Va} (h : ps[i]? = some p) {j : Nat} {v : Value} (hv : p.cells[j]? = some v) : (flat ps)[i * 3 + j]? = some v := by
  have hj : j < 3 := by
    rcases Nat.lt_or_ge j 3 with h | h
    · exact h
    · rw [Array.getElem?_eq_none (by simpa [cells] using h)] at hv; cases hv
  induction ps generalizing i with
  | nil => simp at h
  | cons q ps ih =>
    have hq : flat (q :: ps) = q.cells.toList ++ flat ps := rfl
    have hl : q.cells.toList.length = 3 := by simp [cells]
    rw [hq]
    cases i with
    | zero =>
      simp at h
      subst h
      rw [List.getElem?_append_left (by omega)]
      simpa using hv
    | succ i =>
      rw [List.getElem?_append_right (by omega), hl]
      have : (i + 1) * 3 + j - 3 = i * 3 + j := by omega
      rw [this]
      exact ih (by simpa using h)
theorem flat_lt {ps : List Va} {m : Nat} (h : m < (flat ps).length) : ∃ p, ps[m / 3]? = some p ∧ p.cells[m % 3]? = (flat ps)[m]? := by
  rw [flat_length] at h
  have hi : m / 3 < ps.length := by omega
  have hp : ps[m / 3]? = some ps[m / 3] := List.getElem?_eq_getElem hi
  refine ⟨ps[m / 3], hp, ?_⟩
  have hj : m % 3 < (ps[m / 3]).cells.size := by simp [cells]; omega
  rw [Array.getElem?_eq_getElem hj]
  have := flat_at hp (Array.getElem?_eq_getElem hj)
  rw [← this]
  congr 1
  omega
theorem flat_one (ps : List Va) : ∀ v ∈ flat ps, v.oneCell' = true := by
  intro v hv
  obtain ⟨p, _, hp⟩ := List.mem_flatMap.1 hv
  simp [cells] at hp
  rcases hp with rfl | rfl | rfl <;> rfl
/-- An owned row of values. -/
theorem Lie.of_own {w : World} {e : TypeId} {v : Value} {n : Nat} {ps : List Va} (h : w.ownsRow 0 e 3 v n (flat ps)) : ∃ A c, v = .slice A ps.length c ∧ ps.length ≤ c ∧ Lie w A ps := by
  have hl := h.1
  rw [flat_length] at hl
  have hn : n = ps.length := by omega
  subst hn
  rcases h.2 with ⟨rfl, h0⟩ | ⟨b, cap, cur, rfl, _, hh, hnc, _, hsz, ht⟩
  · exact ⟨none, 0, by rw [h0], by omega, fun h => by omega⟩
  · refine ⟨_, _, rfl, hnc, fun _ => ⟨b, 0, rfl, fun i p hi j v hv => ?_⟩⟩
    have hW : Whole w b cur e := hh
    have hil : i < ps.length := by
      rcases Nat.lt_or_ge i ps.length with h | h
      · exact h
      · rw [List.getElem?_eq_none h] at hi; cases hi
    have hj : j < 3 := by
      rcases Nat.lt_or_ge j 3 with h | h
      · exact h
      · rw [Array.getElem?_eq_none (by simpa [cells] using h)] at hv; cases hv
    have hf := flat_at hi hv
    rw [← ht, List.getElem?_take_of_lt (by omega)] at hf
    rw [hW.cell, Nat.zero_add, ← Array.getElem?_toList]
    exact hf
/-- A block of values. -/
theorem Lie.whole {w : World} {b : Nat} {cs : Array Value} {e : TypeId} {ps : List Va} (h : Whole w b cs e) (hf : cs.toList = flat ps) : Lie w (some ⟨b, 0, none⟩) ps := by
  refine fun _ => ⟨b, 0, rfl, fun i p hi j v hv => ?_⟩
  rw [h.cell, Nat.zero_add, ← Array.getElem?_toList, hf]
  exact flat_at hi hv
theorem Lie.nil (w : World) (A : Option Addr) : Lie w A [] := fun h => by simp at h

/-- Where its bytes and its list lie in memory. -/
inductive In (w : World) : Va → Prop
  | mk {n : Int} {B : Option Addr} {d : Nat} {bs : List UInt8} {A : Option Addr} {c : Nat} {ls : List Va} (hn : 0 ≤ n ∧ n ≤ 18446744073709551615) (hb : Byt w w.heap.size B bs) (hd : bs.length ≤ d ∧ bs.length ≤ 140737488355328)
      (hc : ls.length ≤ c) (hz : ls.length ≤ 2513169434916) (ha : Lie w A ls) (hp : ∀ p ∈ ls, In w p) : In w (.mk n B d bs A c ls)

theorem In.grew {w w' : World} {v : Va} (h : In w v) (g : Grew w w' none) : In w' v := by
  induction h with
  | mk hn hb hd hc hz ha _ ih =>
    exact .mk hn ((hb.grew g (fun _ h => by cases h)).more g.size) hd hc hz (ha.grew g) ih
theorem In.parts {w : World} {v : Va} (h : In w v) : ∀ p ∈ v.ls, In w p := by
  cases h with
  | mk _ _ _ _ _ _ hp => exact hp
theorem In.num {w : World} {v : Va} (h : In w v) : 0 ≤ v.n ∧ v.n ≤ 18446744073709551615 := by
  cases h with
  | mk hn _ _ _ _ _ _ => exact hn
theorem In.bytes {w : World} {v : Va} (h : In w v) : Byt w w.heap.size v.B v.bs ∧ v.bs.length ≤ v.d ∧ v.bs.length ≤ 140737488355328 := by
  cases h with
  | mk _ hb hd _ _ _ _ => exact ⟨hb, hd⟩
theorem In.list {w : World} {v : Va} (h : In w v) : Lie w v.A v.ls ∧ v.ls.length ≤ v.c ∧ v.ls.length ≤ 2513169434916 := by
  cases h with
  | mk _ _ _ hc hz ha _ => exact ⟨ha, hc, hz⟩

/-- The cells of a value that lies. -/
theorem Lie.at {w : World} {A : Option Addr} {ps : List Va} (H : Lie w A ps) {i : Nat} (hi : i < ps.length) :
    ∃ b o p, A = some ⟨b, o, none⟩ ∧ ps[i]? = some p ∧ p ∈ ps ∧ w.cell? ⟨b, o + i * 3, none⟩ = some (.int .u64 p.n) ∧ w.cell? ⟨b, o + i * 3 + 1, none⟩ = some (.slice p.B p.bs.length p.d) ∧
      w.cell? ⟨b, o + i * 3 + 2, none⟩ = some (.slice p.A p.ls.length p.c) := by
  obtain ⟨b, o, e, hcell⟩ := H (by omega)
  have he : ps[i]? = some ps[i] := List.getElem?_eq_getElem hi
  have hm : ps[i] ∈ ps := List.getElem_mem hi
  exact ⟨b, o, ps[i], e, he, hm, hcell i _ he 0 _ rfl, hcell i _ he 1 _ rfl, hcell i _ he 2 _ rfl⟩

mutual
/-- How many there are. -/
def cnt : Va → Nat
  | mk _ _ _ _ _ _ ls => cnts ls + 1
def cnts : List Va → Nat
  | [] => 0
  | p :: ps => cnt p + cnts ps
end
mutual
/-- How many bytes there are in all. -/
def byt : Va → Nat
  | mk _ _ _ bs _ _ ls => bs.length + byts ls
def byts : List Va → Nat
  | [] => 0
  | p :: ps => byt p + byts ps
end
mutual
/-- The same. -/
def same : Va → Va → Bool
  | mk n _ _ bs _ _ ls, u => decide (n = u.n) && decide (bs = u.bs) && decide (ls.length = u.ls.length) && sames ls u.ls
def sames : List Va → List Va → Bool
  | [], _ => true
  | _ :: _, [] => true
  | p :: ps, q :: qs => same p q && sames ps qs
end

theorem cnts_append (xs ys : List Va) : cnts (xs ++ ys) = cnts xs + cnts ys := by
  induction xs with
  | nil => simp [cnts]
  | cons x xs ih => simp [cnts, ih]; omega
theorem cnts_take {qs : List Va} {n : Nat} {p : Va} (h : qs[n]? = some p) : cnts (qs.take (n + 1)) = cnts (qs.take n) + cnt p := by
  rw [List.take_add_one, h, cnts_append]; simp [cnts]
theorem cnts_take_le (qs : List Va) (n : Nat) : cnts (qs.take n) ≤ cnts qs := by
  have := cnts_append (qs.take n) (qs.drop n)
  rw [List.take_append_drop] at this
  omega
theorem byts_append (xs ys : List Va) : byts (xs ++ ys) = byts xs + byts ys := by
  induction xs with
  | nil => simp [byts]
  | cons x xs ih => simp [byts, ih]; omega
theorem byts_take {qs : List Va} {n : Nat} {p : Va} (h : qs[n]? = some p) : byts (qs.take (n + 1)) = byts (qs.take n) + byt p := by
  rw [List.take_add_one, h, byts_append]; simp [byts]
theorem byts_take_le (qs : List Va) (n : Nat) : byts (qs.take n) ≤ byts qs := by
  have := byts_append (qs.take n) (qs.drop n)
  rw [List.take_append_drop] at this
  omega
theorem cnt_pos (v : Va) : 1 ≤ v.cnt := by
  cases v; simp only [cnt]; omega
theorem take_succ' {ps : List Va} {i : Nat} {p : Va} (h : ps[i]? = some p) : ps.take (i + 1) = ps.take i ++ [p] := by
  rw [List.take_add_one, h]; rfl
theorem drop_at {ps : List Va} {i : Nat} {p : Va} (h : ps[i]? = some p) : ps.drop i = p :: ps.drop (i + 1) := by
  obtain ⟨hi, rfl⟩ := List.getElem?_eq_some_iff.1 h
  exact List.drop_eq_getElem_cons hi

/-- Of answers (a size, an error) the sum, or the first error. -/
def tot : Int → List (Int × Int) → Int × Int
  | a, [] => (a, 0)
  | a, r :: rs => if r.2 = 0 then tot (Fo.plus a r.1) rs else (0, r.2)
/-- A length and so many bytes. -/
def wl (s l h t n : Int) : Int × Int := if l ≤ n ∧ n ≤ h ∧ n % t = 0 then (Fo.plus s n, 0) else (0, 5)
/-- Which field a kind's is. -/
def own (k : Int) : Nat := if k = 0 then 0 else if k = 2 ∨ k = 3 then 2 else 1
/-- Is a field neither 0 nor empty? -/
def fil (v : Va) (o : Nat) : Bool := if o = 0 then decide (v.n ≠ 0) else if o = 1 then decide (0 < v.bs.length) else decide (0 < v.ls.length)
/-- Is no other field filled? -/
def lonB (v : Va) (o : Nat) : Bool := (o == 0 || !fil v 0) && (o == 1 || !fil v 1) && (o == 2 || !fil v 2)
/-- Each of a list by the one form. -/
def each : List (Va → Int × Int) → List Va → List (Int × Int)
  | [], _ => []
  | g :: _, vs => vs.map g
/-- Each of a row by its own. -/
def pair : List (Va → Int × Int) → List Va → List (Int × Int)
  | g :: gs, v :: vs => g v :: pair gs vs
  | _, _ => []
/-- A list behind its length. -/
def behind (s l h t : Int) (r : Int × Int) : Int × Int := if r.2 = 0 then wl s l h t r.1 else (0, r.2)
/-- Of so many bytes. -/
def fitB (k s l h t : Int) (n : Nat) : Int × Int :=
  if k = 1 then wl s l h t n else if k = 4 then (if l ≤ n ∧ (n : Int) ≤ h then ((n : Int), 0) else (0, 5)) else (if (n : Int) = l then ((n : Int), 0) else (0, 5))

mutual
/-- The size of a value of a right form, or why it doesn't fit. -/
def fit : Fo → Va → Int × Int
  | .mk k s l h t _ _ ps, v =>
    if lonB v (own k) = false then (0, 15)
    else if k = 0 then (if v.n < 256 ^ s.toNat then (s, 0) else (0, 3))
    else if k = 2 then behind s l h t (tot 0 (each (fits ps) v.ls))
    else if k = 3 then (if v.ls.length = ps.length then tot 0 (pair (fits ps) v.ls) else (0, 15))
    else fitB k s l h t v.bs.length
def fits : List Fo → List (Va → Int × Int)
  | [] => []
  | p :: ps => fit p :: fits ps
end
/-- What a value's size is, and why it doesn't fit. -/
def meas (f : Fo) (v : Va) : Int × Int := if f.chk = 0 then fit f v else (0, f.chk)

theorem fits_map (ps : List Fo) : fits ps = ps.map fit := by
  induction ps with
  | nil => rfl
  | cons p ps ih => rw [fits, ih]; rfl
theorem pair_at {ps : List Fo} {vs : List Va} {i : Nat} {p : Fo} {v : Va} (hp : ps[i]? = some p) (hv : vs[i]? = some v) : (pair (fits ps) vs)[i]? = some (fit p v) := by
  induction ps generalizing vs i with
  | nil => simp at hp
  | cons q ps ih =>
    cases vs with
    | nil => simp at hv
    | cons u vs =>
      rw [fits, pair]
      cases i with
      | zero => simp at hp hv; subst hp hv; rfl
      | succ i => simp at hp hv ⊢; exact ih hp hv
theorem pair_length {ps : List Fo} {vs : List Va} (h : vs.length = ps.length) : (pair (fits ps) vs).length = ps.length := by
  induction ps generalizing vs with
  | nil => rfl
  | cons q ps ih =>
    cases vs with
    | nil => simp at h
    | cons u vs => rw [fits, pair]; simp at h ⊢; exact ih h
theorem dropL {α : Type} {xs : List α} {i : Nat} {x : α} (h : xs[i]? = some x) : xs.drop i = x :: xs.drop (i + 1) := by
  obtain ⟨hi, rfl⟩ := List.getElem?_eq_some_iff.1 h
  exact List.drop_eq_getElem_cons hi
end Va
end Go.Proofs.Ytdamjbngopfpkaa

