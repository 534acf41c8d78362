/- Forms as trees: what the chapter's words tell of one (depth, open, lengths, what is wrong, the same), and where one lies in memory. -/
import Derived.Test.YtdamjbngopfpkaaFoot
namespace Go.Proofs.Ytdamjbngopfpkaa
open Go.RowKit

theorem Whole.new_at (w : World) (cs : Array Value) (t : TypeId) {p : Nat} (hp : p = w.heap.size) : Whole (w.alloc (.cells cs t)) p cs t := by subst hp; exact Whole.new w cs t

/-- Six cells of a block turned. -/
def put6 (w : World) (q : Nat) (v0 v1 v2 v3 v4 v5 : Value) : World :=
  (((((w.setCell ⟨q, 0, none⟩ v0).setCell ⟨q, 1, none⟩ v1).setCell ⟨q, 2, none⟩ v2).setCell ⟨q, 3, none⟩ v3).setCell ⟨q, 4, none⟩ v4).setCell ⟨q, 5, none⟩ v5
theorem Whole.put6 {w : World} {q : Nat} {a0 a1 a2 a3 a4 a5 : Value} {t : TypeId} (h : Whole w q #[a0, a1, a2, a3, a4, a5] t) (v0 v1 v2 v3 v4 v5 : Value) : Whole (put6 w q v0 v1 v2 v3 v4 v5) q #[v0, v1, v2, v3, v4, v5] t :=
  (((((h.set 0 v0).set 1 v1).set 2 v2).set 3 v3).set 4 v4).set 5 v5
theorem grew_put6 {a w : World} {row : Option Nat} (h : Grew a w row) {q : Nat} (hq : a.heap.size ≤ q) (v0 v1 v2 v3 v4 v5 : Value) : Grew a (put6 w q v0 v1 v2 v3 v4 v5) row :=
  grew_own h (grew_set (grew_set (grew_set (grew_set (grew_set (grew_set (grew_refl w (some q)) _ _ _) _ _ _) _ _ _) _ _ _) _ _ _) _ _ _) hq
theorem fr_put6 (w : World) (q : Nat) (v0 v1 v2 v3 v4 v5 : Value) : Fr w (put6 w q v0 v1 v2 v3 v4 v5) (fun i => i = q) := by
  have hp : ∀ {w' : World} (i : Nat) (u : Value), Fr w w' (fun i => i = q) → Fr w (w'.setCell ⟨q, i, none⟩ u) (fun i => i = q) := fun i u h => h.set (.inl rfl) _ _ _
  exact hp _ _ (hp _ _ (hp _ _ (hp _ _ (hp _ _ (hp _ _ (Fr.refl _ _))))))

/-- A form: its numbers, where its parts lie, its parts. -/
inductive Fo where
  | mk (k s l h t : Int) (A : Option Addr) (c : Nat) (ps : List Fo)

namespace Fo
def k : Fo → Int | mk k _ _ _ _ _ _ _ => k
def s : Fo → Int | mk _ s _ _ _ _ _ _ => s
def l : Fo → Int | mk _ _ l _ _ _ _ _ => l
def h : Fo → Int | mk _ _ _ h _ _ _ _ => h
def t : Fo → Int | mk _ _ _ _ t _ _ _ => t
def A : Fo → Option Addr | mk _ _ _ _ _ A _ _ => A
def c : Fo → Nat | mk _ _ _ _ _ _ c _ => c
def ps : Fo → List Fo | mk _ _ _ _ _ _ _ ps => ps
/-- Its six cells. -/
def cells (f : Fo) : Array Value := #[.int .i64 f.k, .int .i64 f.s, .int .i64 f.l, .int .i64 f.h, .int .i64 f.t, .slice f.A f.ps.length f.c]
def val (f : Fo) : Value := .agg f.cells

theorem ind {P : Fo → Prop} (H : ∀ k s l h t A c ps, (∀ p ∈ ps, P p) → P (mk k s l h t A c ps)) : ∀ f, P f
  | mk k s l h t A c ps => H k s l h t A c ps (fun p _ => ind H p)
termination_by f => SizeOf.sizeOf f
decreasing_by
  have := List.sizeOf_lt_of_mem ‹_›
  simp
  omega

/-- The slice at A holds the forms (of none nothing is asked). -/
def Lie (w : World) (A : Option Addr) (ps : List Fo) : Prop :=
  0 < ps.length → ∃ b o, A = some ⟨b, o, none⟩ ∧ ∀ (i : Nat) (p : Fo), ps[i]? = some p → ∀ (j : Nat) (v : Value), p.cells[j]? = some v → w.cell? ⟨b, o + i * 6 + j, none⟩ = some v
theorem Lie.grew {w w' : World} {A : Option Addr} {ps : List Fo} (h : Lie w A ps) (g : Grew w w' none) : Lie w' A ps := by
  intro hn
  obtain ⟨b, o, e, hcell⟩ := h hn
  exact ⟨b, o, e, fun i p hi j v hv => g.cell (hcell i p hi j v hv) (by simp)⟩
theorem Lie.fr {w w' : World} {F : Nat → Prop} {A : Option Addr} {ps : List Fo} (h : Lie w A ps) (g : Fr w w' F) (hF : ∀ a, A = some a → ¬ F a.block) : Lie w' A ps := by
  intro hn
  obtain ⟨b, o, e, hcell⟩ := h hn
  exact ⟨b, o, e, fun i p hi j v hv => g.cell (hcell i p hi j v hv) (hF ⟨b, o, none⟩ e)⟩
theorem Lie.take {w : World} {A : Option Addr} {ps : List Fo} (h : Lie w A ps) (n : Nat) : Lie w A (ps.take n) := by
  intro hn
  have hl : (ps.take n).length ≤ ps.length := List.length_take_le' _ _
  obtain ⟨b, o, e, hcell⟩ := h (by omega)
  refine ⟨b, o, e, fun i p hi j v hv => hcell i p ?_ j v hv⟩
  rw [List.getElem?_take] at hi
  split at hi
  · exact hi
  · cases hi
/-- The cells of forms, one behind the other. -/
def flat (ps : List Fo) : List Value := ps.flatMap (fun p => p.cells.toList)
theorem flat_length (ps : List Fo) : (flat ps).length = ps.length * 6 := by
  induction ps with
  | nil => rfl
  | cons p ps ih =>
    have : flat (p :: ps) = p.cells.toList ++ flat ps := rfl
    rw [this, List.length_append, ih]; simp [cells]; omega
theorem flat_append (ps qs : List Fo) : flat (ps ++ qs) = flat ps ++ flat qs := by simp [flat]
theorem flat_at {ps : List Fo} {i : Nat} {p : Fo} (h : ps[i]? = some p) {j : Nat} {v : Value} (hv : p.cells[j]? = some v) : (flat ps)[i * 6 + j]? = some v := by
  have hj : j < 6 := by
    rcases Nat.lt_or_ge j 6 with h | h
    · exact h
    · rw [Array.getElem?_eq_none (by simpa [cells] using h)] at hv; cases hv
  induction ps generalizing i with
  | nil => simp at h
  | cons q ps ih =>
    have hq : flat (q :: ps) = q.cells.toList ++ flat ps := rfl
    have hl : q.cells.toList.length = 6 := by simp [cells]
    rw [hq]
    cases i with
    | zero =>
      simp at h
      subst h
      rw [List.getElem?_append_left (by omega)]
      simpa using hv
    | succ i =>
      rw [List.getElem?_append_right (by omega), hl]
      have : (i + 1) * 6 + j - 6 = i * 6 + j := by omega
      rw [this]
      exact ih (by simpa using h)
theorem flat_lt {ps : List Fo} {m : Nat} (h : m < (flat ps).length) : ∃ p, ps[m / 6]? = some p ∧ p.cells[m % 6]? = (flat ps)[m]? := by
  rw [flat_length] at h
  have hi : m / 6 < ps.length := by omega
  have hp : ps[m / 6]? = some ps[m / 6] := List.getElem?_eq_getElem hi
  refine ⟨ps[m / 6], hp, ?_⟩
  have hj : m % 6 < (ps[m / 6]).cells.size := by simp [cells]; omega
  rw [Array.getElem?_eq_getElem hj]
  have := flat_at hp (Array.getElem?_eq_getElem hj)
  rw [← this]
  congr 1
  omega
theorem flat_one (ps : List Fo) : ∀ v ∈ flat ps, v.oneCell' = true := by
  intro v hv
  obtain ⟨p, _, hp⟩ := List.mem_flatMap.1 hv
  simp [cells] at hp
  rcases hp with rfl | rfl | rfl | rfl | rfl | rfl <;> rfl
/-- An owned row of forms. -/
theorem Lie.of_own {w : World} {e : TypeId} {v : Value} {n : Nat} {ps : List Fo} (h : w.ownsRow 0 e 6 v n (flat ps)) : ∃ A c, v = .slice A ps.length c ∧ ps.length ≤ c ∧ Lie w A ps := by
  have hl := h.1
  rw [flat_length] at hl
  have hn : n = ps.length := by omega
  subst hn
  rcases h.2 with ⟨rfl, h0⟩ | ⟨b, cap, cur, rfl, _, hh, hnc, _, hsz, ht⟩
  · exact ⟨none, 0, by rw [h0], by omega, fun h => by omega⟩
  · refine ⟨_, _, rfl, hnc, fun _ => ⟨b, 0, rfl, fun i p hi j v hv => ?_⟩⟩
    have hW : Whole w b cur e := hh
    have hil : i < ps.length := by
      rcases Nat.lt_or_ge i ps.length with h | h
      · exact h
      · rw [List.getElem?_eq_none h] at hi; cases hi
    have hj : j < 6 := by
      rcases Nat.lt_or_ge j 6 with h | h
      · exact h
      · rw [Array.getElem?_eq_none (by simpa [cells] using h)] at hv; cases hv
    have hf := flat_at hi hv
    rw [← ht, List.getElem?_take_of_lt (by omega)] at hf
    rw [hW.cell, Nat.zero_add, ← Array.getElem?_toList]
    exact hf

/-- A block of forms. -/
theorem Lie.whole {w : World} {b : Nat} {cs : Array Value} {e : TypeId} {ps : List Fo} (h : Whole w b cs e) (hf : cs.toList = flat ps) : Lie w (some ⟨b, 0, none⟩) ps := by
  refine fun _ => ⟨b, 0, rfl, fun i p hi j v hv => ?_⟩
  rw [h.cell, Nat.zero_add, ← Array.getElem?_toList, hf]
  exact flat_at hi hv
theorem Lie.nil (w : World) (A : Option Addr) : Lie w A [] := fun h => by simp at h

/-- Where its parts lie in memory. -/
inductive In (w : World) : Fo → Prop
  | mk {k s l h t : Int} {A : Option Addr} {c : Nat} {ps : List Fo} (hc : ps.length ≤ c) (hz : ps.length ≤ 2199023255552) (ha : Lie w A ps) (hp : ∀ p ∈ ps, In w p) : In w (.mk k s l h t A c ps)

theorem In.grew {w w' : World} {f : Fo} (h : In w f) (g : Grew w w' none) : In w' f := by
  induction h with
  | mk hc hz ha _ ih =>
    exact .mk hc hz (ha.grew g) ih

/-- None of its parts lies in a block of F. -/
inductive Off (F : Nat → Prop) : Fo → Prop
  | mk {k s l h t : Int} {A : Option Addr} {c : Nat} {ps : List Fo} (ha : ∀ a, A = some a → ¬ F a.block) (hp : ∀ p ∈ ps, Off F p) : Off F (.mk k s l h t A c ps)
theorem In.fr {w w' : World} {F : Nat → Prop} {f : Fo} (h : In w f) (g : Fr w w' F) (ho : Off F f) : In w' f := by
  induction h with
  | mk hc hz ha _ ih =>
    cases ho with
    | mk h1 h2 => exact .mk hc hz (ha.fr g h1) (fun p hp => ih p hp (h2 p hp))

theorem In.parts {w : World} {f : Fo} (h : In w f) : ∀ p ∈ f.ps, In w p := by
  cases h with
  | mk _ _ _ hp => exact hp

/-- The cells of a form that lies. -/
theorem Lie.at {w : World} {A : Option Addr} {ps : List Fo} (H : Lie w A ps) {i : Nat} (hi : i < ps.length) :
    ∃ b o p, A = some ⟨b, o, none⟩ ∧ ps[i]? = some p ∧ p ∈ ps ∧ w.cell? ⟨b, o + i * 6, none⟩ = some (.int .i64 p.k) ∧ w.cell? ⟨b, o + i * 6 + 1, none⟩ = some (.int .i64 p.s) ∧
      w.cell? ⟨b, o + i * 6 + 2, none⟩ = some (.int .i64 p.l) ∧ w.cell? ⟨b, o + i * 6 + 3, none⟩ = some (.int .i64 p.h) ∧ w.cell? ⟨b, o + i * 6 + 4, none⟩ = some (.int .i64 p.t) ∧
      w.cell? ⟨b, o + i * 6 + 5, none⟩ = some (.slice p.A p.ps.length p.c) := by
  obtain ⟨b, o, e, hcell⟩ := H (by omega)
  have he : ps[i]? = some ps[i] := List.getElem?_eq_getElem hi
  have hm : ps[i] ∈ ps := List.getElem_mem hi
  exact ⟨b, o, ps[i], e, he, hm, hcell i _ he 0 _ rfl, hcell i _ he 1 _ rfl, hcell i _ he 2 _ rfl, hcell i _ he 3 _ rfl, hcell i _ he 4 _ rfl, hcell i _ he 5 _ rfl⟩

/-- The cells of a part. -/
theorem In.at {w : World} {k s l h t : Int} {A : Option Addr} {c : Nat} {ps : List Fo} (H : In w (.mk k s l h t A c ps)) {i : Nat} (hi : i < ps.length) :
    ∃ b o p, A = some ⟨b, o, none⟩ ∧ ps[i]? = some p ∧ p ∈ ps ∧ In w p ∧ w.cell? ⟨b, o + i * 6, none⟩ = some (.int .i64 p.k) ∧ w.cell? ⟨b, o + i * 6 + 1, none⟩ = some (.int .i64 p.s) ∧
      w.cell? ⟨b, o + i * 6 + 2, none⟩ = some (.int .i64 p.l) ∧ w.cell? ⟨b, o + i * 6 + 3, none⟩ = some (.int .i64 p.h) ∧ w.cell? ⟨b, o + i * 6 + 4, none⟩ = some (.int .i64 p.t) ∧
      w.cell? ⟨b, o + i * 6 + 5, none⟩ = some (.slice p.A p.ps.length p.c) := by
  cases H with
  | mk hc hz ha hp =>
    obtain ⟨b, o, e, hcell⟩ := ha (by omega)
    have he : ps[i]? = some ps[i] := List.getElem?_eq_getElem hi
    have hm : ps[i] ∈ ps := List.getElem_mem hi
    exact ⟨b, o, ps[i], e, he, hm, hp _ hm, hcell i _ he 0 _ rfl, hcell i _ he 1 _ rfl, hcell i _ he 2 _ rfl, hcell i _ he 3 _ rfl, hcell i _ he 4 _ rfl, hcell i _ he 5 _ rfl⟩

/-- The parts that play a part. -/
def inn : Fo → List Fo | mk k _ _ _ _ _ _ ps => if k = 2 ∨ k = 3 then ps else []
def innV : Fo → Value | mk k _ _ _ _ A c ps => if k = 2 ∨ k = 3 then .slice A ps.length c else .slice none 0 0

theorem In.inner {w : World} {k s l h t : Int} {A : Option Addr} {c : Nat} {ps : List Fo} (H : In w (.mk k s l h t A c ps)) :
    ∃ A' c' qs, innV (.mk k s l h t A c ps) = .slice A' qs.length c' ∧ inn (.mk k s l h t A c ps) = qs ∧ qs.length ≤ 2199023255552 ∧ Lie w A' qs ∧ (∀ q ∈ qs, q ∈ ps ∧ In w q) := by
  cases H with
  | mk hc hz ha hp =>
    by_cases hk : k = 2 ∨ k = 3
    · exact ⟨A, c, ps, by rw [innV, if_pos hk], by rw [inn, if_pos hk], hz, ha, fun q hq => ⟨hq, hp q hq⟩⟩
    · exact ⟨none, 0, [], by rw [innV, if_neg hk]; rfl, by rw [inn, if_neg hk], by simp, fun h => by simp at h, fun q hq => by simp at hq⟩

mutual
/-- Depth. -/
def dep : Fo → Nat
  | mk k _ _ _ _ _ _ ps => if k = 2 ∨ k = 3 then deps ps + 1 else 1
def deps : List Fo → Nat
  | [] => 0
  | p :: ps => max (dep p) (deps ps)
end

mutual
/-- How many there are. -/
def cnt : Fo → Nat
  | mk k _ _ _ _ _ _ ps => if k = 2 ∨ k = 3 then cnts ps + 1 else 1
def cnts : List Fo → Nat
  | [] => 0
  | p :: ps => cnt p + cnts ps
end

mutual
/-- Open. -/
def opn : Fo → Bool
  | mk k _ _ _ _ _ _ ps => if k = 3 ∧ 0 < ps.length then opnL ps else decide (k = 4)
def opnL : List Fo → Bool
  | [] => false
  | p :: ps => if ps.length = 0 then opn p else opnL ps
end

/-- A sum, as Go has it. -/
def plus (a b : Int) : Int := wrap64 (a + b)

mutual
/-- The least length, or the greatest. -/
def len (b : Bool) : Fo → Int
  | mk k s l h _ _ _ ps => if k = 0 then s else if k = 1 ∨ k = 2 then plus s (if b then h else l) else if k = 3 then lens b 0 ps else if k = 4 then (if b then h else l) else l
def lens (b : Bool) : Int → List Fo → Int
  | a, [] => a
  | a, p :: ps => lens b (plus a (len b p)) ps
end

/-- What is wrong with a form itself. -/
def alone (k s l h t : Int) (n : Nat) : Int :=
  if k = 0 then (if s = 1 ∨ s = 2 ∨ s = 3 ∨ s = 4 ∨ s = 8 then 0 else 3)
  else if k = 4 then (if 0 ≤ l ∧ l ≤ h ∧ h ≤ 16777215 then 0 else 5)
  else if k = 5 then (if 0 ≤ l ∧ l ≤ 16777215 then 0 else 5)
  else if k = 1 ∨ k = 2 then (if 1 ≤ s ∧ s ≤ 3 then (if 0 ≤ l ∧ l ≤ h ∧ h ≤ 256 ^ s.toNat - 1 ∧ 1 ≤ t ∧ t ≤ 65536 then (if k = 2 ∧ n ≠ 1 then 15 else 0) else 5) else 3)
  else if k = 3 then (if n ≤ 32 then 0 else 15)
  else 2

/-- Parts where they may not stand. -/
def mis (k : Int) (ps : List Fo) : Bool :=
  if k = 2 then ps.any (fun p => p.opn || decide (p.len false = 0)) else if k = 3 then ps.dropLast.any opn else false

mutual
/-- What is wrong with a form, its depth apart. -/
def wrg : Fo → Int
  | mk k s l h t _ _ ps => if alone k s l h t ps.length ≠ 0 then alone k s l h t ps.length else if (if k = 2 ∨ k = 3 then wrgs ps else 0) ≠ 0 then wrgs ps else if mis k ps then 15 else 0
def wrgs : List Fo → Int
  | [] => 0
  | p :: ps => if wrg p ≠ 0 then wrg p else wrgs ps
end

/-- What Check tells. -/
def chk (f : Fo) : Int := if 8 < f.dep then 14 else f.wrg

/-- The same, but that of parts only their number is asked. -/
def al : Fo → Fo → Bool
  | mk k s l h t _ _ ps, mk k' s' l' h' t' _ _ ps' =>
    decide (k = k') && (if k = 2 ∨ k = 3 then decide (ps.length = ps'.length) else true) &&
    (if k = 0 then decide (s = s') else if k = 1 ∨ k = 2 then decide (s = s') && decide (l = l') && decide (h = h') && decide (t = t')
     else if k = 4 then decide (l = l') && decide (h = h') else if k = 5 then decide (l = l') else true)

mutual
/-- The same. -/
def same : Fo → Fo → Bool
  | mk k s l h t A c ps, g => al (mk k s l h t A c ps) g && (if k = 2 ∨ k = 3 then sames ps g.ps else true)
def sames : List Fo → List Fo → Bool
  | [], _ => true
  | _ :: _, [] => true
  | p :: ps, q :: qs => same p q && sames ps qs
end

theorem deps_append (xs ys : List Fo) : deps (xs ++ ys) = max (deps xs) (deps ys) := by
  induction xs with
  | nil => simp [deps]
  | cons x xs ih => simp only [List.cons_append, deps, ih]; omega
theorem deps_le {ps : List Fo} {m : Nat} : deps ps ≤ m ↔ ∀ p ∈ ps, dep p ≤ m := by
  induction ps with
  | nil => simp [deps]
  | cons x xs ih => simp [deps, ← ih]; omega
theorem cnts_append (xs ys : List Fo) : cnts (xs ++ ys) = cnts xs + cnts ys := by
  induction xs with
  | nil => simp [cnts]
  | cons x xs ih => simp [cnts, ih]; omega
theorem deps_take {qs : List Fo} {n : Nat} {p : Fo} (h : qs[n]? = some p) : deps (qs.take (n + 1)) = max (deps (qs.take n)) (dep p) := by
  rw [List.take_add_one, h, deps_append]; simp [deps]
theorem cnts_take {qs : List Fo} {n : Nat} {p : Fo} (h : qs[n]? = some p) : cnts (qs.take (n + 1)) = cnts (qs.take n) + cnt p := by
  rw [List.take_add_one, h, cnts_append]; simp [cnts]
theorem cnts_take_le (qs : List Fo) (n : Nat) : cnts (qs.take n) ≤ cnts qs := by
  have := cnts_append (qs.take n) (qs.drop n)
  rw [List.take_append_drop] at this
  omega
theorem dep_pos (f : Fo) : 1 ≤ f.dep := by
  cases f; simp only [dep]; split <;> omega
theorem cnt_pos (f : Fo) : 1 ≤ f.cnt := by
  cases f; simp only [cnt]; split <;> omega
theorem dep_inn (f : Fo) : f.dep = deps f.inn + 1 := by
  cases f; simp only [dep, inn]; split
  · rfl
  · simp only [deps]
theorem cnt_inn (f : Fo) : f.cnt = cnts f.inn + 1 := by
  cases f; simp only [cnt, inn]; split
  · rfl
  · simp only [cnts]
theorem opnL_last (ps : List Fo) (h : ps ≠ []) : opnL ps = opn (ps.getLast h) := by
  induction ps with
  | nil => exact absurd rfl h
  | cons x xs ih =>
    cases xs with
    | nil => simp [opnL]
    | cons y ys => simp only [opnL, List.length_cons]; rw [if_neg (by omega), List.getLast_cons (by simp)]; exact ih (by simp)
theorem take_succ' {ps : List Fo} {i : Nat} {p : Fo} (h : ps[i]? = some p) : ps.take (i + 1) = ps.take i ++ [p] := by
  rw [List.take_add_one, h]; rfl
theorem drop_at {ps : List Fo} {i : Nat} {p : Fo} (h : ps[i]? = some p) : ps.drop i = p :: ps.drop (i + 1) := by
  obtain ⟨hi, rfl⟩ := List.getElem?_eq_some_iff.1 h
  exact List.drop_eq_getElem_cons hi

end Fo
end Go.Proofs.Ytdamjbngopfpkaa

