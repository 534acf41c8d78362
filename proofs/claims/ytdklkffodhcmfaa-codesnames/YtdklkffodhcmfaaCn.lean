/- The name of a code, the code of a name: as the program tells them. -/
import Derived.Test.YtdklkffodhcmfaaCi
import Derived.RangeFuncFrom
import Derived.Laws.Strings
namespace Go.Proofs.Ytdklkffodhcmfaa
open Go.RowKit Go.Shelf
attribute [local go_sem] Oper.semAt_some

theorem whole_alloc {w : World} {p : Nat} {cs : Array Value} {t : TypeId} (h : Whole w p cs t) (o : Obj) : Whole (w.alloc o) p cs t := h.grew (grew_alloc (grew_refl w none) o) (by simp)
/-- A block of cells stands where what turned is no cells. -/
theorem whole_kept {A B : World} {row : Option Nat} {p : Nat} {cs : Array Value} {t : TypeId} (h : Whole A p cs t) (hg : A.grownBy B row) (hr : ∀ r, row = some r → ∃ o : Obj, A.heap[r]? = some o ∧ o.isCells = false) : Whole B p cs t :=
  h.grew hg (fun e => by obtain ⟨o, ho, hc⟩ := hr p e.symm; have h' : A.heap[p]? = _ := h; rw [ho] at h'; cases h'; cases hc)
theorem whole_take {W : World} {D p : Nat} {cs : Array Value} {t : TypeId} (h : Whole W p cs t) (hK : W.heap[D]? = some (.deferred (some []))) : Whole (W.putObj D (.deferred none)) p cs t :=
  whole_kept h (grownBy_putObj' _ D _) (fun r e => by cases e; exact ⟨_, hK, rfl⟩)
theorem whole_other {W : World} {p q i : Nat} {cs : Array Value} {t : TypeId} (h : Whole W p cs t) (u : Value) (hne : p ≠ q) : Whole (W.setCell ⟨q, i, none⟩ u) p cs t :=
  h.grew (grew_set (grew_refl W (some q)) i none u) (by simpa using hne)
theorem whole_set1 {W : World} {p : Nat} {v : Value} {t : TypeId} (h : Whole W p #[v] t) (u : Value) : Whole (W.setCell ⟨p, 0, none⟩ u) p #[u] t := h.set 0 u
theorem whole_c {W : World} {p : Nat} {v : Value} {t : TypeId} (h : Whole W p #[v] t) : W.cell? ⟨p, 0, none⟩ = some v := h.cell 0
theorem below_take {w W : World} {D n : Nat} (hK : W.heap[D]? = some (.deferred (some []))) (h : Below n w W) (hn : n ≤ D) : Below n w (W.putObj D (.deferred none)) :=
  h.trans ((Below.refl n W).grown (grownBy_putObj' W D _) (by have := (Array.getElem?_eq_some_iff.1 hK).1; omega) (fun k e => by cases e; omega))

theorem list_ne {x y : ByteArray} (h : ¬ x = y) : ¬ x.toList = y.toList := fun e => h (by rw [ByteArray.toList_eq, ByteArray.toList_eq] at e; exact ByteArray.ext (Array.toList_inj.1 e))

theorem boxes4 (w : World) (v0 v1 v2 v3 : Value) (t0 t1 t2 t3 : TypeId) : ∃ W0, (((w.alloc (.cells #[v0] t0)).alloc (.cells #[v1] t1)).alloc (.cells #[v2] t2)).alloc (.cells #[v3] t3) = W0 ∧ W0.heap.size = w.heap.size + 1 + 1 + 1 + 1 ∧ Below w.heap.size w W0 ∧
    Whole W0 w.heap.size #[v0] t0 ∧ Whole W0 (w.heap.size + 1) #[v1] t1 ∧ Whole W0 (w.heap.size + 1 + 1) #[v2] t2 ∧ Whole W0 (w.heap.size + 1 + 1 + 1) #[v3] t3 := by
  refine ⟨_, rfl, by simp, ((((Below.refl _ w).alloc (Nat.le_refl _) _).alloc (by simp) _).alloc (by simp; omega) _).alloc (by simp; omega) _, ?_, ?_, ?_, ?_⟩
  · exact whole_alloc (whole_alloc (whole_alloc (Whole.new w _ _) _) _) _
  · have := Whole.new (w.alloc (.cells #[v0] t0)) #[v1] t1
    rw [World.size_alloc] at this
    exact whole_alloc (whole_alloc this _) _
  · have := Whole.new ((w.alloc (.cells #[v0] t0)).alloc (.cells #[v1] t1)) #[v2] t2
    rw [World.size_alloc, World.size_alloc] at this
    exact whole_alloc this _
  · have := Whole.new (((w.alloc (.cells #[v0] t0)).alloc (.cells #[v1] t1)).alloc (.cells #[v2] t2)) #[v3] t3
    rw [World.size_alloc, World.size_alloc, World.size_alloc] at this
    exact this

/-- The code with that number; the code with that name. -/
def cdOf (k c : Int) : Option Cd := (cds k).find? fun x => decide (x.1 = c)
def cdBy (k : Int) (s : ByteArray) : Option Cd := (cds k).find? fun x => decide (x.2 = s)
def nmS (o : Option Cd) : ByteArray := (o.map (·.2)).getD ⟨#[]⟩
def nmC (o : Option Cd) : Int := (o.map (·.1)).getD 0

theorem find_hit {p : Cd → Bool} {xs pre : List Cd} {x : Cd} (hp : pre ++ [x] <+: xs) (hn : ∀ y ∈ pre, p y = false) (hx : p x = true) : xs.find? p = some x := by
  obtain ⟨t, rfl⟩ := hp
  rw [List.append_assoc, List.find?_append, List.find?_eq_none.2 (fun y hy => by rw [hn y hy]; simp)]
  simp [hx]
theorem find_miss {p : Cd → Bool} {xs : List Cd} (hn : ∀ y ∈ xs, p y = false) : xs.find? p = none := List.find?_eq_none.2 (fun y hy => by rw [hn y hy]; simp)

set_option maxRecDepth 100000 in
set_option maxHeartbeats 2000000 in
/-- What Name answers. -/
theorem name_any (w : World) (k : Int) (c : Int) : Calls Try.prog 6 #[.int .i64 k, .int .i64 c] w fun e w' => e = .returned (.tuple #[.string (nmS (cdOf k c)), .bool (cdOf k c).isSome]) ∧ Below w.heap.size w w' := by
  refine (callsIn_wide (n := 9)).1 ?_
  refine callsIn_of_wp_marks Try.func6 rfl trivial ?_ rfl
  simp only [Try.ntmps6, List.size_toArray, List.length_cons, List.length_nil, Nat.reduceAdd, Nat.reduceSub, Array.replicate_succ, Array.replicate_zero, List.push_toArray, List.append_toArray, List.nil_append, List.cons_append]
  gi_wp2_with fail
  refine ⟨trivial, (callsIn_wide.2 (all_any _ k)).mono ?_⟩
  rintro e w' ⟨rfl, rfl⟩
  gi_wp2_with fail
  obtain ⟨W0, hW0, hs0, hB0, b0, b1, b2, b3⟩ := boxes4 w (.int .i64 c) (.string ⟨#[]⟩) (.bool false) (.int .i64 k) 3 9 4 3
  rw [hW0]
  refine wpIn_rangeFunc_ownF rfl (by omega) (gf := 15) (lb := #[.pointer (some ⟨w.heap.size + 1 + 1 + 1, 0, none⟩)]) rfl trivial (enters_of Try.func15 (by kernel_rfl) rfl)
    (allc_stops 8 (w.heap.size + 1 + 1 + 1) (w.heap.size + 1 + 1 + 1 + 1) k W0 (by omega) (whole_c b3)) Kh.trans (fun W l o o' _ h hc _ => Kh.put o' h hc) (Below.refl _ _) (fun _ => rfl)
    (fun pre W => ((∀ y ∈ pre, y.1 ≠ c) ∧ Whole W w.heap.size #[.int .i64 c] 3 ∧ Whole W (w.heap.size + 1) #[.string ⟨#[]⟩] 9 ∧ Whole W (w.heap.size + 1 + 1) #[.bool false] 4) ∧ Below w.heap.size w W)
    (fun j pre W => (j = .ret ∧ ∃ pre' x, pre = pre' ++ [x] ∧ (∀ y ∈ pre', y.1 ≠ c) ∧ x.1 = c ∧ Whole W (w.heap.size + 1) #[.string x.2] 9 ∧ Whole W (w.heap.size + 1 + 1) #[.bool true] 4) ∧ Below w.heap.size w W)
    (OwnFrom.and (Own.from (fun s A B row hs hg hr => ⟨hs.1, whole_kept hs.2.1 hg hr, whole_kept hs.2.2.1 hg hr, whole_kept hs.2.2.2 hg hr⟩) _) (ownFrom_below (Nat.le_refl _) (by omega)))
    (fun j => OwnFrom.and (Own.from (fun s A B row hs hg hr => by obtain ⟨hc, pre', x, h1, h2, h3, h4, h5⟩ := hs; exact ⟨hc, pre', x, h1, h2, h3, whole_kept h4 hg hr, whole_kept h5 hg hr⟩) _) (ownFrom_below (Nat.le_refl _) (by omega)))
    ⟨⟨by simp, b0, b1, b2⟩, hB0⟩
    (fun x => { tmps := #[.int .i64 k, .int .i64 c, undef, .pointer (some ⟨w.heap.size, 0, none⟩), .pointer (some ⟨w.heap.size + 1, 0, none⟩), .pointer (some ⟨w.heap.size + 1 + 1, 0, none⟩), .int .i64 x.1, .string x.2, .int .i64 k, .func (.func 15) #[] #[.pointer (some ⟨w.heap.size + 1 + 1 + 1, 0, none⟩)], .int .i64 x.1, .string x.2, undef, undef, undef, undef], defers := [] }) ?assign ?body ?done ?stop
  case assign =>
    intro l x W K hK
    gi_wp2
    exact hK
  case body =>
    rintro l pre x W ⟨⟨hp, h0, h1, h2⟩, hB⟩ _
    have m0 := whole_c h0
    have m1 := whole_c h1
    have f1 := h1.frozen 0
    have m2 := whole_c (whole_other h2 (i := 0) (.string x.2) (q := w.heap.size + 1) (by omega))
    have f2 := (whole_other h2 (i := 0) (.string x.2) (q := w.heap.size + 1) (by omega)).frozen 0
    by_cases hx : x.1 = c
    · skip
      gi_wp2
      exact ⟨(KeepsOthers.setCell _ _ _).trans (KeepsOthers.setCell _ _ _), ⟨rfl, pre, x, rfl, hp, hx, whole_other (whole_set1 h1 _) _ (by omega), whole_set1 (whole_other h2 _ (by omega)) _⟩, (hB.setCell (p := ⟨w.heap.size + 1, 0, none⟩) (by simp) _).setCell (p := ⟨w.heap.size + 1 + 1, 0, none⟩) (by simp; omega) _⟩
    · gi_wp2
      exact ⟨KeepsOthers.refl _, Kh.refl _ _, ⟨fun y hy => (List.mem_append.1 hy).elim (hp y) (fun e => by simp at e; subst e; exact hx), h0, h1, h2⟩, hB⟩
  case done =>
    rintro D ys W hD rfl ⟨⟨hne, h0, h1, h2⟩, hB⟩ hK
    have m1 := whole_c h1
    have f1 := h1.frozen 0
    have m2 := whole_c (whole_other h2 (i := 0) (.string ⟨#[]⟩) (q := w.heap.size + 1) (by omega))
    have f2 := (whole_other h2 (i := 0) (.string ⟨#[]⟩) (q := w.heap.size + 1) (by omega)).frozen 0
    gi_wp2
    have hK' := ((KeepsOthers.setCell W ⟨w.heap.size + 1, 0, none⟩ (.string ⟨#[]⟩)).trans (KeepsOthers.setCell _ ⟨w.heap.size + 1 + 1, 0, none⟩ (.bool false))).same D _ hK rfl
    have n1 := whole_c (whole_take (whole_other (whole_set1 h1 (.string ⟨#[]⟩)) (i := 0) (.bool false) (q := w.heap.size + 1 + 1) (by omega)) hK')
    have n2 := whole_c (whole_take (whole_set1 (whole_other h2 (i := 0) (.string ⟨#[]⟩) (q := w.heap.size + 1) (by omega)) (.bool false)) hK')
    have hf : cdOf k c = none := find_miss (fun y hy => by simpa using hne y hy)
    refine ⟨by simp, .inl ⟨_, _, rfl, run_takeDeferred hK', ?_⟩⟩
    refine ⟨.tuple #[.string ⟨#[]⟩, .bool false], ?_, by rw [hf]; rfl, below_take hK' ((hB.setCell (p := ⟨w.heap.size + 1, 0, none⟩) (by simp) _).setCell (p := ⟨w.heap.size + 1 + 1, 0, none⟩) (by simp; omega) _) (by omega)⟩
    simp [results, Try.f6, go_sem, n1, n2]
  case stop =>
    rintro D j pre W hD hpre ⟨⟨rfl, pre', x, rfl, hn, hx, h1, h2⟩, hB⟩ hK
    gi_wp2
    refine ⟨by simp, .inl ⟨_, _, rfl, run_takeDeferred hK, ?_⟩⟩
    have n1 := whole_c (whole_take h1 hK)
    have n2 := whole_c (whole_take h2 hK)
    have hf : cdOf k c = some x := find_hit hpre (fun y hy => by simpa using hn y hy) (by simpa using hx)
    refine ⟨.tuple #[.string x.2, .bool true], ?_, by rw [hf]; rfl, below_take hK hB (by omega)⟩
    simp [results, Try.f6, go_sem, n1, n2]

set_option maxRecDepth 100000 in
set_option maxHeartbeats 2000000 in
/-- What Code answers. -/
theorem code_any (w : World) (k : Int) (c : ByteArray) : Calls Try.prog 8 #[.int .i64 k, .string c] w fun e w' => e = .returned (.tuple #[.int .i64 (nmC (cdBy k c)), .bool (cdBy k c).isSome]) ∧ Below w.heap.size w w' := by
  refine (callsIn_wide (n := 9)).1 ?_
  refine callsIn_of_wp_marks Try.func8 rfl trivial ?_ rfl
  simp only [Try.ntmps8, List.size_toArray, List.length_cons, List.length_nil, Nat.reduceAdd, Nat.reduceSub, Array.replicate_succ, Array.replicate_zero, List.push_toArray, List.append_toArray, List.nil_append, List.cons_append]
  gi_wp2_with fail
  refine ⟨trivial, (callsIn_wide.2 (all_any _ k)).mono ?_⟩
  rintro e w' ⟨rfl, rfl⟩
  gi_wp2_with fail
  obtain ⟨W0, hW0, hs0, hB0, b0, b1, b2, b3⟩ := boxes4 w (.string c) (.int .i64 0) (.bool false) (.int .i64 k) 9 3 4 3
  rw [hW0]
  refine wpIn_rangeFunc_ownF rfl (by omega) (gf := 15) (lb := #[.pointer (some ⟨w.heap.size + 1 + 1 + 1, 0, none⟩)]) rfl trivial (enters_of Try.func15 (by kernel_rfl) rfl)
    (allc_stops 8 (w.heap.size + 1 + 1 + 1) (w.heap.size + 1 + 1 + 1 + 1) k W0 (by omega) (whole_c b3)) Kh.trans (fun W l o o' _ h hc _ => Kh.put o' h hc) (Below.refl _ _) (fun _ => rfl)
    (fun pre W => ((∀ y ∈ pre, y.2 ≠ c) ∧ Whole W w.heap.size #[.string c] 9 ∧ Whole W (w.heap.size + 1) #[.int .i64 0] 3 ∧ Whole W (w.heap.size + 1 + 1) #[.bool false] 4) ∧ Below w.heap.size w W)
    (fun j pre W => (j = .ret ∧ ∃ pre' x, pre = pre' ++ [x] ∧ (∀ y ∈ pre', y.2 ≠ c) ∧ x.2 = c ∧ Whole W (w.heap.size + 1) #[.int .i64 x.1] 3 ∧ Whole W (w.heap.size + 1 + 1) #[.bool true] 4) ∧ Below w.heap.size w W)
    (OwnFrom.and (Own.from (fun s A B row hs hg hr => ⟨hs.1, whole_kept hs.2.1 hg hr, whole_kept hs.2.2.1 hg hr, whole_kept hs.2.2.2 hg hr⟩) _) (ownFrom_below (Nat.le_refl _) (by omega)))
    (fun j => OwnFrom.and (Own.from (fun s A B row hs hg hr => by obtain ⟨hc, pre', x, h1, h2, h3, h4, h5⟩ := hs; exact ⟨hc, pre', x, h1, h2, h3, whole_kept h4 hg hr, whole_kept h5 hg hr⟩) _) (ownFrom_below (Nat.le_refl _) (by omega)))
    ⟨⟨by simp, b0, b1, b2⟩, hB0⟩
    (fun x => { tmps := #[.int .i64 k, .string c, undef, .pointer (some ⟨w.heap.size, 0, none⟩), .pointer (some ⟨w.heap.size + 1, 0, none⟩), .pointer (some ⟨w.heap.size + 1 + 1, 0, none⟩), .int .i64 x.1, .string x.2, .int .i64 k, .func (.func 15) #[] #[.pointer (some ⟨w.heap.size + 1 + 1 + 1, 0, none⟩)], .int .i64 x.1, .string x.2, undef, undef, undef, undef], defers := [] }) ?assign ?body ?done ?stop
  case assign =>
    intro l x W K hK
    gi_wp2
    exact hK
  case body =>
    rintro l pre x W ⟨⟨hp, h0, h1, h2⟩, hB⟩ _
    have m0 := whole_c h0
    have m1 := whole_c h1
    have f1 := h1.frozen 0
    have m2 := whole_c (whole_other h2 (i := 0) (.int .i64 x.1) (q := w.heap.size + 1) (by omega))
    have f2 := (whole_other h2 (i := 0) (.int .i64 x.1) (q := w.heap.size + 1) (by omega)).frozen 0
    by_cases hx : x.2 = c
    · skip
      gi_wp2
      exact ⟨(KeepsOthers.setCell _ _ _).trans (KeepsOthers.setCell _ _ _), ⟨rfl, pre, x, rfl, hp, hx, whole_other (whole_set1 h1 _) _ (by omega), whole_set1 (whole_other h2 _ (by omega)) _⟩, (hB.setCell (p := ⟨w.heap.size + 1, 0, none⟩) (by simp) _).setCell (p := ⟨w.heap.size + 1 + 1, 0, none⟩) (by simp; omega) _⟩
    · have hxl : (x.2.toList == c.toList) = false := beq_eq_false_iff_ne.2 (list_ne hx)
      gi_wp2
      exact ⟨KeepsOthers.refl _, Kh.refl _ _, ⟨fun y hy => (List.mem_append.1 hy).elim (hp y) (fun e => by simp at e; subst e; exact hx), h0, h1, h2⟩, hB⟩
  case done =>
    rintro D ys W hD rfl ⟨⟨hne, h0, h1, h2⟩, hB⟩ hK
    have m1 := whole_c h1
    have f1 := h1.frozen 0
    have m2 := whole_c (whole_other h2 (i := 0) (.int .i64 0) (q := w.heap.size + 1) (by omega))
    have f2 := (whole_other h2 (i := 0) (.int .i64 0) (q := w.heap.size + 1) (by omega)).frozen 0
    gi_wp2
    have hK' := ((KeepsOthers.setCell W ⟨w.heap.size + 1, 0, none⟩ (.int .i64 0)).trans (KeepsOthers.setCell _ ⟨w.heap.size + 1 + 1, 0, none⟩ (.bool false))).same D _ hK rfl
    have n1 := whole_c (whole_take (whole_other (whole_set1 h1 (.int .i64 0)) (i := 0) (.bool false) (q := w.heap.size + 1 + 1) (by omega)) hK')
    have n2 := whole_c (whole_take (whole_set1 (whole_other h2 (i := 0) (.int .i64 0) (q := w.heap.size + 1) (by omega)) (.bool false)) hK')
    have hf : cdBy k c = none := find_miss (fun y hy => by simpa using hne y hy)
    refine ⟨by simp, .inl ⟨_, _, rfl, run_takeDeferred hK', ?_⟩⟩
    refine ⟨.tuple #[.int .i64 0, .bool false], ?_, by rw [hf]; rfl, below_take hK' ((hB.setCell (p := ⟨w.heap.size + 1, 0, none⟩) (by simp) _).setCell (p := ⟨w.heap.size + 1 + 1, 0, none⟩) (by simp; omega) _) (by omega)⟩
    simp [results, Try.f8, go_sem, n1, n2]
  case stop =>
    rintro D j pre W hD hpre ⟨⟨rfl, pre', x, rfl, hn, hx, h1, h2⟩, hB⟩ hK
    gi_wp2
    refine ⟨by simp, .inl ⟨_, _, rfl, run_takeDeferred hK, ?_⟩⟩
    have n1 := whole_c (whole_take h1 hK)
    have n2 := whole_c (whole_take h2 hK)
    have hf : cdBy k c = some x := find_hit hpre (fun y hy => by simpa using hn y hy) (by simpa using hx)
    refine ⟨.tuple #[.int .i64 x.1, .bool true], ?_, by rw [hf]; rfl, below_take hK hB (by omega)⟩
    simp [results, Try.f8, go_sem, n1, n2]
end Go.Proofs.Ytdklkffodhcmfaa

