/- The rows of tags: the region that makes them, in whatever order. -/
import Derived.Test.YtnegakobammljaaRw2
import Derived.Maps.OwnSet
namespace Go.Proofs.Ytnegakobammljaa
open Go.RowKit Go.Maps

/-- The tags; how many digits a tag's year has; what asks its bytes. -/
def tgs : List Int := [1, 2, 3, 4, 5, 6, 10, 12, 18, 19, 20, 22, 23, 24, 26, 28, 30]
def tgA (j : Nat) : Int := tgs.getD j 0
def ydg (t : Int) : Int := if t = 23 then 2 else if t = 24 then 4 else 0
def rwFn (t : Int) : Nat := if t = 1 then 35 else if t = 2 ∨ t = 10 then 26 else if t = 3 then 29 else if t = 5 then 36 else if t = 6 then 27 else 34
theorem tgA_inj {i j : Nat} (hi : i < 17) (hj : j < 17) (h : tgA i = tgA j) : i = j := by
  have : ∀ a : Fin 17, ∀ b : Fin 17, tgA a.1 = tgA b.1 → a.1 = b.1 := by decide +kernel
  exact this ⟨i, hi⟩ ⟨j, hj⟩ h
theorem tgA_mem {t : Int} (h : t ∈ tgs) : ∃ j, j < 17 ∧ tgA j = t := by
  obtain ⟨i, hi, e⟩ := List.mem_iff_getElem.1 h
  exact ⟨i, hi, by unfold tgA; rw [List.getD_eq_getElem?_getD, List.getElem?_eq_getElem hi, ← e]; rfl⟩
theorem mem_tgA {j : Nat} (h : j < 17) : tgA j ∈ tgs := by
  have : ∀ a : Fin 17, tgA a.1 ∈ tgs := by decide +kernel
  exact this ⟨j, h⟩

/-- A tag's row. -/
def RwOf (w : World) (t : Int) (v : Value) : Prop :=
  if t = 23 ∨ t = 24 then ∃ p, v = .agg #[.func (.func 41) #[] #[.pointer (some ⟨p, 0, none⟩)], .int .i64 (ydg t)] ∧ Whole w p #[.int .i64 (ydg t)] 3
  else v = .agg #[.func (.func (rwFn t)) #[] #[], .int .i64 0]
theorem RwOf.grew {w w' : World} {t : Int} {v : Value} (h : RwOf w t v) (g : Grew w w' none) : RwOf w' t v := by
  unfold RwOf at *
  split
  · rename_i ht
    rw [if_pos ht] at h
    obtain ⟨p, hv, hp⟩ := h
    exact ⟨p, hv, hp.grew g (by simp)⟩
  · rename_i ht
    rw [if_neg ht] at h
    exact h
theorem RwOf.own {w w' : World} {t : Int} {v : Value} {q : Nat} {es : Array MapEntry} {k : Nat} (h : RwOf w t v) (hq : w.heap[q]? = some (.map es k)) (g : Grew w w' (some q)) : RwOf w' t v := by
  unfold RwOf at *
  split
  · rename_i ht
    rw [if_pos ht] at h
    obtain ⟨p, hv, hp⟩ := h
    refine ⟨p, hv, hp.grew g (fun e => ?_)⟩
    have e' : p = q := by simpa using e
    have hp' : w.heap[p]? = some (.cells #[.int .i64 (ydg t)] 3 (0, 0)) := hp
    rw [e', hq] at hp'
    cases hp'
  · rename_i ht
    rw [if_neg ht] at h
    exact h

/-- Block q is a map of at most n rows. -/
abbrev RK (w : World) (q n : Nat) (D : DataW Value) : Prop := w.ownsMap (H := Value) Try.prog 3 (fun v => some (.held v, [])) q n D
theorem RK.at {w : World} {q n : Nat} {D : DataW Value} (h : RK w q n D) : ∃ es k, w.heap[q]? = some (.map es k) := by
  obtain ⟨es, k, hb, _⟩ := h
  exact ⟨es, k, hb⟩

structure RwI (W0 : World) (q1 : Nat) (listed : Array Bool) (a : Act) (w : World) : Prop where
  grew : Grew W0 w none
  sz : a.tmps.size = 22
  dfr : a.defers = []
  szl : listed.size = 37
  one : a.eval (.tmp 1) = .pointer (some ⟨q1, 0, none⟩)
  vals : ∀ j, j < 17 → listed.getD (2 * j + 1) false = true → RwOf w (tgA j) (a.eval (.tmp (j + 4)))
  map : listed.getD 0 false = true → ∃ q n D, a.eval (.tmp 3) = .map (some q) ∧ W0.heap.size ≤ q ∧ RK w q n D ∧ n + left listed ≤ 37 ∧ (∀ j, j < 17 → Maps.has D (.int .i64 (tgA j)) = listed.getD (2 * j + 2) false) ∧ (∀ t, t ∉ tgs → Maps.has D (.int .i64 t) = false) ∧
    ∀ j, j < 17 → listed.getD (2 * j + 2) false = true → ∃ v, (∀ z, D.atKey (.int .i64 (tgA j)) z = .held v) ∧ RwOf w (tgA j) v
  dep : ∀ j, j < 17 → listed.getD (2 * j + 2) false = true → listed.getD 0 false = true
  mv : listed.getD 35 false = true → listed.getD 0 false = true ∧ a.eval (.tmp 21) = a.eval (.tmp 3)
  asn : listed.getD 36 false = true → listed.getD 35 false = true ∧ a.eval (.tmp 0) = a.eval (.tmp 3)

theorem getD_put_same {listed : Array Bool} {i : Nat} (h : i < listed.size) : (listed.setIfInBounds i true).getD i false = true := by
  rw [Array.getD_eq_getD_getElem?, Array.getElem?_setIfInBounds_self_of_lt h]; rfl
theorem getD_put_ne {listed : Array Bool} {i j : Nat} (h : i ≠ j) (d : Bool) : (listed.setIfInBounds i true).getD j d = listed.getD j d := by
  rw [Array.getD_eq_getD_getElem?, Array.getElem?_setIfInBounds_ne h, ← Array.getD_eq_getD_getElem?]
theorem evs (a : Act) (n : Nat) (v : Value) (h : n < a.tmps.size) : (a.put (some n) v).eval (.tmp n) = v := by simp [Act.put, Act.eval, h]
theorem evn (a : Act) {m n : Nat} (v : Value) (h : m ≠ n) : (a.put (some m) v).eval (.tmp n) = a.eval (.tmp n) := by simp [Act.put, Act.eval, h]
theorem evz (a : Act) (n : Nat) (v : Value) : (a.put (some n) v).tmps.size = a.tmps.size := by simp [Act.put]
theorem unl {listed : Array Bool} {i : Nat} (h : listed.getD i true = false) : i < listed.size ∧ listed.getD i false = false := by
  have hi : i < listed.size := by
    rcases Nat.lt_or_ge i listed.size with h1 | h1
    · exact h1
    · rw [Array.getD_eq_getD_getElem?, Array.getElem?_eq_none h1] at h; cases h
  refine ⟨hi, ?_⟩
  rw [Array.getD_eq_getD_getElem?, Array.getElem?_eq_getElem hi] at h ⊢
  exact h

section
variable {W0 : World} {q1 : Nat} {listed : Array Bool} {a : Act} {w : World}
/-- A row that is worked out. -/
theorem RwI.val (I : RwI W0 q1 listed a w) {j : Nat} (hj : j < 17) (hn : listed.getD (2 * j + 1) true = false) {w' : World} {v : Value} (hv : RwOf w' (tgA j) v) (g : Grew w w' none) :
    RwI W0 q1 (listed.setIfInBounds (2 * j + 1) true) (a.put (some (j + 4)) v) w' := by
  have hl := left_step hn
  obtain ⟨hb, hf⟩ := unl hn
  refine ⟨grew_trans I.grew g, (evz _ _ _).trans I.sz, I.dfr, by simp [I.szl], (evn _ _ (by omega)).trans I.one, fun j' hj' h => ?_, fun h => ?_, ?dep, fun h => ?_, fun h => ?_⟩
  case dep =>
    intro i hi h
    rw [getD_put_ne (by omega)] at h ⊢
    exact I.dep i hi h
  · by_cases e : j' = j
    · subst e
      rw [evs _ _ _ (by rw [I.sz]; omega)]
      exact hv
    · rw [getD_put_ne (by omega)] at h
      rw [evn _ _ (by omega)]
      exact (I.vals j' hj' h).grew g
  · rw [getD_put_ne (by omega)] at h
    obtain ⟨q, n, D, h1, h2, h3, h4, h5, h6, h7⟩ := I.map h
    refine ⟨q, n, D, (evn _ _ (by omega)).trans h1, h2, World.ownsMap.kept h3 g (by simp), by omega, fun i hi => ?_, h6, fun i hi hh => ?_⟩
    · rw [getD_put_ne (by omega)]; exact h5 i hi
    · rw [getD_put_ne (by omega)] at hh
      obtain ⟨u, h8, h9⟩ := h7 i hi hh
      exact ⟨u, h8, h9.grew g⟩
  · rw [getD_put_ne (by omega)] at h
    rw [getD_put_ne (by omega), evn _ _ (by omega), evn _ _ (by omega)]
    exact I.mv h
  · rw [getD_put_ne (by omega)] at h
    rw [getD_put_ne (by omega), evn _ _ (by omega), evn _ _ (by omega)]
    exact I.asn h

/-- The map. -/
theorem RwI.made (I : RwI W0 q1 listed a w) (hn : listed.getD 0 true = false) :
    RwI W0 q1 (listed.setIfInBounds 0 true) (a.put (some 3) (.map (some w.heap.size))) (w.alloc (.map #[] 0)) := by
  have hl := left_step hn
  obtain ⟨hb, hf⟩ := unl hn
  have hu : ∀ j, j < 17 → listed.getD (2 * j + 2) false = false := fun j hj => by
    cases hc : listed.getD (2 * j + 2) false with
    | false => rfl
    | true => rw [I.dep j hj hc] at hf; cases hf
  have g : Grew w (w.alloc (.map #[] 0)) none := grew_alloc (grew_refl _ _) _
  have hle : left listed ≤ 37 := by
    unfold left
    have h1 := List.count_le_length (a := false) (l := listed.toList)
    have h2 := I.szl
    have h3 : listed.toList.length = listed.size := rfl
    omega
  refine ⟨grew_trans I.grew g, (evz _ _ _).trans I.sz, I.dfr, by simp [I.szl], (evn _ _ (by omega)).trans I.one, fun j' hj' h => ?_, fun h => ?_, ?dep, fun h => ?_, fun h => ?_⟩
  case dep => exact fun i hi h => getD_put_same hb
  · rw [getD_put_ne (by omega)] at h
    rw [evn _ _ (by omega)]
    exact (I.vals j' hj' h).grew g
  · refine ⟨w.heap.size, 0, .map [], evs _ _ _ (by rw [I.sz]; omega), I.grew.size, World.ownsMap_made _ _ _ _, by omega, fun i hi => ?_, fun t ht => rfl, fun i hi hh => ?_⟩
    · rw [getD_put_ne (by omega), hu i hi]; rfl
    · rw [getD_put_ne (by omega), hu i hi] at hh; cases hh
  · rw [getD_put_ne (by omega)] at h
    obtain ⟨h1, _⟩ := I.mv h
    rw [hf] at h1
    cases h1
  · rw [getD_put_ne (by omega)] at h
    obtain ⟨h1, _⟩ := I.asn h
    obtain ⟨h2, _⟩ := I.mv h1
    rw [hf] at h2
    cases h2

set_option maxRecDepth 100000 in
theorem int_law : Keyed Try.prog 3 := int_keyed Try.underlying3
theorem tg_wf {j : Nat} (h : j < 17) : (Lit.int .i64 (tgA j)).wf = true := by
  have : ∀ a : Fin 17, (Lit.int .i64 (tgA a.1)).wf = true := by decide +kernel
  exact this ⟨j, h⟩
theorem isKey (t : Int) : WideAt.IsKeyLit (.int .i64 t) := by
  first | exact trivial | (unfold WideAt.IsKeyLit; simp)

/-- A row that is laid in the map. -/
theorem RwI.ins (I : RwI W0 q1 listed a w) {j : Nat} (hj : j < 17) (hn : listed.getD (2 * j + 2) true = false) (h0 : listed.getD 0 false = true) (h1 : listed.getD (2 * j + 1) false = true) :
    ∃ q w', a.eval (.tmp 3) = .map (some q) ∧ (Instr.mapUpdate 59 (.map (some q)) (.int .i64 (tgA j)) (a.eval (.tmp (j + 4)))).run Try.prog w = .ok () w' ∧ RwI W0 q1 (listed.setIfInBounds (2 * j + 2) true) a w' := by
  have hl := left_step hn
  obtain ⟨hb, hf⟩ := unl hn
  obtain ⟨q, n, D, k1, k2, k3, k4, k5, k6, k7⟩ := I.map h0
  obtain ⟨es, ck, hq⟩ := RK.at k3
  obtain ⟨w', hr, ho, g⟩ := World.ownsMap.update k3 int_law Try.underlying59 (by unfold maxLen; omega) (key := .int .i64 (tgA j)) (val := a.eval (.tmp (j + 4))) (keyOf_int_mk Try.underlying3 (tg_wf hj)) rfl
  have hm := World.ownsMap.isMap k3
  refine ⟨q, w', k1, hr, grew_own I.grew g k2, I.sz, I.dfr, by simp [I.szl], I.one, fun j' hj' h => ?_, fun h => ?_, ?dep, fun h => ?_, fun h => ?_⟩
  case dep => exact fun i hi h => by rw [getD_put_ne (by omega)]; exact h0
  · rw [getD_put_ne (by omega)] at h
    exact (I.vals j' hj' h).own hq g
  · refine ⟨q, n + 1, _, k1, k2, ho, by omega, fun i hi => ?_, fun t ht => ?_, fun i hi hh => ?_⟩
    · by_cases e : i = j
      · subst e
        rw [Maps.has_put_same hm (isKey _), getD_put_same hb]
      · rw [Maps.has_put_other (fun h => by injection h with _ h; exact e (tgA_inj hi hj h)), getD_put_ne (by omega)]
        exact k5 i hi
    · rw [Maps.has_put_other (fun h => by injection h with _ h; exact ht (h ▸ mem_tgA hj))]
      exact k6 t ht
    · by_cases e : i = j
      · subst e
        exact ⟨_, fun z => Maps.atKey_put_same hm (isKey _) _ z, (I.vals i hi h1).own hq g⟩
      · rw [getD_put_ne (by omega)] at hh
        obtain ⟨u, h8, h9⟩ := k7 i hi hh
        exact ⟨u, fun z => (Maps.atKey_put_other (fun h => by injection h with _ h; exact e (tgA_inj hi hj h)) _ z).trans (h8 z), h9.own hq g⟩
  · rw [getD_put_ne (by omega)] at h
    rw [getD_put_ne (by omega)]
    exact I.mv h
  · rw [getD_put_ne (by omega)] at h
    rw [getD_put_ne (by omega)]
    exact I.asn h

theorem RwI.moved (I : RwI W0 q1 listed a w) (hn : listed.getD 35 true = false) (h0 : listed.getD 0 false = true) : RwI W0 q1 (listed.setIfInBounds 35 true) (a.put (some 21) (a.eval (.tmp 3))) w := by
  have hl := left_step hn
  obtain ⟨hb, hf⟩ := unl hn
  refine ⟨I.grew, (evz _ _ _).trans I.sz, I.dfr, by simp [I.szl], (evn _ _ (by omega)).trans I.one, fun j' hj' h => ?_, fun h => ?_, ?dep, fun h => ?_, fun h => ?_⟩
  case dep =>
    intro i hi h
    rw [getD_put_ne (by omega)] at h ⊢
    exact I.dep i hi h
  · rw [getD_put_ne (by omega)] at h
    rw [evn _ _ (by omega)]
    exact I.vals j' hj' h
  · rw [getD_put_ne (by omega)] at h
    obtain ⟨q, n, D, h1, h2, h3, h4, h5, h6, h7⟩ := I.map h
    refine ⟨q, n, D, (evn _ _ (by omega)).trans h1, h2, h3, by omega, fun i hi => ?_, h6, fun i hi hh => ?_⟩
    · rw [getD_put_ne (by omega)]; exact h5 i hi
    · rw [getD_put_ne (by omega)] at hh
      exact h7 i hi hh
  · rw [getD_put_ne (by omega), evs _ _ _ (by rw [I.sz]; omega), evn _ _ (by omega)]
    exact ⟨h0, rfl⟩
  · rw [getD_put_ne (by omega)] at h
    obtain ⟨h1, _⟩ := I.asn h
    rw [hf] at h1
    cases h1
theorem RwI.given (I : RwI W0 q1 listed a w) (hn : listed.getD 36 true = false) (h5 : listed.getD 35 false = true) : RwI W0 q1 (listed.setIfInBounds 36 true) (a.put (some 0) (a.eval (.tmp 21))) w := by
  have hl := left_step hn
  obtain ⟨hb, hf⟩ := unl hn
  refine ⟨I.grew, (evz _ _ _).trans I.sz, I.dfr, by simp [I.szl], (evn _ _ (by omega)).trans I.one, fun j' hj' h => ?_, fun h => ?_, ?dep, fun h => ?_, fun h => ?_⟩
  case dep =>
    intro i hi h
    rw [getD_put_ne (by omega)] at h ⊢
    exact I.dep i hi h
  · rw [getD_put_ne (by omega)] at h
    rw [evn _ _ (by omega)]
    exact I.vals j' hj' h
  · rw [getD_put_ne (by omega)] at h
    obtain ⟨q, n, D, h1, h2, h3, h4, h5, h6, h7⟩ := I.map h
    refine ⟨q, n, D, (evn _ _ (by omega)).trans h1, h2, h3, by omega, fun i hi => ?_, h6, fun i hi hh => ?_⟩
    · rw [getD_put_ne (by omega)]; exact h5 i hi
    · rw [getD_put_ne (by omega)] at hh
      exact h7 i hi hh
  · rw [getD_put_ne (by omega)] at h
    rw [getD_put_ne (by omega), evn _ _ (by omega), evn _ _ (by omega)]
    exact I.mv h
  · rw [getD_put_ne (by omega), evs _ _ _ (by rw [I.sz]; omega), evn _ _ (by omega)]
    exact ⟨h5, (I.mv h5).2⟩
end
end Go.Proofs.Ytnegakobammljaa

