/- Contracts of values that are made. -/
import Derived.Test.YtdamjbngopfpkaaVa
import Derived.Test.YtdamjbngopfpkaaFm
namespace Go.Proofs.Ytdamjbngopfpkaa
open Go.RowKit Va

/-- Three cells of a block turned. -/
def put3 (w : World) (q : Nat) (v0 v1 v2 : Value) : World := ((w.setCell ⟨q, 0, none⟩ v0).setCell ⟨q, 1, none⟩ v1).setCell ⟨q, 2, none⟩ v2
theorem Whole.put3 {w : World} {q : Nat} {a0 a1 a2 : Value} {t : TypeId} (h : Whole w q #[a0, a1, a2] t) (v0 v1 v2 : Value) : Whole (put3 w q v0 v1 v2) q #[v0, v1, v2] t :=
  ((h.set 0 v0).set 1 v1).set 2 v2
theorem grew_put3 {a w : World} {row : Option Nat} (h : Grew a w row) {q : Nat} (hq : a.heap.size ≤ q) (v0 v1 v2 : Value) : Grew a (put3 w q v0 v1 v2) row :=
  grew_own h (grew_set (grew_set (grew_set (grew_refl w (some q)) _ _ _) _ _ _) _ _ _) hq
theorem fr_put3 (w : World) (q : Nat) (v0 v1 v2 : Value) : Fr w (put3 w q v0 v1 v2) (fun i => i = q) := by
  have hp : ∀ {w' : World} (i : Nat) (u : Value), Fr w w' (fun i => i = q) → Fr w (w'.setCell ⟨q, i, none⟩ u) (fun i => i = q) := fun i u h => h.set (.inl rfl) _ _ _
  exact hp _ _ (hp _ _ (hp _ _ (Fr.refl _ _)))
theorem Whole.three {w : World} {q : Nat} {a0 a1 a2 : Value} {t : TypeId} (h : Whole w q #[a0, a1, a2] t) :
    w.cell? ⟨q, 0, none⟩ = some a0 ∧ w.cell? ⟨q, 1, none⟩ = some a1 ∧ w.cell? ⟨q, 2, none⟩ = some a2 := ⟨h.cell 0, h.cell 1, h.cell 2⟩

theorem vval_eq (v : Va) : v.val = .agg #[.int .u64 v.n, .slice v.B v.bs.length v.d, .slice v.A v.ls.length v.c] := rfl

theorem info_value : (Try.prog.info? 35).map (fun i => (i.zero, i.size, i.bytes)) = some (some (.agg #[.int .u64 0, .slice none 0 0, .slice none 0 0]), 3, 56) := by kernel_rfl
theorem info_u8 : (Try.prog.info? 5).map (fun i => (i.zero, i.size, i.bytes)) = some (some (.int .u8 0), 1, 1) := by kernel_rfl

/-- A number's value. -/
theorem plainN_in (w : World) {x : Int} (h : 0 ≤ x ∧ x ≤ 18446744073709551615) : In w (.mk x none 0 [] none 0 []) :=
  .mk h (fun h => by simp at h) (by simp) (by simp) (by simp) (Lie.nil _ _) (fun p hp => by simp at hp)

set_option maxRecDepth 100000 in
/-- 'append(v, l...)': v owns a row of values. -/
theorem append_values (w : World) (ty : TypeId) {v : Value} {n : Nat} {xs : List Va} (hown : w.ownsRow 0 35 3 v n (flat xs)) {A : Option Addr} {ps : List Va} (hb : Va.Lie w A ps) (c : Nat) (hm : n + ps.length ≤ 2513169434916) :
    ∃ v' w', (Builtin.append_ #[33, 33] ty #[v, .slice A ps.length c]).run Try.prog w = .ok v' w' ∧ AppLeft w 35 3 v (n + ps.length) (flat (xs ++ ps)) v' w' := by
  obtain ⟨i, hi, hz⟩ := Option.map_eq_some_iff.1 info_value
  simp only [Prod.mk.injEq] at hz
  obtain ⟨hz0, hz1, hz2⟩ := hz
  cases A with
  | none =>
    have e0 : ps = [] := by
      rcases Nat.eq_zero_or_pos ps.length with h | h
      · exact List.eq_nil_of_length_eq_zero h
      · obtain ⟨_, _, h, _⟩ := hb h
        cases h
    subst e0
    exact ⟨v, w, append_none w Try.underlying33 hi hown c, by simpa using hown, grew_refl _ _, .inl rfl⟩
  | some a =>
    have hn : ∀ j u, (flat ps)[j]? = some u → w.cell? (a.add j) = some u := by
      intro j u hu
      have hj : j < (flat ps).length := by
        rcases Nat.lt_or_ge j (flat ps).length with h | h
        · exact h
        · rw [List.getElem?_eq_none h] at hu; cases hu
      obtain ⟨p, hp, hc⟩ := flat_lt hj
      rw [flat_length] at hj
      obtain ⟨b, o, e, hcell⟩ := hb (by omega)
      cases e
      rw [addr_add]
      have := hcell _ p hp _ u (hc.trans hu)
      rw [← this]
      congr 2
      omega
    obtain ⟨v', w', hr, h2, h3, _, h5⟩ := run_append_own_at (P := Try.prog) w 0 33 ty 35 i _ 3 56 Try.underlying33 hi hz0 hz1 hz2 rfl (by omega) v n (flat xs) hown a ps.length c (flat ps) (flat_length _) hn (flat_one _)
      (by unfold maxLen; omega) (by omega) (Nat.zero_le _)
    exact ⟨v', w', hr, by rw [flat_append]; exact h2, h3, h5⟩

/-- An owned row of bytes. -/
theorem byt_of_own {w : World} {v : Value} {n : Nat} {xs : List UInt8} (h : w.ownsRow 0 5 1 v n (cellsOf xs)) : ∃ A c, v = .slice A xs.length c ∧ xs.length ≤ c ∧ Byt w w.heap.size A xs := by
  have hl := h.1
  rw [cellsOf_length] at hl
  have hn : n = xs.length := by omega
  subst hn
  rcases h.2 with ⟨rfl, h0⟩ | ⟨b, cap, cur, rfl, _, hh, hnc, _, hsz, ht⟩
  · exact ⟨none, 0, by rw [h0], by omega, fun h => by omega⟩
  · have hW : Whole w b cur 5 := hh
    refine ⟨_, _, rfl, hnc, fun _ => ⟨b, 0, rfl, hW.lt, fun i hi => ?_⟩⟩
    have hf : (cellsOf xs)[i]? = some (.int .u8 ((xs.getD i 0).toNat : Int)) := by
      simp [cellsOf, List.getD, List.getElem?_eq_getElem hi]
    rw [← ht, List.getElem?_take_of_lt (by omega)] at hf
    rw [hW.cell, Nat.zero_add, ← Array.getElem?_toList]
    exact hf

end Go.Proofs.Ytdamjbngopfpkaa

