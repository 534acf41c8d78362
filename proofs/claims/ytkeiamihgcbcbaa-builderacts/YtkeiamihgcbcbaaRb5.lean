/- The document's builder of layer 2: Close. -/
import Derived.Test.YtkeiamihgcbcbaaRb4
namespace Go.Proofs.Ytkeiamihgcbcbaa
open Go.RowKit

set_option maxHeartbeats 400000 in
theorem rclose_state (w : World) (F : Nat → Prop) (m most : Nat) (parts : List (List UInt8)) (h : Rb w F m most parts []) :
    Calls Try.prog 32 #[.pointer (some ⟨m, 0, none⟩)] w fun e w' => e = .returned (.int .i64 17) ∧ w = w' := by
  obtain ⟨vP, vS, vs, h1, _, h3, _⟩ := h
  obtain ⟨A, c, rfl, _⟩ := own_form h3
  have c2 := h1.cell 2
  simp only [List.getElem?_toArray, List.getElem?_cons_succ, List.getElem?_cons_zero, List.length_nil] at c2
  clear h1 h3
  go_enter Try.func32, Try.ntmps32
  go_wp2_with fail
  go_ret
  exact ⟨rfl, rfl⟩

/-- What one with an open part looks like. -/
theorem Rb.open_ {w : World} {F : Nat → Prop} {m most : Nat} {Q : List (List UInt8)} {P1 P : List UInt8} {S : List Nat} {s : Nat} (h : Rb w F m most (Q ++ [P1, P]) (S ++ [s])) :
    Q.length = S.length ∧ 1 ≤ s ∧ s ≤ 3 ∧ ∃ gP cP gS cS vs A c, Whole w m #[.int .i64 most, .slice (some ⟨gP, 0, none⟩) (Q.length + 2) cP, .slice (some ⟨gS, 0, none⟩) (Q.length + 1) cS] 41 ∧
      w.ownsRow 0 32 1 (.slice (some ⟨gP, 0, none⟩) (Q.length + 2) cP) (Q.length + 2) vs ∧ w.ownsRow 0 3 1 (.slice (some ⟨gS, 0, none⟩) (Q.length + 1) cS) (Q.length + 1) (intsOf (S ++ [s])) ∧ Rows_ w vs (Q ++ [P1, P]) ∧
      F m ∧ F gP ∧ F gS ∧ (∀ v ∈ vs, ∀ g, v.ownBlock = some g → F g) ∧ (∀ i, F i → i < w.heap.size) ∧
      w.cell? ⟨gS, Q.length, none⟩ = some (.int .i64 s) ∧ w.cell? ⟨gP, Q.length + 1, none⟩ = some (.slice A P.length c) ∧ w.ownsRow 0 5 1 (.slice A P.length c) P.length (cellsOf P) ∧ Q.length + 2 ≤ cP ∧ Q.length + 1 ≤ cS ∧ cP ≤ maxLen ∧ cS ≤ maxLen ∧ vs.length = Q.length + 2 := by
  obtain ⟨vP, vS, vs, h1, h2, h3, h4, h5, h6, h7, h8, h9, h10, _, _, _, h14⟩ := h
  simp at h10
  have hql : Q.length = S.length := by omega
  have hvl : vs.length = Q.length + 2 := by rw [h4.1]; simp
  have hs := h14 s (by simp)
  rw [hvl] at h2
  rw [List.length_append, List.length_singleton, ← hql] at h3
  obtain ⟨gP, cP, rfl, _, _⟩ := h2.form (by omega)
  obtain ⟨gS, cS, rfl, _, _⟩ := h3.form (by omega)
  have hk := h4.2 (Q.length + 1) (by simp)
  have e0 : (Q ++ [P1, P]).getD (Q.length + 1) [] = P := by simp [List.getD]
  rw [e0] at hk
  obtain ⟨A, c, e, _⟩ := own_form hk
  rw [e] at hk
  obtain ⟨_, _, e1, hc1, hm1, _⟩ := own_form h2
  obtain ⟨_, _, e2, hc2, hm2, _⟩ := own_form h3
  injection e1 with _ _ e1
  injection e2 with _ _ e2
  subst e1 e2
  refine ⟨hql, hs.1, hs.2, gP, cP, gS, cS, vs, A, c, h1, h2, h3, h4, h5, h6 gP rfl, h7 gS rfl, h8, h9, ?_, ?_, hk, hc1, hc2, hm1, hm2, hvl⟩
  · rw [h3.cellAt _ (by omega), intsOf_at _ _ (by simp; omega)]
    simp [List.getD, hql]
  · rw [h2.cellAt _ (by omega), List.getElem?_eq_getElem (by omega), ← e]
    simp [List.getD, hvl]

theorem Rows_.short {w : World} {vs : List Value} {Q : List (List UInt8)} {P1 P : List UInt8} (h : Rows_ w vs (Q ++ [P1, P])) : Rows_ w (vs.take (Q.length + 1)) (Q ++ [P1]) := by
  have hl := h.1
  simp at hl
  refine ⟨by simp; omega, fun i hi => ?_⟩
  simp at hi
  have h1 := h.2 i (by simp; omega)
  have e1 : (Q ++ [P1, P]).getD i [] = (Q ++ [P1]).getD i [] := by
    rw [show Q ++ [P1, P] = (Q ++ [P1]) ++ [P] from by simp]
    simp only [List.getD]
    rw [List.getElem?_append_left (by simp; omega)]
  have e2 : (vs.take (Q.length + 1)).getD i (.int .i64 0) = vs.getD i (.int .i64 0) := by simp [List.getD, List.getElem?_take_of_lt hi]
  rw [e2, ← e1]
  exact h1

theorem tot_short (Q : List (List UInt8)) (P1 P : List UInt8) (S : List Nat) (s : Nat) : tot (Q ++ [P1, P]) (S ++ [s]) = tot (Q ++ [P1]) S + s + P.length := by simp [tot]; omega

/-- With one part less. -/
theorem Rb.short {w W : World} {F : Nat → Prop} {m most : Nat} {Q : List (List UInt8)} {P1 P : List UInt8} {S : List Nat} {s gP cP gS cS : Nat} {vs : List Value} (h : Rb w F m most (Q ++ [P1, P]) (S ++ [s]))
    (h1 : Whole w m #[.int .i64 most, .slice (some ⟨gP, 0, none⟩) (Q.length + 2) cP, .slice (some ⟨gS, 0, none⟩) (Q.length + 1) cS] 41) (h2 : w.ownsRow 0 32 1 (.slice (some ⟨gP, 0, none⟩) (Q.length + 2) cP) (Q.length + 2) vs)
    (h3 : w.ownsRow 0 3 1 (.slice (some ⟨gS, 0, none⟩) (Q.length + 1) cS) (Q.length + 1) (intsOf (S ++ [s]))) (h4 : Rows_ w vs (Q ++ [P1, P])) (h8 : ∀ v ∈ vs, ∀ g, v.ownBlock = some g → F g) (hgP : F gP) (hgS : F gS) (hql : Q.length = S.length) (hvl : vs.length = Q.length + 2)
    (hW : W = (w.setCell ⟨m, 2, none⟩ (.slice (some ⟨gS, 0, none⟩) Q.length cS)).setCell ⟨m, 1, none⟩ (.slice (some ⟨gP, 0, none⟩) (Q.length + 1) cP)) : Rb W F m most (Q ++ [P1]) S ∧ Fr w W (fun i => i = m) := by
  have hf : Fr w W (fun i => i = m) := by
    rw [hW]
    exact Fr.set (F := fun i => i = m) (Fr.set (F := fun i => i = m) (Fr.refl _ _) (.inl rfl) _ _ _) (.inl rfl) _ _ _
  have hm := h.lt
  have hhas := h.has
  obtain ⟨_, ht, hmo, hsl, hss⟩ := h.le
  have tm : ∀ i, i = m → Typed w i 41 := fun i e => by subst e; exact ⟨_, h1⟩
  have hWm : Whole W m #[.int .i64 most, .slice (some ⟨gP, 0, none⟩) (Q.length + 1) cP, .slice (some ⟨gS, 0, none⟩) Q.length cS] 41 := by
    have := (h1.set 2 (.slice (some ⟨gS, 0, none⟩) Q.length cS)).set 1 (.slice (some ⟨gP, 0, none⟩) (Q.length + 1) cP)
    rw [hW]
    simpa using this
  have hFm : F m := by obtain ⟨_, _, _, _, _, _, _, h, _⟩ := h; exact h
  have hts := tot_short Q P1 P S s
  refine ⟨⟨_, _, vs.take (Q.length + 1), hWm, ?_, ?_, (h4.far hf tm (by decide)).short, hFm, ?_, ?_, ?_, fun i hi => Nat.lt_of_lt_of_le (hhas i hi) hf.size, by simp [hql], by omega, hmo, by simp at hsl; omega, fun s' hs' => hss s' (by simp [hs'])⟩, hf⟩
  · have := own_short (own_far h2 hf tm (by decide)) (k := Q.length + 1) (by omega)
    rw [List.length_take, hvl, show min (Q.length + 1) (Q.length + 2) = Q.length + 1 from by omega]
    simpa using this
  · have := own_short (own_far h3 hf tm (by decide)) (k := Q.length) (by omega)
    rw [intsOf_append, List.take_left' (by simp [intsOf, hql])] at this
    rw [← hql]
    exact this
  · intro g hg; simp [Value.ownBlock] at hg; subst hg; exact hgP
  · intro g hg; simp [Value.ownBlock] at hg; subst hg; exact hgS
  · exact fun v hv g hg => h8 v (List.mem_of_mem_take hv) g hg

set_option maxRecDepth 100000 in
set_option maxHeartbeats 4000000 in
theorem rclose_full (w : World) (F : Nat → Prop) (m most : Nat) (Q : List (List UInt8)) (P1 P : List UInt8) (S : List Nat) (s : Nat) (h : Rb w F m most (Q ++ [P1, P]) (S ++ [s])) (hl : ¬ P.length < 256 ^ s) :
    Calls Try.prog 32 #[.pointer (some ⟨m, 0, none⟩)] w fun e w' => e = .returned (.int .i64 5) ∧ Grew w w' none := by
  obtain ⟨hql, hs1, hs3, gP, cP, gS, cS, vs, A, c, h1, h2, h3, h4, h5, h6, h7, h8, h9, ck, cp, hok, hcP, hcS, hmP, hmS, hvl⟩ := h.open_
  have hmo := h.le.2.2.1
  have hts := tot_short Q P1 P S s
  have htl := h.le.2.1
  have hsl := h.le.2.2.2.1
  simp at hsl
  have hPb : P.length ≤ 2000 := by omega
  have hqb : Q.length ≤ 2000 := by omega
  have c1 := h1.cell 1
  have c2 := h1.cell 2
  simp only [List.getElem?_toArray, List.getElem?_cons_succ, List.getElem?_cons_zero] at c1 c2
  have hrb := fun W => rbe_any W s P.length (by omega) (by omega)
  have hnum := num_be s P.length
  have hne : num (be s P.length) ≠ P.length := by
    rw [hnum]
    intro e
    have := Nat.mod_lt P.length (show 0 < 256 ^ s from Nat.pow_pos (by decide))
    omega
  have hb1 : ((num (be s P.length) : Int) == (P.length : Int)) = false := by simp; omega
  have hb2 : ((num (be s P.length) : Int) != (P.length : Int)) = true := by simp; omega
  have HRB := Lib.hid hrb
  have hbl := be_length s P.length
  have hn0 : ¬ ((Q.length : Int) < 0) := by omega
  have hn1 : (0 : Int) ≤ (Q.length : Int) := by omega
  clear h1 h2 h3 h4 h5 h6 h7 h8 h9 hok hvl hql hts htl hsl hrb hnum hne h hl
  have HBL := Lib.hid hbl
  clear hbl
  generalize hq : Q.length = q at *
  clear hq
  generalize P.length = l at *
  go_enter Try.func32, Try.ntmps32
  go_wp2_with fail
  refine (HRB.out w).mono ?_
  rintro e w1 ⟨rfl, b1, g1⟩
  have hcn := rnum_any w1 w1.heap.size (some ⟨w.heap.size, 0, none⟩) (be s l) s b1.byt (by rw [HBL.out]; omega)
  rw [HBL.out] at hcn
  have HCN := Lib.hid hcn
  have G1 := Lib.hid g1
  clear hcn b1 g1
  generalize num (be s l) = Y at *
  go_wp2_with fail
  refine HCN.out.mono ?_
  rintro e w2 ⟨rfl, rfl⟩
  go_wp2_with fail
  go_ret
  exact ⟨rfl, G1.out⟩

end Go.Proofs.Ytkeiamihgcbcbaa

