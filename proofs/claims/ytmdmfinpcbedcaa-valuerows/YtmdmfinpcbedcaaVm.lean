/- Contracts of values that are made. -/
import Derived.Test.YtmdmfinpcbedcaaVa
import Derived.Test.YtmdmfinpcbedcaaFm
namespace Go.Proofs.Ytmdmfinpcbedcaa
open Go.RowKit Va

/-- Three cells of a block turned. -/
def put3 (w : World) (q : Nat) (v0 v1 v2 : Value) : World := ((w.setCell ⟨q, 0, none⟩ v0).setCell ⟨q, 1, none⟩ v1).setCell ⟨q, 2, none⟩ v2
theorem Whole.put3 {w : World} {q : Nat} {a0 a1 a2 : Value} {t : TypeId} (h : Whole w q #[a0, a1, a2] t) (v0 v1 v2 : Value) : Whole (put3 w q v0 v1 v2) q #[v0, v1, v2] t :=
  ((h.set 0 v0).set 1 v1).set 2 v2
theorem grew_put3 {a w : World} {row : Option Nat} (h : Grew a w row) {q : Nat} (hq : a.heap.size ≤ q) (v0 v1 v2 : Value) : Grew a (put3 w q v0 v1 v2) row :=
  grew_own h (grew_set (grew_set (grew_set (grew_refl w (some q)) _ _ _) _ _ _) _ _ _) hq
theorem fr_put3 (w : World) (q : Nat) (v0 v1 v2 : Value) : Fr w (put3 w q v0 v1 v2) (fun i => i = q) := by
  have hp : ∀ {w' : World} (i : Nat) (u : Value), Fr w w' (fun i => i = q) → Fr w (w'.setCell ⟨q, i, none⟩ u) (fun i => i = q) := fun i u h => h.set (.inl rfl) _ _ _
  exact hp _ _ (hp _ _ (hp _ _ (Fr.refl _ _)))
theorem Whole.three {w : World} {q : Nat} {a0 a1 a2 : Value} {t : TypeId} (h : Whole w q #[a0, a1, a2] t) :
    w.cell? ⟨q, 0, none⟩ = some a0 ∧ w.cell? ⟨q, 1, none⟩ = some a1 ∧ w.cell? ⟨q, 2, none⟩ = some a2 := ⟨h.cell 0, h.cell 1, h.cell 2⟩

theorem vval_eq (v : Va) : v.val = .agg #[.int .u64 v.n, .slice v.B v.bs.length v.d, .slice v.A v.ls.length v.c] := rfl

theorem info_value : (Try.prog.info? 26).map (fun i => (i.zero, i.size, i.bytes)) = some (some (.agg #[.int .u64 0, .slice none 0 0, .slice none 0 0]), 3, 56) := by kernel_rfl
theorem info_u8 : (Try.prog.info? 5).map (fun i => (i.zero, i.size, i.bytes)) = some (some (.int .u8 0), 1, 1) := by kernel_rfl

/-- A number's value. -/
theorem plainN_in (w : World) {x : Int} (h : 0 ≤ x ∧ x ≤ 18446744073709551615) : In w (.mk x none 0 [] none 0 []) :=
  .mk h (fun h => by simp at h) (by simp) (by simp) (by simp) (Lie.nil _ _) (fun p hp => by simp at hp)

theorem vnumber_any (w : World) (x : Int) :
    Calls Try.prog 15 #[.int .u64 x] w fun e w' => e = .returned (Va.mk x none 0 [] none 0 []).val ∧ Grew w w' none := by
  go_enter Try.func15, Try.ntmps15
  go_wp2_with fail
  refine bodyPost_ret (results_cell_row rfl _ _ w.heap.size _ _ _ _ rfl (Whole.new _ _ _) Try.underlying26 rfl (by kernel_rfl)) rfl ⟨rfl, ?_⟩
  exact grew_alloc (grew_refl _ _) _

/-- 'append(v, l...)': v owns a row of values. -/
theorem append_values (w : World) (ty : TypeId) {v : Value} {n : Nat} {xs : List Va} (hown : w.ownsRow 0 26 3 v n (flat xs)) {A : Option Addr} {ps : List Va} (hb : Va.Lie w A ps) (c : Nat) (hm : n + ps.length ≤ 2513169434916) :
    ∃ v' w', (Builtin.append_ #[24, 24] ty #[v, .slice A ps.length c]).run Try.prog w = .ok v' w' ∧ AppLeft w 26 3 v (n + ps.length) (flat (xs ++ ps)) v' w' := by
  obtain ⟨i, hi, hz⟩ := Option.map_eq_some_iff.1 info_value
  simp only [Prod.mk.injEq] at hz
  obtain ⟨hz0, hz1, hz2⟩ := hz
  cases A with
  | none =>
    have e0 : ps = [] := by
      rcases Nat.eq_zero_or_pos ps.length with h | h
      · exact List.eq_nil_of_length_eq_zero h
      · obtain ⟨_, _, h, _⟩ := hb h
        cases h
    subst e0
    exact ⟨v, w, append_none w Try.underlying24 hi hown c, by simpa using hown, grew_refl _ _, .inl rfl⟩
  | some a =>
    have hn : ∀ j u, (flat ps)[j]? = some u → w.cell? (a.add j) = some u := by
      intro j u hu
      have hj : j < (flat ps).length := by
        rcases Nat.lt_or_ge j (flat ps).length with h | h
        · exact h
        · rw [List.getElem?_eq_none h] at hu; cases hu
      obtain ⟨p, hp, hc⟩ := flat_lt hj
      rw [flat_length] at hj
      obtain ⟨b, o, e, hcell⟩ := hb (by omega)
      cases e
      rw [addr_add]
      have := hcell _ p hp _ u (hc.trans hu)
      rw [← this]
      congr 2
      omega
    obtain ⟨v', w', hr, h2, h3, _, h5⟩ := run_append_own_at (P := Try.prog) w 0 24 ty 26 i _ 3 56 Try.underlying24 hi hz0 hz1 hz2 rfl (by omega) v n (flat xs) hown a ps.length c (flat ps) (flat_length _) hn (flat_one _)
      (by unfold maxLen; omega) (by omega) (Nat.zero_le _)
    exact ⟨v', w', hr, by rw [flat_append]; exact h2, h3, h5⟩

theorem vclone_any (w : World) (A : Option Addr) (c : Nat) (ps : List Va) (hl : Va.Lie w A ps) (hm : ps.length ≤ 2513169434916) :
    Calls Try.prog 29 #[.slice A ps.length c] w fun e w' => ∃ A' c', e = .returned (.slice A' ps.length c') ∧ ps.length ≤ c' ∧ Va.Lie w' A' ps ∧ (∀ a, A' = some a → w.heap.size ≤ a.block) ∧ Grew w w' none := by
  have HL := Lib.hid hl
  have HM := Lib.hid hm
  cases A with
  | none =>
    have e0 : ps = [] := by
      rcases Nat.eq_zero_or_pos ps.length with h | h
      · exact List.eq_nil_of_length_eq_zero h
      · obtain ⟨_, _, h, _⟩ := hl h
        cases h
    subst e0
    clear hl hm
    have he : ∀ w : World, (binOp .eql 24 (.slice none 0 c) (.slice none 0 0)).run Try.prog w = .ok (.bool true) w := fun _ => by kernel_rfl
    go_enter Try.func29, Try.ntmps29
    go_wp2_with fail
    go_ret
    exact ⟨none, 0, rfl, Nat.le_refl _, Va.Lie.nil _ _, (fun _ h => by cases h), grew_refl _ _⟩
  | some a =>
    clear hl hm
    have he : ∀ w : World, (binOp .eql 24 (.slice (some a) ps.length c) (.slice none 0 0)).run Try.prog w = .ok (.bool false) w := fun _ => by kernel_rfl
    go_enter Try.func29, Try.ntmps29
    have HA := Lib.hid (fun ty => append_values (w.alloc (.cells #[] 26)) ty (xs := []) (v := .slice (some ⟨w.heap.size, 0, none⟩) 0 0) (n := 0) ⟨rfl, .inr ⟨w.heap.size, 0, #[], rfl, Nat.zero_le _, Whole.new _ _ _, Nat.le_refl _, by unfold maxLen; omega, rfl, rfl⟩⟩ (HL.out.grew (grew_alloc (grew_refl _ _) _)) c (by have := HM.out; omega))
    go_wp2_with (at_builtin; refine wpList_append_run _ rfl (.tmp 5) (.tmp 6) 24 rfl rfl rfl HA.out ?_; rintro v' w1 ⟨a1, a2, a3⟩; have A1 := Lib.hid a1; have A2 := Lib.hid a2; have A3 := Lib.hid a3; clear a1 a2 a3)
    go_ret
    obtain ⟨A', c', rfl, h1, h2⟩ := Va.Lie.of_own A1.out
    refine ⟨A', c', rfl, h1, h2, fun a ha => ?_, grew_own (grew_alloc (grew_refl _ none) _) A2.out (Nat.le_refl _)⟩
    subst ha
    have := A3.out
    simp [Value.ownBlock] at this
    omega

/-- An owned row of bytes. -/
theorem byt_of_own {w : World} {v : Value} {n : Nat} {xs : List UInt8} (h : w.ownsRow 0 5 1 v n (cellsOf xs)) : ∃ A c, v = .slice A xs.length c ∧ xs.length ≤ c ∧ Byt w w.heap.size A xs := by
  have hl := h.1
  rw [cellsOf_length] at hl
  have hn : n = xs.length := by omega
  subst hn
  rcases h.2 with ⟨rfl, h0⟩ | ⟨b, cap, cur, rfl, _, hh, hnc, _, hsz, ht⟩
  · exact ⟨none, 0, by rw [h0], by omega, fun h => by omega⟩
  · have hW : Whole w b cur 5 := hh
    refine ⟨_, _, rfl, hnc, fun _ => ⟨b, 0, rfl, hW.lt, fun i hi => ?_⟩⟩
    have hf : (cellsOf xs)[i]? = some (.int .u8 ((xs.getD i 0).toNat : Int)) := by
      simp [cellsOf, List.getD, List.getElem?_eq_getElem hi]
    rw [← ht, List.getElem?_take_of_lt (by omega)] at hf
    rw [hW.cell, Nat.zero_add, ← Array.getElem?_toList]
    exact hf

theorem bclone_any (w : World) (A : Option Addr) (c : Nat) (xs : List UInt8) (hl : Byt w w.heap.size A xs) (hm : xs.length ≤ 140737488355328) :
    Calls Try.prog 28 #[.slice A xs.length c] w fun e w' => ∃ A' c', e = .returned (.slice A' xs.length c') ∧ xs.length ≤ c' ∧ Byt w' w'.heap.size A' xs ∧ Grew w w' none := by
  have HL := Lib.hid hl
  have HM := Lib.hid hm
  cases A with
  | none =>
    have e0 : xs = [] := by
      rcases Nat.eq_zero_or_pos xs.length with h | h
      · exact List.eq_nil_of_length_eq_zero h
      · obtain ⟨_, _, h, _⟩ := hl h
        cases h
    subst e0
    clear hl hm
    have he : ∀ w : World, (binOp .eql 23 (.slice none 0 c) (.slice none 0 0)).run Try.prog w = .ok (.bool true) w := fun _ => by kernel_rfl
    go_enter Try.func28, Try.ntmps28
    go_wp2_with fail
    go_ret
    exact ⟨none, 0, rfl, Nat.le_refl _, (fun h => by simp at h), grew_refl _ _⟩
  | some a =>
    clear hl hm
    have he : ∀ w : World, (binOp .eql 23 (.slice (some a) xs.length c) (.slice none 0 0)).run Try.prog w = .ok (.bool false) w := fun _ => by kernel_rfl
    go_enter Try.func28, Try.ntmps28
    have HA := Lib.hid (fun ty => append_bytes (P := Try.prog) (w := w.alloc (.cells #[] 5)) 23 ty 5 Try.underlying23 info_u8 (xs := []) (v := .slice (some ⟨w.heap.size, 0, none⟩) 0 0) (n := 0) ⟨rfl, .inr ⟨w.heap.size, 0, #[], rfl, Nat.zero_le _, Whole.new _ _ _, Nat.le_refl _, by unfold maxLen; omega, rfl, rfl⟩⟩ (F := (· < w.heap.size)) ((HL.out.grew (grew_alloc (grew_refl _ none) _) (fun _ h => by cases h)).byf) c (by have := HM.out; omega))
    go_wp2_with (at_builtin; refine wpList_append_run _ rfl (.tmp 5) (.tmp 6) 23 rfl rfl rfl HA.out ?_; rintro v' w1 ⟨a1, a2, a3⟩; have A1 := Lib.hid a1; have A2 := Lib.hid a2; have A3 := Lib.hid a3; clear a1 a2 a3)
    go_ret
    obtain ⟨A', c', rfl, h1, h3⟩ := byt_of_own A1.out
    exact ⟨A', c', rfl, h1, h3, grew_own (grew_alloc (grew_refl _ none) _) A2.out (Nat.le_refl _)⟩

theorem vlist_any (w : World) (A : Option Addr) (c : Nat) (ps : List Va) (hl : Va.Lie w A ps) (hp : ∀ p ∈ ps, p.In w) (hm : ps.length ≤ 2513169434916) :
    Calls Try.prog 17 #[.slice A ps.length c] w fun e w' => ∃ A' c', e = .returned (Va.mk 0 none 0 [] A' c' ps).val ∧ (Va.mk 0 none 0 [] A' c' ps).In w' ∧ Grew w w' none := by
  have HL := Lib.hid hl
  have HP := Lib.hid hp
  have HM := Lib.hid hm
  clear hl hp hm
  go_enter Try.func17, Try.ntmps17
  go_wp2_with fail
  refine (vclone_any _ A c ps (HL.out.grew (grew_alloc (grew_refl _ _) _)) HM.out).mono ?_
  rintro e w1 ⟨A', c', rfl, h1, h2, h3, g⟩
  have hW := (Whole.new w _ _).grew g (by simp)
  have HH := Lib.hid (show ps.length ≤ c' ∧ Va.Lie w1 A' ps ∧ (∀ a, A' = some a → w.heap.size < a.block) ∧ Grew w w1 none from ⟨h1, h2, fun a ha => by have := h3 a ha; simp at this; omega, grew_trans (grew_alloc (grew_refl _ _) _) g⟩)
  clear h1 h2 h3 g
  generalize hq : w.heap.size = q at *
  have HQ := Lib.hid hq
  have HW := Lib.hid hW
  have hf := hW.frozen
  have hc0 := hW.cell 0
  have hc1 := hW.cell 1
  have hc2 := hW.cell 2
  simp only [List.getElem?_toArray, List.getElem?_cons_succ, List.getElem?_cons_zero] at hc0 hc1 hc2
  clear hW hq
  go_wp2_with fail
  obtain ⟨h1, h2, h3, g⟩ := HH.out
  have hg : Grew w (put3 w1 q (.int .u64 0) (.slice none 0 0) (.slice A' ps.length c')) none := grew_put3 g (by have := HQ.out; omega) _ _ _
  refine bodyPost_ret (results_cell_row rfl _ _ q _ _ _ _ rfl (HW.out.put3 _ _ _) Try.underlying26 rfl (by kernel_rfl)) rfl ⟨A', c', rfl, ?_, hg⟩
  exact .mk (by omega) (fun h => by simp at h) (by simp) h1 HM.out (h2.fr (fr_put3 _ _ _ _ _) (fun a ha e => by have := h3 a ha; omega)) (fun p hp => (HP.out p hp).grew hg)

theorem vbytes_any (w : World) (A : Option Addr) (c : Nat) (xs : List UInt8) (hl : Byt w w.heap.size A xs) (hm : xs.length ≤ 140737488355328) :
    Calls Try.prog 16 #[.slice A xs.length c] w fun e w' => ∃ A' c', e = .returned (Va.mk 0 A' c' xs none 0 []).val ∧ (Va.mk 0 A' c' xs none 0 []).In w' ∧ Grew w w' none := by
  have HL := Lib.hid hl
  have HM := Lib.hid hm
  clear hl hm
  go_enter Try.func16, Try.ntmps16
  go_wp2_with fail
  refine (bclone_any _ A c xs ((HL.out.grew (grew_alloc (grew_refl _ none) _) (fun _ h => by cases h)).more (by simp)) HM.out).mono ?_
  rintro e w1 ⟨A', c', rfl, h1, h2, g⟩
  have hW := (Whole.new w _ _).grew g (by simp)
  have HH := Lib.hid (show xs.length ≤ c' ∧ Byt w1 w1.heap.size A' xs ∧ Grew w w1 none from ⟨h1, h2, grew_trans (grew_alloc (grew_refl _ _) _) g⟩)
  clear h1 h2 g
  generalize hq : w.heap.size = q at *
  have HQ := Lib.hid hq
  have HW := Lib.hid hW
  have hf := hW.frozen
  have hc0 := hW.cell 0
  have hc1 := hW.cell 1
  have hc2 := hW.cell 2
  simp only [List.getElem?_toArray, List.getElem?_cons_succ, List.getElem?_cons_zero] at hc0 hc1 hc2
  clear hW hq
  go_wp2_with fail
  obtain ⟨h1, h2, g⟩ := HH.out
  have hg : Grew w (put3 w1 q (.int .u64 0) (.slice A' xs.length c') (.slice none 0 0)) none := grew_put3 g (by have := HQ.out; omega) _ _ _
  refine bodyPost_ret (results_cell_row rfl _ _ q _ _ _ _ rfl (HW.out.put3 _ _ _) Try.underlying26 rfl (by kernel_rfl)) rfl ⟨A', c', rfl, ?_, hg⟩
  refine .mk (by omega) ?_ ⟨h1, HM.out⟩ (by simp) (by simp) (Va.Lie.nil _ _) (fun p hp => by simp at hp)
  intro hn
  obtain ⟨b, o, e, hb, hc⟩ := h2 hn
  have hbq : b ≠ q := by
    rintro rfl
    have c0 := hc 0 hn
    have := HW.out.cell (o + 0)
    rw [this] at c0
    have ho : o = 0 ∨ o = 1 ∨ o = 2 ∨ 3 ≤ o := by omega
    rcases ho with rfl | rfl | rfl | ho
    · simp at c0
    · simp at c0
    · simp at c0
    · rw [Array.getElem?_eq_none (by simp; omega)] at c0; cases c0
  refine ⟨b, o, e, Nat.lt_of_lt_of_le hb (by simp [World.setCell]), fun i hi => ?_⟩
  exact (fr_put3 w1 q _ _ _).cell (hc i hi) hbq

end Go.Proofs.Ytmdmfinpcbedcaa

