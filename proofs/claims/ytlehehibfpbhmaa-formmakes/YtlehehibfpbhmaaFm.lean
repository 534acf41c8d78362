/- Contracts of forms that are made, and of their parts that play a part. -/
import Derived.Test.YtlehehibfpbhmaaRows
import Derived.Test.YtlehehibfpbhmaaFo
import Derived.Lib.Hide
import Derived.IntWalk
namespace Go.Proofs.Ytlehehibfpbhmaa
open Go.RowKit Fo

theorem ne_beq {a b : Int} (h : ¬ a = b) : (a == b) = false := by simpa using h

theorem parts_any (w : World) (f : Fo) :
    Calls Try.prog 27 #[f.val] w fun e w' => e = .returned f.innV ∧ Grew w w' none := by
  obtain ⟨k, s, l, h, t, A, c, ps⟩ := f
  have key : (k = 2 ∨ k = 3) ∨ ((k == 2) = false ∧ (k == 3) = false ∧ ¬ (k = 2 ∨ k = 3)) := by
    by_cases h2 : k = 2
    · exact .inl (.inl h2)
    · by_cases h3 : k = 3
      · exact .inl (.inr h3)
      · exact .inr ⟨ne_beq h2, ne_beq h3, by omega⟩
  simp only [Fo.val, Fo.cells, Fo.innV, Fo.k, Fo.s, Fo.l, Fo.h, Fo.t, Fo.A, Fo.ps, Fo.c]
  rcases key with (rfl | rfl) | ⟨h2, h3, hn⟩
  · go_enter Try.func27, Try.ntmps27
    go_wp2_with fail
    go_ret
    exact ⟨rfl, grew_alloc (grew_refl _ _) _⟩
  · go_enter Try.func27, Try.ntmps27
    go_wp2_with fail
    go_ret
    exact ⟨rfl, grew_alloc (grew_refl _ _) _⟩
  · rw [if_neg hn]
    clear hn
    go_enter Try.func27, Try.ntmps27
    go_wp2_with fail
    go_ret
    exact ⟨rfl, grew_alloc (grew_refl _ _) _⟩

theorem inside_any (w : World) (f : Fo) :
    Calls Try.prog 36 #[f.val] w fun e w' => e = .returned f.innV ∧ Grew w w' none := by
  obtain ⟨k, s, l, h, t, A, c, ps⟩ := f
  have key : (k = 2 ∨ k = 3) ∨ ((k == 2) = false ∧ (k == 3) = false ∧ ¬ (k = 2 ∨ k = 3)) := by
    by_cases h2 : k = 2
    · exact .inl (.inl h2)
    · by_cases h3 : k = 3
      · exact .inl (.inr h3)
      · exact .inr ⟨ne_beq h2, ne_beq h3, by omega⟩
  simp only [Fo.val, Fo.cells, Fo.innV, Fo.k, Fo.s, Fo.l, Fo.h, Fo.t, Fo.A, Fo.ps, Fo.c]
  rcases key with (rfl | rfl) | ⟨h2, h3, hn⟩
  · go_enter Try.func36, Try.ntmps36
    go_wp2_with fail
    go_ret
    exact ⟨rfl, grew_alloc (grew_refl _ _) _⟩
  · go_enter Try.func36, Try.ntmps36
    go_wp2_with fail
    go_ret
    exact ⟨rfl, grew_alloc (grew_refl _ _) _⟩
  · rw [if_neg hn]
    clear hn
    go_enter Try.func36, Try.ntmps36
    go_wp2_with fail
    go_ret
    exact ⟨rfl, grew_alloc (grew_refl _ _) _⟩

theorem number_any (w : World) (s : Int) :
    Calls Try.prog 12 #[.int .i64 s] w fun e w' => e = .returned (Fo.mk 0 s 0 0 0 none 0 []).val ∧ Grew w w' none := by
  go_enter Try.func12, Try.ntmps12
  go_wp2_with fail
  refine bodyPost_ret (results_cell_row rfl _ _ w.heap.size _ _ _ _ rfl (Whole.new _ _ _) Try.underlying24 rfl (by kernel_rfl)) rfl ⟨rfl, ?_⟩
  exact grew_alloc (grew_refl _ _) _

theorem opaque_any (w : World) (s l h : Int) :
    Calls Try.prog 13 #[.int .i64 s, .int .i64 l, .int .i64 h] w fun e w' => e = .returned (Fo.mk 1 s l h 1 none 0 []).val ∧ Grew w w' none := by
  go_enter Try.func13, Try.ntmps13
  go_wp2_with fail
  refine bodyPost_ret (results_cell_row rfl _ _ w.heap.size _ _ _ _ rfl (Whole.new _ _ _) Try.underlying24 rfl (by kernel_rfl)) rfl ⟨rfl, ?_⟩
  exact grew_alloc (grew_refl _ _) _
theorem rest_any (w : World) (l h : Int) :
    Calls Try.prog 16 #[.int .i64 l, .int .i64 h] w fun e w' => e = .returned (Fo.mk 4 0 l h 0 none 0 []).val ∧ Grew w w' none := by
  go_enter Try.func16, Try.ntmps16
  go_wp2_with fail
  refine bodyPost_ret (results_cell_row rfl _ _ w.heap.size _ _ _ _ rfl (Whole.new _ _ _) Try.underlying24 rfl (by kernel_rfl)) rfl ⟨rfl, ?_⟩
  exact grew_alloc (grew_refl _ _) _
theorem fixed_any (w : World) (l : Int) :
    Calls Try.prog 17 #[.int .i64 l] w fun e w' => e = .returned (Fo.mk 5 0 l 0 0 none 0 []).val ∧ Grew w w' none := by
  go_enter Try.func17, Try.ntmps17
  go_wp2_with fail
  refine bodyPost_ret (results_cell_row rfl _ _ w.heap.size _ _ _ _ rfl (Whole.new _ _ _) Try.underlying24 rfl (by kernel_rfl)) rfl ⟨rfl, ?_⟩
  exact grew_alloc (grew_refl _ _) _

theorem list_any (w : World) (s l h t : Int) (f : Fo) (hf : f.In w) :
    Calls Try.prog 14 #[.int .i64 s, .int .i64 l, .int .i64 h, .int .i64 t, f.val] w fun e w' => ∃ A c, e = .returned (Fo.mk 2 s l h t A c [f]).val ∧ (Fo.mk 2 s l h t A c [f]).In w' ∧ Grew w w' none ∧ (∀ a, A = some a → w.heap.size ≤ a.block) := by
  have HF := Lib.hid hf
  clear hf
  obtain ⟨k', s', l', h', t', A', c', ps'⟩ := f
  change Calls Try.prog 14 #[.int .i64 s, .int .i64 l, .int .i64 h, .int .i64 t, .agg #[.int .i64 k', .int .i64 s', .int .i64 l', .int .i64 h', .int .i64 t', .slice A' ps'.length c']] w _
  go_enter Try.func14, Try.ntmps14
  go_wp2_with fail
  refine bodyPost_ret (results_cell_row rfl _ _ (w.heap.size + 1) _ _ _ _ rfl ((Whole.new_at (w.alloc _) _ _ (by simp)).grew (grew_alloc (grew_refl _ none) _) (by simp)) Try.underlying24 rfl (by kernel_rfl)) rfl ⟨_, _, rfl, ?_, ?_, ?_⟩
  · refine .mk (by simp) (by simp) (Lie.whole (Whole.new_at _ _ _ (by simp)) rfl) (fun p hp => ?_)
    rw [List.mem_singleton] at hp
    subst hp
    exact HF.out.grew (grew_alloc (grew_alloc (grew_alloc (grew_refl _ _) _) _) _)
  · exact grew_alloc (grew_alloc (grew_alloc (grew_refl _ _) _) _) _
  · intro a ha
    injection ha with ha
    subst ha
    simp only
    omega

theorem info_form : (Try.prog.info? 24).map (fun i => (i.zero, i.size, i.bytes)) = some (some (.agg #[.int .i64 0, .int .i64 0, .int .i64 0, .int .i64 0, .int .i64 0, .slice none 0 0]), 6, 64) := by kernel_rfl

/-- 'append(v, parts...)': v owns a row of forms. -/
theorem append_forms (w : World) (ty : TypeId) {v : Value} {n : Nat} {xs : List Fo} (hown : w.ownsRow 0 24 6 v n (flat xs)) {A : Option Addr} {ps : List Fo} (hb : Lie w A ps) (c : Nat) (hm : n + ps.length ≤ 2199023255552) :
    ∃ v' w', (Builtin.append_ #[22, 22] ty #[v, .slice A ps.length c]).run Try.prog w = .ok v' w' ∧ AppLeft w 24 6 v (n + ps.length) (flat (xs ++ ps)) v' w' := by
  obtain ⟨i, hi, hz⟩ := Option.map_eq_some_iff.1 info_form
  simp only [Prod.mk.injEq] at hz
  obtain ⟨hz0, hz1, hz2⟩ := hz
  cases A with
  | none =>
    have e0 : ps = [] := by
      rcases Nat.eq_zero_or_pos ps.length with h | h
      · exact List.eq_nil_of_length_eq_zero h
      · obtain ⟨_, _, h, _⟩ := hb h
        cases h
    subst e0
    exact ⟨v, w, append_none w Try.underlying22 hi hown c, by simpa using hown, grew_refl _ _, .inl rfl⟩
  | some a =>
    have hn : ∀ j u, (flat ps)[j]? = some u → w.cell? (a.add j) = some u := by
      intro j u hu
      have hj : j < (flat ps).length := by
        rcases Nat.lt_or_ge j (flat ps).length with h | h
        · exact h
        · rw [List.getElem?_eq_none h] at hu; cases hu
      obtain ⟨p, hp, hc⟩ := flat_lt hj
      rw [flat_length] at hj
      obtain ⟨b, o, e, hcell⟩ := hb (by omega)
      cases e
      rw [addr_add]
      have := hcell _ p hp _ u (hc.trans hu)
      rw [← this]
      congr 2
      omega
    obtain ⟨v', w', hr, h2, h3, _, h5⟩ := run_append_own_at (P := Try.prog) w 0 22 ty 24 i _ 6 64 Try.underlying22 hi hz0 hz1 hz2 rfl (by omega) v n (flat xs) hown a ps.length c (flat ps) (flat_length _) hn (flat_one _)
      (by unfold maxLen; omega) (by omega) (Nat.zero_le _)
    exact ⟨v', w', hr, by rw [flat_append]; exact h2, h3, h5⟩

theorem clone_any (w : World) (A : Option Addr) (c : Nat) (ps : List Fo) (hl : Lie w A ps) (hm : ps.length ≤ 2199023255552) :
    Calls Try.prog 28 #[.slice A ps.length c] w fun e w' => ∃ A' c', e = .returned (.slice A' ps.length c') ∧ ps.length ≤ c' ∧ Lie w' A' ps ∧ (∀ a, A' = some a → w.heap.size ≤ a.block) ∧ Grew w w' none := by
  have HL := Lib.hid hl
  have HM := Lib.hid hm
  cases A with
  | none =>
    have e0 : ps = [] := by
      rcases Nat.eq_zero_or_pos ps.length with h | h
      · exact List.eq_nil_of_length_eq_zero h
      · obtain ⟨_, _, h, _⟩ := hl h
        cases h
    subst e0
    clear hl hm
    have he : ∀ w : World, (binOp .eql 22 (.slice none 0 c) (.slice none 0 0)).run Try.prog w = .ok (.bool true) w := fun _ => by kernel_rfl
    go_enter Try.func28, Try.ntmps28
    go_wp2_with fail
    go_ret
    exact ⟨none, 0, rfl, Nat.le_refl _, Lie.nil _ _, (fun _ h => by cases h), grew_refl _ _⟩
  | some a =>
    clear hl hm
    have he : ∀ w : World, (binOp .eql 22 (.slice (some a) ps.length c) (.slice none 0 0)).run Try.prog w = .ok (.bool false) w := fun _ => by kernel_rfl
    go_enter Try.func28, Try.ntmps28
    have HA := Lib.hid (fun ty => append_forms (w.alloc (.cells #[] 24)) ty (xs := []) (v := .slice (some ⟨w.heap.size, 0, none⟩) 0 0) (n := 0) ⟨rfl, .inr ⟨w.heap.size, 0, #[], rfl, Nat.zero_le _, Whole.new _ _ _, Nat.le_refl _, by unfold maxLen; omega, rfl, rfl⟩⟩ (HL.out.grew (grew_alloc (grew_refl _ _) _)) c (by have := HM.out; omega))
    go_wp2_with (at_builtin; refine wpList_append_run _ rfl (.tmp 5) (.tmp 6) 22 rfl rfl rfl HA.out ?_; rintro v' w1 ⟨a1, a2, a3⟩; have A1 := Lib.hid a1; have A2 := Lib.hid a2; have A3 := Lib.hid a3; clear a1 a2 a3)
    go_ret
    obtain ⟨A', c', rfl, h1, h2⟩ := Lie.of_own A1.out
    refine ⟨A', c', rfl, h1, h2, fun a ha => ?_, grew_own (grew_alloc (grew_refl _ none) _) A2.out (Nat.le_refl _)⟩
    subst ha
    have := A3.out
    simp [Value.ownBlock] at this
    omega

/-- Parts, one behind the other. -/
theorem row_any (w : World) (A : Option Addr) (c : Nat) (ps : List Fo) (hl : Lie w A ps) (hp : ∀ p ∈ ps, p.In w) (hm : ps.length ≤ 2199023255552) :
    Calls Try.prog 15 #[.slice A ps.length c] w fun e w' => ∃ A' c', e = .returned (Fo.mk 3 0 0 0 0 A' c' ps).val ∧ (Fo.mk 3 0 0 0 0 A' c' ps).In w' ∧ Grew w w' none ∧ (∀ a, A' = some a → w.heap.size ≤ a.block) := by
  have HL := Lib.hid hl
  have HP := Lib.hid hp
  have HM := Lib.hid hm
  clear hl hp hm
  go_enter Try.func15, Try.ntmps15
  go_wp2_with fail
  refine (clone_any _ A c ps (HL.out.grew (grew_alloc (grew_refl _ _) _)) HM.out).mono ?_
  rintro e w1 ⟨A', c', rfl, h1, h2, h3, g⟩
  have hW := (Whole.new w _ _).grew g (by simp)
  have HH := Lib.hid (show ps.length ≤ c' ∧ Lie w1 A' ps ∧ (∀ a, A' = some a → w.heap.size < a.block) ∧ Grew w w1 none from ⟨h1, h2, fun a ha => by have := h3 a ha; simp at this; omega, grew_trans (grew_alloc (grew_refl _ _) _) g⟩)
  clear h1 h2 h3 g
  generalize hq : w.heap.size = q at *
  have HQ := Lib.hid hq
  have HW := Lib.hid hW
  have hf := hW.frozen
  have hc0 := hW.cell 0
  have hc1 := hW.cell 1
  have hc2 := hW.cell 2
  have hc3 := hW.cell 3
  have hc4 := hW.cell 4
  have hc5 := hW.cell 5
  simp only [List.getElem?_toArray, List.getElem?_cons_succ, List.getElem?_cons_zero] at hc0 hc1 hc2 hc3 hc4 hc5
  clear hW hq
  go_wp2_with fail
  obtain ⟨h1, h2, h3, g⟩ := HH.out
  have hg : Grew w (put6 w1 q (.int .i64 3) (.int .i64 0) (.int .i64 0) (.int .i64 0) (.int .i64 0) (.slice A' ps.length c')) none := grew_put6 g (by have := HQ.out; omega) _ _ _ _ _ _
  refine bodyPost_ret (results_cell_row rfl _ _ q _ _ _ _ rfl (HW.out.put6 _ _ _ _ _ _) Try.underlying24 rfl (by kernel_rfl)) rfl ⟨A', c', rfl, ?_, hg, fun a ha => by have := h3 a ha; have := HQ.out; omega⟩
  exact .mk h1 HM.out (h2.fr (fr_put6 _ _ _ _ _ _ _ _) (fun a ha e => by have := h3 a ha; omega)) (fun p hp => (HP.out p hp).grew hg)

end Go.Proofs.Ytlehehibfpbhmaa

