/- Contracts of forms that are made, and of their parts that play a part. -/
import Derived.Test.YtdamjbngopfpkaaRows
import Derived.Test.YtdamjbngopfpkaaFo
import Derived.Lib.Hide
import Derived.IntWalk
namespace Go.Proofs.Ytdamjbngopfpkaa
open Go.RowKit Fo

theorem ne_beq {a b : Int} (h : ¬ a = b) : (a == b) = false := by simpa using h

theorem parts_any (w : World) (f : Fo) :
    Calls Try.prog 28 #[f.val] w fun e w' => e = .returned f.innV ∧ Grew w w' none := by
  obtain ⟨k, s, l, h, t, A, c, ps⟩ := f
  have key : (k = 2 ∨ k = 3) ∨ ((k == 2) = false ∧ (k == 3) = false ∧ ¬ (k = 2 ∨ k = 3)) := by
    by_cases h2 : k = 2
    · exact .inl (.inl h2)
    · by_cases h3 : k = 3
      · exact .inl (.inr h3)
      · exact .inr ⟨ne_beq h2, ne_beq h3, by omega⟩
  simp only [Fo.val, Fo.cells, Fo.innV, Fo.k, Fo.s, Fo.l, Fo.h, Fo.t, Fo.A, Fo.ps, Fo.c]
  rcases key with (rfl | rfl) | ⟨h2, h3, hn⟩
  · go_enter Try.func28, Try.ntmps28
    go_wp2_with fail
    go_ret
    exact ⟨rfl, grew_alloc (grew_refl _ _) _⟩
  · go_enter Try.func28, Try.ntmps28
    go_wp2_with fail
    go_ret
    exact ⟨rfl, grew_alloc (grew_refl _ _) _⟩
  · rw [if_neg hn]
    clear hn
    go_enter Try.func28, Try.ntmps28
    go_wp2_with fail
    go_ret
    exact ⟨rfl, grew_alloc (grew_refl _ _) _⟩

theorem inside_any (w : World) (f : Fo) :
    Calls Try.prog 52 #[f.val] w fun e w' => e = .returned f.innV ∧ Grew w w' none := by
  obtain ⟨k, s, l, h, t, A, c, ps⟩ := f
  have key : (k = 2 ∨ k = 3) ∨ ((k == 2) = false ∧ (k == 3) = false ∧ ¬ (k = 2 ∨ k = 3)) := by
    by_cases h2 : k = 2
    · exact .inl (.inl h2)
    · by_cases h3 : k = 3
      · exact .inl (.inr h3)
      · exact .inr ⟨ne_beq h2, ne_beq h3, by omega⟩
  simp only [Fo.val, Fo.cells, Fo.innV, Fo.k, Fo.s, Fo.l, Fo.h, Fo.t, Fo.A, Fo.ps, Fo.c]
  rcases key with (rfl | rfl) | ⟨h2, h3, hn⟩
  · go_enter Try.func52, Try.ntmps52
    go_wp2_with fail
    go_ret
    exact ⟨rfl, grew_alloc (grew_refl _ _) _⟩
  · go_enter Try.func52, Try.ntmps52
    go_wp2_with fail
    go_ret
    exact ⟨rfl, grew_alloc (grew_refl _ _) _⟩
  · rw [if_neg hn]
    clear hn
    go_enter Try.func52, Try.ntmps52
    go_wp2_with fail
    go_ret
    exact ⟨rfl, grew_alloc (grew_refl _ _) _⟩

theorem info_form : (Try.prog.info? 24).map (fun i => (i.zero, i.size, i.bytes)) = some (some (.agg #[.int .i64 0, .int .i64 0, .int .i64 0, .int .i64 0, .int .i64 0, .slice none 0 0]), 6, 64) := by kernel_rfl

set_option maxRecDepth 100000 in
/-- 'append(v, parts...)': v owns a row of forms. -/
theorem append_forms (w : World) (ty : TypeId) {v : Value} {n : Nat} {xs : List Fo} (hown : w.ownsRow 0 24 6 v n (flat xs)) {A : Option Addr} {ps : List Fo} (hb : Lie w A ps) (c : Nat) (hm : n + ps.length ≤ 2199023255552) :
    ∃ v' w', (Builtin.append_ #[22, 22] ty #[v, .slice A ps.length c]).run Try.prog w = .ok v' w' ∧ AppLeft w 24 6 v (n + ps.length) (flat (xs ++ ps)) v' w' := by
  obtain ⟨i, hi, hz⟩ := Option.map_eq_some_iff.1 info_form
  simp only [Prod.mk.injEq] at hz
  obtain ⟨hz0, hz1, hz2⟩ := hz
  cases A with
  | none =>
    have e0 : ps = [] := by
      rcases Nat.eq_zero_or_pos ps.length with h | h
      · exact List.eq_nil_of_length_eq_zero h
      · obtain ⟨_, _, h, _⟩ := hb h
        cases h
    subst e0
    exact ⟨v, w, append_none w Try.underlying22 hi hown c, by simpa using hown, grew_refl _ _, .inl rfl⟩
  | some a =>
    have hn : ∀ j u, (flat ps)[j]? = some u → w.cell? (a.add j) = some u := by
      intro j u hu
      have hj : j < (flat ps).length := by
        rcases Nat.lt_or_ge j (flat ps).length with h | h
        · exact h
        · rw [List.getElem?_eq_none h] at hu; cases hu
      obtain ⟨p, hp, hc⟩ := flat_lt hj
      rw [flat_length] at hj
      obtain ⟨b, o, e, hcell⟩ := hb (by omega)
      cases e
      rw [addr_add]
      have := hcell _ p hp _ u (hc.trans hu)
      rw [← this]
      congr 2
      omega
    obtain ⟨v', w', hr, h2, h3, _, h5⟩ := run_append_own_at (P := Try.prog) w 0 22 ty 24 i _ 6 64 Try.underlying22 hi hz0 hz1 hz2 rfl (by omega) v n (flat xs) hown a ps.length c (flat ps) (flat_length _) hn (flat_one _)
      (by unfold maxLen; omega) (by omega) (Nat.zero_le _)
    exact ⟨v', w', hr, by rw [flat_append]; exact h2, h3, h5⟩

end Go.Proofs.Ytdamjbngopfpkaa

