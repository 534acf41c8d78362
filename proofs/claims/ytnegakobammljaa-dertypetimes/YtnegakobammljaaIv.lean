/- A region that draws its order, by an invariant: whatever comes up keeps it. -/
import Derived.Test.YtnegakobammljaaRows
import Derived.Test.YtnegakobammljaaFoot
import Derived.RegionTactic
namespace Go.Proofs.Ytnegakobammljaa
open Go.RowKit

section
variable {P : Program} {ops : Array Oper} {Q : Exit → Act → World → Prop}

theorem ready_at {listed : Array Bool} {i : Nat} (h : i ∈ Region.ready .any ops listed) :
    ∃ o, ops[i]? = some o ∧ listed.getD i true = false ∧ ∀ e ∈ o.after, Region.binds .any e = true → listed.getD e.on false = true := by
  unfold Region.ready at h
  rw [List.mem_filter] at h
  obtain ⟨_, h2⟩ := h
  rw [Bool.and_eq_true] at h2
  obtain ⟨h3, h4⟩ := h2
  cases ho : ops[i]? with
  | none => rw [ho] at h4; simp at h4
  | some o =>
    rw [ho] at h4
    refine ⟨o, rfl, by simpa using h3, fun e he hb => ?_⟩
    simp at h4
    obtain ⟨k, hk, rfl⟩ := Array.mem_iff_getElem.1 he
    have := h4 k hk
    rw [hb] at this
    simpa using this

/-- How many have not come up yet. -/
def left (listed : Array Bool) : Nat := listed.toList.count false
theorem left_step {listed : Array Bool} {i : Nat} (h : listed.getD i true = false) : left (listed.setIfInBounds i true) + 1 = left listed := by
  have hi : i < listed.size := by
    rcases Nat.lt_or_ge i listed.size with h1 | h1
    · exact h1
    · rw [Array.getD_eq_getD_getElem?, Array.getElem?_eq_none h1] at h; cases h
  have hv : listed[i] = false := by
    rw [Array.getD_eq_getD_getElem?, Array.getElem?_eq_getElem hi] at h; exact h
  unfold left
  rw [Array.toList_setIfInBounds, List.count_set (by simpa using hi)]
  have h1 : listed.toList[i]'(by simpa using hi) = false := by simpa using hv
  have hm : false ∈ listed.toList := by rw [← h1]; exact List.getElem_mem _
  have := List.count_pos_iff.2 hm
  rw [if_pos (by rw [h1]; rfl), if_neg (by decide)]
  omega
theorem left_none {listed : Array Bool} (h : left listed = 0) (i : Nat) : listed.getD i true = true := by
  unfold left at h
  rw [List.count_eq_zero] at h
  rw [Array.getD_eq_getD_getElem?]
  cases hi : listed[i]? with
  | none => rfl
  | some b =>
    have : b ∈ listed.toList := by
      rw [Array.mem_toList_iff]
      exact Array.mem_of_getElem? hi
    cases b with
    | true => rfl
    | false => exact absurd this h
theorem ready_none {listed : Array Bool} (h : left listed = 0) : Region.ready .any ops listed = [] := by
  rw [List.eq_nil_iff_forall_not_mem]
  intro i hi
  obtain ⟨o, _, h2, _⟩ := ready_at hi
  rw [left_none h] at h2
  cases h2

/-- What waits only for what stands ahead of it: while something is left, something may come up. -/
theorem ready_some {listed : Array Bool} (hs : listed.size = ops.size) (hd : ∀ (i : Nat) (o : Oper), ops[i]? = some o → ∀ e ∈ o.after, e.on < i) (h : left listed ≠ 0) : Region.ready .any ops listed ≠ [] := by
  have hex : ∃ i, listed.getD i true = false := by
    apply Classical.byContradiction
    intro hn
    apply h
    unfold left
    rw [List.count_eq_zero]
    intro hm
    obtain ⟨i, hi, e⟩ := List.mem_iff_getElem.1 hm
    refine hn ⟨i, ?_⟩
    rw [Array.getD_eq_getD_getElem?, Array.getElem?_eq_getElem (by simpa using hi)]
    simpa using e
  have : ∀ n, (∃ i, i < n ∧ listed.getD i true = false) → ∃ i, listed.getD i true = false ∧ ∀ j, j < i → listed.getD j true = true := by
    intro n
    induction n with
    | zero => rintro ⟨i, hi, _⟩; omega
    | succ n ih =>
      rintro ⟨i, hi, hv⟩
      by_cases hl : ∃ i, i < n ∧ listed.getD i true = false
      · exact ih hl
      · refine ⟨i, hv, fun j hj => ?_⟩
        cases hc : listed.getD j true with
        | true => rfl
        | false => exact absurd ⟨j, by omega, hc⟩ hl
  obtain ⟨i0, h0⟩ := hex
  obtain ⟨i, hi, hmin⟩ := this (i0 + 1) ⟨i0, by omega, h0⟩
  have hlt : i < ops.size := by
    rw [← hs]
    rcases Nat.lt_or_ge i listed.size with h1 | h1
    · exact h1
    · rw [Array.getD_eq_getD_getElem?, Array.getElem?_eq_none h1] at hi; cases hi
  have ho : ops[i]? = some ops[i] := Array.getElem?_eq_getElem hlt
  intro hnil
  have hmem : i ∈ Region.ready .any ops listed := by
    unfold Region.ready
    rw [List.mem_filter]
    refine ⟨List.mem_range.2 hlt, ?_⟩
    rw [hi, ho]
    simp only [Bool.not_false, Option.map_some, Option.getD_some, Bool.true_and, Array.all_eq_true']
    intro e he
    have hle := hd i _ ho e he
    have := hmin e.on hle
    have hlt2 : e.on < listed.size := by omega
    rw [Array.getD_eq_getD_getElem?, Array.getElem?_eq_getElem hlt2] at this
    rw [Array.getD_eq_getD_getElem?, Array.getElem?_eq_getElem hlt2]
    simp only [Option.getD_some] at this ⊢
    rw [this]
    simp
  rw [hnil] at hmem
  cases hmem

/-- **A region that draws its order, by an invariant.** -/
theorem wpAny_inv (I : Array Bool → Act → World → Prop) (hd : ∀ (i : Nat) (o : Oper), ops[i]? = some o → ∀ e ∈ o.after, e.on < i)
    (hs : ∀ listed a w, I listed a w → listed.size = ops.size)
    (step : ∀ (listed : Array Bool) (a : Act) (w : World) (i : Nat) (o : Oper), I listed a w → ops[i]? = some o → listed.getD i true = false → (∀ e ∈ o.after, Region.binds .any e = true → listed.getD e.on false = true) →
      ∀ K : Act → World → Prop, (∀ a' w', I (listed.setIfInBounds i true) a' w' → K a' w') → if Region.wanted o (yielded ops a.tmps) = true then Oper.wp P o a w K Q else K (a.put o.dst undef) w)
    (done : ∀ (listed : Array Bool) (a : Act) (w : World), I listed a w → left listed = 0 → Q .normal a w) :
    ∀ (fuel : Nat) (listed : Array Bool) (a : Act) (w : World), left listed = fuel → I listed a w → wpAny P .any ops Q fuel listed a w := by
  intro fuel
  induction fuel with
  | zero => intro listed a w hl hI; exact ⟨ready_none hl, done listed a w hI hl⟩
  | succ fuel ih =>
    intro listed a w hl hI
    refine ⟨fun h => absurd h (ready_some (hs _ _ _ hI) hd (by omega)), fun i hi => ?_⟩
    obtain ⟨o, ho, hn, hd⟩ := ready_at hi
    refine wpOp_step ho fun K hK => step listed a w i o hI ho hn hd K fun a' w' hI' => hK a' w' (ih _ a' w' ?_ hI')
    have := left_step hn
    omega
end

section
variable {P : Program} {ops : Array Oper} {o : Oper} {a : Act} {Q : Exit → Act → World → Prop} {K : Act → World → Prop}
theorem iv_run (hg : o.guard = none) {v : Value} {w w' : World} (hr : (execOp a.eval o).run P w = .ok (.value v) w')
    (h : K (a.put o.dst v) w') : if Region.wanted o (yielded ops a.tmps) = true then Oper.wp P o a w K Q else K (a.put o.dst undef) w := by
  rw [if_pos (by simp [Region.wanted, hg])]
  unfold Oper.wp
  rw [hr]
  exact h
theorem iv_skip (hg : o.guard = none) {w w' : World} (hr : (execOp a.eval o).run P w = .ok .skip w')
    (h : K (a.put o.dst undef) w') : if Region.wanted o (yielded ops a.tmps) = true then Oper.wp P o a w K Q else K (a.put o.dst undef) w := by
  rw [if_pos (by simp [Region.wanted, hg])]
  unfold Oper.wp
  rw [hr]
  exact h
theorem iv_call {f : FuncId} {vs : Array Value} (hg : o.guard = none) {w : World} (hr : (execOp a.eval o).run P w = .ok (.enter f vs) w)
    (h : Calls P f vs w fun e w' => ∃ v, e = .returned v ∧ K (a.put o.dst v) w') : if Region.wanted o (yielded ops a.tmps) = true then Oper.wp P o a w K Q else K (a.put o.dst undef) w := by
  rw [if_pos (by simp [Region.wanted, hg])]
  unfold Oper.wp
  rw [hr]
  exact h.mono fun e w' ⟨v, he, hk⟩ => by subst he; exact hk
end
end Go.Proofs.Ytnegakobammljaa

