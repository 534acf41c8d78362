/- The rows of tags: the package's own map. -/
import Derived.Test.YtnegakobammljaaRw3
namespace Go.Proofs.Ytnegakobammljaa
open Go.RowKit Go.Maps

section
variable {ρ : Operand → Value} {o : Oper}
set_option maxRecDepth 100000 in
theorem run_rowb {f : FuncId} (ho : o.op = .build 57 #[(0, .func f)]) (hf : ρ (.func f) = .func (.func f) #[] #[]) (w : World) : (execOp ρ o).run Try.prog w = .ok (.value (.agg #[.func (.func f) #[] #[], .int .i64 0])) w := by
  simp [execOp, ho, hf, go_sem]
set_option maxRecDepth 100000 in
theorem run_rowl {q : Nat} (ho : o.op = .load 57 (.tmp 1)) (h1 : ρ (.tmp 1) = .pointer (some ⟨q, 0, none⟩)) {w : World} (h : Whole w q #[.func (.func 34) #[] #[], .int .i64 0] 57) : (execOp ρ o).run Try.prog w = .ok (.value (.agg #[.func (.func 34) #[] #[], .int .i64 0])) w := by
  have c0 : w.cell? ⟨q, 0, none⟩ = some (.func (.func 34) #[] #[]) := h.cell 0
  have c1 : w.cell? ⟨q, 1, none⟩ = some (.int .i64 0) := h.cell 1
  simp [execOp, ho, h1, go_sem, c0, c1]
set_option maxRecDepth 100000 in
theorem run_rowm (ho : o.op = .makeMap 59 none) (w : World) : (execOp ρ o).run Try.prog w = .ok (.value (.map (some w.heap.size))) (w.alloc (.map #[] 0)) := by
  simp [execOp, ho, go_sem, run_makeMap]
set_option maxRecDepth 100000 in
theorem run_rowi {t : Int} {x : Operand} {q : Nat} {v : Value} (ho : o.op = .insert 59 (.tmp 3) (.const (.int .i64 t)) x) (h3 : ρ (.tmp 3) = .map (some q)) (hc : ρ (.const (.int .i64 t)) = .int .i64 t) (hx : ρ x = v) {w w' : World}
    (hr : (Instr.mapUpdate 59 (.map (some q)) (.int .i64 t) v).run Try.prog w = .ok () w') : (execOp ρ o).run Try.prog w = .ok .skip w' := by
  simp [execOp, ho, h3, hc, hx, go_sem, hr, Result.andThen]
set_option maxRecDepth 100000 in
theorem run_rowt {n : Int} (ho : o.op = .call { callee := .value (.func 37), args := #[.const (.int .i64 n)], argTypes := #[3] }) (hf : ρ (.func 37) = .func (.func 37) #[] #[]) (hc : ρ (.const (.int .i64 n)) = .int .i64 n) (w : World) : (execOp ρ o).run Try.prog w = .ok (.enter 37 #[.int .i64 n]) w := by
  have hk : ∀ args w, (callFunc 37 args).run Try.prog w = .ok (.enter 37 args) w := fun _ _ => by kernel_rfl
  simp [execOp, ho, hf, hc, go_sem, hk]
theorem run_rowv {x : Operand} (ho : o.op = .move x ∨ o.op = .assign x) (w : World) : (execOp ρ o).run Try.prog w = .ok (.value (ρ x)) w := by
  rcases ho with ho | ho <;> simp [execOp, ho, go_sem]
end

theorem rows_dag : ∀ (i : Nat) (o : Oper), rowsR[i]? = some o → ∀ e ∈ o.after, e.on < i := by
  have key : ((List.range 37).all fun i => ((rowsR[i]?).map fun o => o.after.all fun e => decide (e.on < i)).getD true) = true := by decide +kernel
  intro i o ho e he
  have hi : i < 37 := by
    rcases Nat.lt_or_ge i 37 with h | h
    · exact h
    · rw [Array.getElem?_eq_none (by exact h)] at ho; cases ho
  have := List.all_eq_true.1 key i (List.mem_range.2 hi)
  rw [ho] at this
  simp only [Option.map_some, Option.getD_some, Array.all_eq_true'] at this
  simpa using this e he

theorem rw_plain {w : World} {t : Int} {f : Nat} (h : ¬ (t = 23 ∨ t = 24)) (hf : rwFn t = f) : RwOf w t (.agg #[.func (.func f) #[] #[], .int .i64 0]) := by
  unfold RwOf
  rw [if_neg h, hf]

set_option maxRecDepth 100000 in
set_option maxHeartbeats 1000000 in
theorem rows_step {W0 : World} {q1 : Nat} (hW : Whole W0 q1 #[.func (.func 34) #[] #[], .int .i64 0] 57) {Q : Exit → Act → World → Prop} (listed : Array Bool) (a : Act) (w : World) (i : Nat) (o : Oper) (I : RwI W0 q1 listed a w) (ho : rowsR[i]? = some o) (hn : listed.getD i true = false)
    (hd : ∀ e ∈ o.after, Region.binds .any e = true → listed.getD e.on false = true) (K : Act → World → Prop) (hK : ∀ a' w', RwI W0 q1 (listed.setIfInBounds i true) a' w' → K a' w') :
    if Region.wanted o (yielded rowsR a.tmps) = true then Oper.wp Try.prog o a w K Q else K (a.put o.dst undef) w := by
  have hi : i < 37 := by
    rcases Nat.lt_or_ge i 37 with h | h
    · exact h
    · rw [Array.getElem?_eq_none (by exact h)] at ho; cases ho
  have hw : Whole w q1 #[.func (.func 34) #[] #[], .int .i64 0] 57 := hW.grew I.grew (by simp)
  have key : i = 0 ∨ i = 1 ∨ i = 2 ∨ i = 3 ∨ i = 4 ∨ i = 5 ∨ i = 6 ∨ i = 7 ∨ i = 8 ∨ i = 9 ∨ i = 10 ∨ i = 11 ∨ i = 12 ∨ i = 13 ∨ i = 14 ∨ i = 15 ∨ i = 16 ∨ i = 17 ∨ i = 18 ∨ i = 19 ∨ i = 20 ∨ i = 21 ∨ i = 22 ∨ i = 23 ∨ i = 24 ∨ i = 25 ∨ i = 26 ∨ i = 27 ∨ i = 28 ∨ i = 29 ∨ i = 30 ∨ i = 31 ∨ i = 32 ∨ i = 33 ∨ i = 34 ∨ i = 35 ∨ i = 36 := by omega
  rcases key with rfl | rfl | rfl | rfl | rfl | rfl | rfl | rfl | rfl | rfl | rfl | rfl | rfl | rfl | rfl | rfl | rfl | rfl | rfl | rfl | rfl | rfl | rfl | rfl | rfl | rfl | rfl | rfl | rfl | rfl | rfl | rfl | rfl | rfl | rfl | rfl | rfl
  · obtain rfl : rowsR_0 = o := Option.some.inj ho
    exact iv_run rfl (run_rowm rfl w) (hK _ _ (I.made hn))
  · obtain rfl : rowsR_1 = o := Option.some.inj ho
    exact iv_run rfl (run_rowb rfl rfl w) (hK _ _ (I.val (j := 0) (by omega) hn (rw_plain (by decide) rfl) (grew_refl _ _)))
  · obtain rfl : rowsR_2 = o := Option.some.inj ho
    obtain ⟨q, w1, h1, h2, h3⟩ := I.ins (j := 0) (by omega) hn (hd { on := 0, ground := .data } (by simp [rowsR_2]) rfl) (hd { on := 1, ground := .data } (by simp [rowsR_2]) rfl)
    exact iv_skip rfl (run_rowi rfl h1 rfl rfl h2) (hK _ _ h3)
  · obtain rfl : rowsR_3 = o := Option.some.inj ho
    exact iv_run rfl (run_rowb rfl rfl w) (hK _ _ (I.val (j := 1) (by omega) hn (rw_plain (by decide) rfl) (grew_refl _ _)))
  · obtain rfl : rowsR_4 = o := Option.some.inj ho
    obtain ⟨q, w1, h1, h2, h3⟩ := I.ins (j := 1) (by omega) hn (hd { on := 0, ground := .data } (by simp [rowsR_4]) rfl) (hd { on := 3, ground := .data } (by simp [rowsR_4]) rfl)
    exact iv_skip rfl (run_rowi rfl h1 rfl rfl h2) (hK _ _ h3)
  · obtain rfl : rowsR_5 = o := Option.some.inj ho
    exact iv_run rfl (run_rowb rfl rfl w) (hK _ _ (I.val (j := 2) (by omega) hn (rw_plain (by decide) rfl) (grew_refl _ _)))
  · obtain rfl : rowsR_6 = o := Option.some.inj ho
    obtain ⟨q, w1, h1, h2, h3⟩ := I.ins (j := 2) (by omega) hn (hd { on := 0, ground := .data } (by simp [rowsR_6]) rfl) (hd { on := 5, ground := .data } (by simp [rowsR_6]) rfl)
    exact iv_skip rfl (run_rowi rfl h1 rfl rfl h2) (hK _ _ h3)
  · obtain rfl : rowsR_7 = o := Option.some.inj ho
    exact iv_run rfl (run_rowb rfl rfl w) (hK _ _ (I.val (j := 3) (by omega) hn (rw_plain (by decide) rfl) (grew_refl _ _)))
  · obtain rfl : rowsR_8 = o := Option.some.inj ho
    obtain ⟨q, w1, h1, h2, h3⟩ := I.ins (j := 3) (by omega) hn (hd { on := 0, ground := .data } (by simp [rowsR_8]) rfl) (hd { on := 7, ground := .data } (by simp [rowsR_8]) rfl)
    exact iv_skip rfl (run_rowi rfl h1 rfl rfl h2) (hK _ _ h3)
  · obtain rfl : rowsR_9 = o := Option.some.inj ho
    exact iv_run rfl (run_rowb rfl rfl w) (hK _ _ (I.val (j := 4) (by omega) hn (rw_plain (by decide) rfl) (grew_refl _ _)))
  · obtain rfl : rowsR_10 = o := Option.some.inj ho
    obtain ⟨q, w1, h1, h2, h3⟩ := I.ins (j := 4) (by omega) hn (hd { on := 0, ground := .data } (by simp [rowsR_10]) rfl) (hd { on := 9, ground := .data } (by simp [rowsR_10]) rfl)
    exact iv_skip rfl (run_rowi rfl h1 rfl rfl h2) (hK _ _ h3)
  · obtain rfl : rowsR_11 = o := Option.some.inj ho
    exact iv_run rfl (run_rowb rfl rfl w) (hK _ _ (I.val (j := 5) (by omega) hn (rw_plain (by decide) rfl) (grew_refl _ _)))
  · obtain rfl : rowsR_12 = o := Option.some.inj ho
    obtain ⟨q, w1, h1, h2, h3⟩ := I.ins (j := 5) (by omega) hn (hd { on := 0, ground := .data } (by simp [rowsR_12]) rfl) (hd { on := 11, ground := .data } (by simp [rowsR_12]) rfl)
    exact iv_skip rfl (run_rowi rfl h1 rfl rfl h2) (hK _ _ h3)
  · obtain rfl : rowsR_13 = o := Option.some.inj ho
    exact iv_run rfl (run_rowb rfl rfl w) (hK _ _ (I.val (j := 6) (by omega) hn (rw_plain (by decide) rfl) (grew_refl _ _)))
  · obtain rfl : rowsR_14 = o := Option.some.inj ho
    obtain ⟨q, w1, h1, h2, h3⟩ := I.ins (j := 6) (by omega) hn (hd { on := 0, ground := .data } (by simp [rowsR_14]) rfl) (hd { on := 13, ground := .data } (by simp [rowsR_14]) rfl)
    exact iv_skip rfl (run_rowi rfl h1 rfl rfl h2) (hK _ _ h3)
  · obtain rfl : rowsR_15 = o := Option.some.inj ho
    exact iv_run rfl (run_rowl rfl I.one hw) (hK _ _ (I.val (j := 7) (by omega) hn (rw_plain (by decide) rfl) (grew_refl _ _)))
  · obtain rfl : rowsR_16 = o := Option.some.inj ho
    obtain ⟨q, w1, h1, h2, h3⟩ := I.ins (j := 7) (by omega) hn (hd { on := 0, ground := .data } (by simp [rowsR_16]) rfl) (hd { on := 15, ground := .data } (by simp [rowsR_16]) rfl)
    exact iv_skip rfl (run_rowi rfl h1 rfl rfl h2) (hK _ _ h3)
  · obtain rfl : rowsR_17 = o := Option.some.inj ho
    exact iv_run rfl (run_rowl rfl I.one hw) (hK _ _ (I.val (j := 8) (by omega) hn (rw_plain (by decide) rfl) (grew_refl _ _)))
  · obtain rfl : rowsR_18 = o := Option.some.inj ho
    obtain ⟨q, w1, h1, h2, h3⟩ := I.ins (j := 8) (by omega) hn (hd { on := 0, ground := .data } (by simp [rowsR_18]) rfl) (hd { on := 17, ground := .data } (by simp [rowsR_18]) rfl)
    exact iv_skip rfl (run_rowi rfl h1 rfl rfl h2) (hK _ _ h3)
  · obtain rfl : rowsR_19 = o := Option.some.inj ho
    exact iv_run rfl (run_rowl rfl I.one hw) (hK _ _ (I.val (j := 9) (by omega) hn (rw_plain (by decide) rfl) (grew_refl _ _)))
  · obtain rfl : rowsR_20 = o := Option.some.inj ho
    obtain ⟨q, w1, h1, h2, h3⟩ := I.ins (j := 9) (by omega) hn (hd { on := 0, ground := .data } (by simp [rowsR_20]) rfl) (hd { on := 19, ground := .data } (by simp [rowsR_20]) rfl)
    exact iv_skip rfl (run_rowi rfl h1 rfl rfl h2) (hK _ _ h3)
  · obtain rfl : rowsR_21 = o := Option.some.inj ho
    exact iv_run rfl (run_rowl rfl I.one hw) (hK _ _ (I.val (j := 10) (by omega) hn (rw_plain (by decide) rfl) (grew_refl _ _)))
  · obtain rfl : rowsR_22 = o := Option.some.inj ho
    obtain ⟨q, w1, h1, h2, h3⟩ := I.ins (j := 10) (by omega) hn (hd { on := 0, ground := .data } (by simp [rowsR_22]) rfl) (hd { on := 21, ground := .data } (by simp [rowsR_22]) rfl)
    exact iv_skip rfl (run_rowi rfl h1 rfl rfl h2) (hK _ _ h3)
  · obtain rfl : rowsR_23 = o := Option.some.inj ho
    exact iv_run rfl (run_rowl rfl I.one hw) (hK _ _ (I.val (j := 11) (by omega) hn (rw_plain (by decide) rfl) (grew_refl _ _)))
  · obtain rfl : rowsR_24 = o := Option.some.inj ho
    obtain ⟨q, w1, h1, h2, h3⟩ := I.ins (j := 11) (by omega) hn (hd { on := 0, ground := .data } (by simp [rowsR_24]) rfl) (hd { on := 23, ground := .data } (by simp [rowsR_24]) rfl)
    exact iv_skip rfl (run_rowi rfl h1 rfl rfl h2) (hK _ _ h3)
  · obtain rfl : rowsR_25 = o := Option.some.inj ho
    exact iv_call rfl (run_rowt rfl rfl rfl w) ((timerow_any w 2).mono fun e w1 ⟨p, h1, _, h3, h4⟩ => ⟨_, h1, hK _ _ (I.val (j := 12) (by omega) hn (by unfold RwOf; rw [if_pos (by decide)]; exact ⟨p, rfl, h3⟩) h4)⟩)
  · obtain rfl : rowsR_26 = o := Option.some.inj ho
    obtain ⟨q, w1, h1, h2, h3⟩ := I.ins (j := 12) (by omega) hn (hd { on := 0, ground := .data } (by simp [rowsR_26]) rfl) (hd { on := 25, ground := .data } (by simp [rowsR_26]) rfl)
    exact iv_skip rfl (run_rowi rfl h1 rfl rfl h2) (hK _ _ h3)
  · obtain rfl : rowsR_27 = o := Option.some.inj ho
    exact iv_call rfl (run_rowt rfl rfl rfl w) ((timerow_any w 4).mono fun e w1 ⟨p, h1, _, h3, h4⟩ => ⟨_, h1, hK _ _ (I.val (j := 13) (by omega) hn (by unfold RwOf; rw [if_pos (by decide)]; exact ⟨p, rfl, h3⟩) h4)⟩)
  · obtain rfl : rowsR_28 = o := Option.some.inj ho
    obtain ⟨q, w1, h1, h2, h3⟩ := I.ins (j := 13) (by omega) hn (hd { on := 0, ground := .data } (by simp [rowsR_28]) rfl) (hd { on := 27, ground := .data } (by simp [rowsR_28]) rfl)
    exact iv_skip rfl (run_rowi rfl h1 rfl rfl h2) (hK _ _ h3)
  · obtain rfl : rowsR_29 = o := Option.some.inj ho
    exact iv_run rfl (run_rowl rfl I.one hw) (hK _ _ (I.val (j := 14) (by omega) hn (rw_plain (by decide) rfl) (grew_refl _ _)))
  · obtain rfl : rowsR_30 = o := Option.some.inj ho
    obtain ⟨q, w1, h1, h2, h3⟩ := I.ins (j := 14) (by omega) hn (hd { on := 0, ground := .data } (by simp [rowsR_30]) rfl) (hd { on := 29, ground := .data } (by simp [rowsR_30]) rfl)
    exact iv_skip rfl (run_rowi rfl h1 rfl rfl h2) (hK _ _ h3)
  · obtain rfl : rowsR_31 = o := Option.some.inj ho
    exact iv_run rfl (run_rowl rfl I.one hw) (hK _ _ (I.val (j := 15) (by omega) hn (rw_plain (by decide) rfl) (grew_refl _ _)))
  · obtain rfl : rowsR_32 = o := Option.some.inj ho
    obtain ⟨q, w1, h1, h2, h3⟩ := I.ins (j := 15) (by omega) hn (hd { on := 0, ground := .data } (by simp [rowsR_32]) rfl) (hd { on := 31, ground := .data } (by simp [rowsR_32]) rfl)
    exact iv_skip rfl (run_rowi rfl h1 rfl rfl h2) (hK _ _ h3)
  · obtain rfl : rowsR_33 = o := Option.some.inj ho
    exact iv_run rfl (run_rowl rfl I.one hw) (hK _ _ (I.val (j := 16) (by omega) hn (rw_plain (by decide) rfl) (grew_refl _ _)))
  · obtain rfl : rowsR_34 = o := Option.some.inj ho
    obtain ⟨q, w1, h1, h2, h3⟩ := I.ins (j := 16) (by omega) hn (hd { on := 0, ground := .data } (by simp [rowsR_34]) rfl) (hd { on := 33, ground := .data } (by simp [rowsR_34]) rfl)
    exact iv_skip rfl (run_rowi rfl h1 rfl rfl h2) (hK _ _ h3)
  · obtain rfl : rowsR_35 = o := Option.some.inj ho
    exact iv_run rfl (run_rowv (.inl rfl) w) (hK _ _ (I.moved hn (hd { on := 0, ground := .data } (by simp [rowsR_35]) rfl)))
  · obtain rfl : rowsR_36 = o := Option.some.inj ho
    exact iv_run rfl (run_rowv (.inr rfl) w) (hK _ _ (I.given hn (hd { on := 35, ground := .data } (by simp [rowsR_36]) rfl)))
end Go.Proofs.Ytnegakobammljaa

