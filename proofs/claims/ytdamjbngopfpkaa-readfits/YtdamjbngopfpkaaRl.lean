/- Operations of reading's drawn regions, one by one. -/
import Derived.Test.YtdamjbngopfpkaaLin
import Derived.Test.YtdamjbngopfpkaaRx5
namespace Go.Proofs.Ytdamjbngopfpkaa
open Go.RowKit Va

section
variable {ρ : Operand → Value} {o : Oper}
theorem run_fieldF0 {x : Operand} {q : Nat} (ho : o.op = .fieldAddr 24 x 0) (hx : ρ x = .pointer (some ⟨q, 0, none⟩)) (w : World) : (execOp ρ o).run Try.prog w = .ok (.value (.pointer (some ⟨q, 0, none⟩))) w := by
  simp [execOp, ho, hx, go_sem]
theorem run_nilc {x : Operand} {q i : Nat} (ho : o.op = .nilCheck x) (hx : ρ x = .pointer (some ⟨q, i, none⟩)) (w : World) : (execOp ρ o).run Try.prog w = .ok (.value (.pointer (some ⟨q, i, none⟩))) w := by
  simp [execOp, ho, hx, go_sem]
theorem run_fieldR {x : Operand} {q : Nat} (ho : o.op = .fieldAddr 78 x 1) (hx : ρ x = .pointer (some ⟨q, 0, none⟩)) (w : World) : (execOp ρ o).run Try.prog w = .ok (.value (.pointer (some ⟨q, 1, none⟩))) w := by
  simp [execOp, ho, hx, go_sem]
theorem run_idx {x y : Operand} {q k : Nat} (ho : o.op = .indexAddr 75 x y) (hx : ρ x = .pointer (some ⟨q, 1, none⟩)) (hy : ρ y = .int .i64 (k : Int)) (hk : k < 6) (w : World) : (execOp ρ o).run Try.prog w = .ok (.value (.pointer (some ⟨q, 1 + k, none⟩))) w := by
  have key : k = 0 ∨ k = 1 ∨ k = 2 ∨ k = 3 ∨ k = 4 ∨ k = 5 := by omega
  rcases key with rfl | rfl | rfl | rfl | rfl | rfl <;> simp [execOp, ho, go_sem, hx, hy]
theorem run_fn {x : Operand} {q i : Nat} {v : Value} (ho : o.op = .load 74 x) (hx : ρ x = .pointer (some ⟨q, i, none⟩)) {w : World} (hc : w.cell? ⟨q, i, none⟩ = some v) : (execOp ρ o).run Try.prog w = .ok (.value v) w := by
  simp [execOp, ho, hx, go_sem, hc]
theorem run_ext0 {x : Operand} {u v : Value} (ho : o.op = .extract x 0) (hx : ρ x = .tuple #[u, v]) (w : World) : (execOp ρ o).run Try.prog w = .ok (.value u) w := by
  simp [execOp, ho, hx, go_sem]
theorem run_ext1 {x : Operand} {u v : Value} (ho : o.op = .extract x 1) (hx : ρ x = .tuple #[u, v]) (w : World) : (execOp ρ o).run Try.prog w = .ok (.value v) w := by
  simp [execOp, ho, hx, go_sem]
theorem run_ext30 {x : Operand} {u v z : Value} (ho : o.op = .extract x 0) (hx : ρ x = .tuple #[u, v, z]) (w : World) : (execOp ρ o).run Try.prog w = .ok (.value u) w := by
  simp [execOp, ho, hx, go_sem]
theorem run_ext31 {x : Operand} {u v z : Value} (ho : o.op = .extract x 1) (hx : ρ x = .tuple #[u, v, z]) (w : World) : (execOp ρ o).run Try.prog w = .ok (.value v) w := by
  simp [execOp, ho, hx, go_sem]
theorem run_ext32 {x : Operand} {u v z : Value} (ho : o.op = .extract x 2) (hx : ρ x = .tuple #[u, v, z]) (w : World) : (execOp ρ o).run Try.prog w = .ok (.value z) w := by
  simp [execOp, ho, hx, go_sem]
theorem run_loadV {x : Operand} {q : Nat} {v : Va} (ho : o.op = .load 35 x) (hx : ρ x = .pointer (some ⟨q, 0, none⟩)) {w : World} (hc : Whole w q v.cells 35) : (execOp ρ o).run Try.prog w = .ok (.value v.val) w := by
  obtain ⟨c0, c1, c2⟩ := hc.three
  simp [execOp, ho, hx, go_sem, c0, c1, c2]
  rfl
theorem run_loadFa {x : Operand} {q : Nat} {y e : Int} (ho : o.op = .load 62 x) (hx : ρ x = .pointer (some ⟨q, 0, none⟩)) {w : World} (hc : Whole w q #[.int .i64 y, .int .i64 e] 62) : (execOp ρ o).run Try.prog w = .ok (.value (fault y e)) w := by
  obtain ⟨c0, c1⟩ := hc.two
  simp [execOp, ho, hx, go_sem, c0, c1]
  rfl
theorem run_storeVa {x y : Operand} {q : Nat} {v : Va} (ho : o.op = .store 35 x y) (hx : ρ x = .pointer (some ⟨q, 0, none⟩)) (hy : ρ y = v.val) {w : World} {a0 a1 a2 : Value} (h : Whole w q #[a0, a1, a2] 35) :
    (execOp ρ o).run Try.prog w = .ok .skip (put3 w q (.int .u64 v.n) (.slice v.B v.bs.length v.d) (.slice v.A v.ls.length v.c)) := by
  obtain ⟨c0, c1, c2⟩ := h.three
  have hz := h.frozen
  simp [execOp, ho, hx, hy, go_sem, Va.val, Va.cells, c0, c1, c2, hz, put3]
theorem run_storeFa {x y : Operand} {q : Nat} {z e : Int} (ho : o.op = .store 62 x y) (hx : ρ x = .pointer (some ⟨q, 0, none⟩)) (hy : ρ y = fault z e) {w : World} {a0 a1 : Value} (h : Whole w q #[a0, a1] 62) :
    (execOp ρ o).run Try.prog w = .ok .skip (put2 w q (.int .i64 z) (.int .i64 e)) := by
  obtain ⟨c0, c1⟩ := h.two
  have hz := h.frozen
  simp [execOp, ho, hx, hy, go_sem, fault, c0, c1, hz, put2]
theorem run_assign {x : Operand} {v : Value} (ho : o.op = .assign x) (hx : ρ x = v) (w : World) : (execOp ρ o).run Try.prog w = .ok (.value v) w := by
  simp [execOp, ho, hx, go_sem]
theorem run_callV {f : FuncId} {x : Nat} {xs : Array Operand} {ts : Array TypeId} (ho : o.op = .call { callee := .value (.tmp x), args := xs, argTypes := ts }) (hf : ρ (.tmp x) = .func (.func f) #[] #[]) (hc : ∀ args w, (callFunc f args).run Try.prog w = .ok (.enter f args) w) (w : World) : (execOp ρ o).run Try.prog w = .ok (.enter f (xs.map ρ)) w := by
  simp [execOp, ho, hf, go_sem, hc]
end

section
variable {ops : Array Oper} {o : Oper} {a : Act}
/-- A call of a function value. -/
theorem wp_callV {f : FuncId} {x : Nat} {xs : Array Operand} {ts : Array TypeId} (ho : o.op = .call { callee := .value (.tmp x), args := xs, argTypes := ts }) (hw : Region.wanted o (yielded ops a.tmps) = true) (hf : a.eval (.tmp x) = .func (.func f) #[] #[]) (hc : ∀ args w, (callFunc f args).run Try.prog w = .ok (.enter f args) w) {vs : Array Value} (hv : xs.map a.eval = vs) {w : World} {K : Act → World → Prop} {Q : Exit → Act → World → Prop}
    (h : Calls Try.prog f vs w fun e w' => ∃ v, e = .returned v ∧ K (a.put o.dst v) w') : if Region.wanted o (yielded ops a.tmps) = true then Oper.wp Try.prog o a w K Q else K (a.put o.dst undef) w := by
  rw [if_pos hw]
  subst hv
  unfold Oper.wp
  rw [run_callV ho hf hc]
  exact h.mono fun e w' ⟨v, he, hk⟩ => by subst he; exact hk
end
end Go.Proofs.Ytdamjbngopfpkaa

