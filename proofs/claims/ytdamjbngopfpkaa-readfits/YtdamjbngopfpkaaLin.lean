/- Regions that draw their order, in which one operation at a time may come up that is no read: steps for them. -/
import Derived.Test.YtdamjbngopfpkaaHm
import Derived.Test.YtdamjbngopfpkaaVm
namespace Go.Proofs.Ytdamjbngopfpkaa
open Go.RowKit Va

theorem wanted_yes {ops : Array Oper} {o : Oper} {A : Act} {j d : Nat} {b : Bool} (hg : o.guard = some (j, b)) (hd : (ops[j]?).bind (·.dst) = some d) (h : A.eval (.tmp d) = .bool b) : Region.wanted o (yielded ops A.tmps) = true := by
  simp only [Act.eval] at h
  unfold Region.wanted yielded
  rw [hg]
  simp only [hd, Option.bind_some]
  cases hx : A.tmps[d]? with
  | none => simp [Array.getD_eq_getD_getElem?, hx, undef] at h
  | some x => simp [Array.getD_eq_getD_getElem?, hx] at h; subst h; simp
theorem wanted_no {ops : Array Oper} {o : Oper} {A : Act} {j d : Nat} {b : Bool} (hg : o.guard = some (j, !b)) (hd : (ops[j]?).bind (·.dst) = some d) (h : A.eval (.tmp d) = .bool b) : Region.wanted o (yielded ops A.tmps) = false := by
  simp only [Act.eval] at h
  unfold Region.wanted yielded
  rw [hg]
  simp only [hd, Option.bind_some]
  cases hx : A.tmps[d]? with
  | none => simp [Array.getD_eq_getD_getElem?, hx, undef] at h
  | some x => simp [Array.getD_eq_getD_getElem?, hx] at h; subst h; cases b <;> rfl

section
variable {ops : Array Oper} {S : World → Prop} {o : Oper} {a : Act}
/-- A call of a function, by its contract. -/
theorem wp_callG {f : FuncId} {xs : Array Operand} {ts : Array TypeId} (ho : o.op = .call { callee := .value (.func f), args := xs, argTypes := ts }) (hw : Region.wanted o (yielded ops a.tmps) = true) {vs : Array Value} (hc : ∀ args w, (callFunc f args).run Try.prog w = .ok (.enter f args) w) (hv : xs.map a.eval = vs) {w : World} {K : Act → World → Prop} {Q : Exit → Act → World → Prop}
    (h : Calls Try.prog f vs w fun e w' => ∃ v, e = .returned v ∧ K (a.put o.dst v) w') : if Region.wanted o (yielded ops a.tmps) = true then Oper.wp Try.prog o a w K Q else K (a.put o.dst undef) w := by
  rw [if_pos hw]
  subst hv
  unfold Oper.wp
  rw [run_callF ho rfl hc]
  exact h.mono fun e w' ⟨v, he, hk⟩ => by subst he; exact hk
/-- An operation whose run is known. -/
theorem wp_runG (hw : Region.wanted o (yielded ops a.tmps) = true) {v : Value} {w w' : World} (hr : (execOp a.eval o).run Try.prog w = .ok (.value v) w') {K : Act → World → Prop} {Q : Exit → Act → World → Prop}
    (h : K (a.put o.dst v) w') : if Region.wanted o (yielded ops a.tmps) = true then Oper.wp Try.prog o a w K Q else K (a.put o.dst undef) w := by
  rw [if_pos hw]
  unfold Oper.wp
  rw [hr]
  exact h
theorem wp_skipG (hw : Region.wanted o (yielded ops a.tmps) = true) {w w' : World} (hr : (execOp a.eval o).run Try.prog w = .ok .skip w') {K : Act → World → Prop} {Q : Exit → Act → World → Prop}
    (h : K (a.put o.dst undef) w') : if Region.wanted o (yielded ops a.tmps) = true then Oper.wp Try.prog o a w K Q else K (a.put o.dst undef) w := by
  rw [if_pos hw]
  unfold Oper.wp
  rw [hr]
  exact h
theorem run_vbuild2 {ρ : Operand → Value} {x y : Operand} {f g : Va} (ho : o.op = .buildSlice 33 2 #[(0, x), (1, y)]) (hx : ρ x = f.val) (hy : ρ y = g.val) (w : World) :
    (execOp ρ o).run Try.prog w = .ok (.value (.slice (some ⟨w.heap.size, 0, none⟩) 2 2)) (w.alloc (.cells (flat [f, g]).toArray 35)) := by
  simp [execOp, ho, hx, hy, go_sem, Va.val, Va.cells, flat]
theorem run_vbuild3 {ρ : Operand → Value} {x y z : Operand} {f g h : Va} (ho : o.op = .buildSlice 33 3 #[(0, x), (1, y), (2, z)]) (hx : ρ x = f.val) (hy : ρ y = g.val) (hz : ρ z = h.val) (w : World) :
    (execOp ρ o).run Try.prog w = .ok (.value (.slice (some ⟨w.heap.size, 0, none⟩) 3 3)) (w.alloc (.cells (flat [f, g, h]).toArray 35)) := by
  simp [execOp, ho, hx, hy, hz, go_sem, Va.val, Va.cells, flat]
theorem wp_vbuild2 (hw : Region.wanted o (yielded ops a.tmps) = true) {x y : Operand} {f g : Va} (ho : o.op = .buildSlice 33 2 #[(0, x), (1, y)]) (hx : a.eval x = f.val) (hy : a.eval y = g.val) {w : World} {K : Act → World → Prop} {Q : Exit → Act → World → Prop}
    (h : ∀ q W', Va.Lie W' (some ⟨q, 0, none⟩) [f, g] → Grew w W' none → K (a.put o.dst (.slice (some ⟨q, 0, none⟩) 2 2)) W') :
    if Region.wanted o (yielded ops a.tmps) = true then Oper.wp Try.prog o a w K Q else K (a.put o.dst undef) w :=
  wp_runG hw (run_vbuild2 ho hx hy w) (h _ _ (Va.Lie.whole (Whole.new w _ _) (by simp)) (grew_alloc (grew_refl _ none) _))
theorem wp_vbuild3 (hw : Region.wanted o (yielded ops a.tmps) = true) {x y z : Operand} {f g i : Va} (ho : o.op = .buildSlice 33 3 #[(0, x), (1, y), (2, z)]) (hx : a.eval x = f.val) (hy : a.eval y = g.val) (hz : a.eval z = i.val) {w : World} {K : Act → World → Prop} {Q : Exit → Act → World → Prop}
    (h : ∀ q W', Va.Lie W' (some ⟨q, 0, none⟩) [f, g, i] → Grew w W' none → K (a.put o.dst (.slice (some ⟨q, 0, none⟩) 3 3)) W') :
    if Region.wanted o (yielded ops a.tmps) = true then Oper.wp Try.prog o a w K Q else K (a.put o.dst undef) w :=
  wp_runG hw (run_vbuild3 ho hx hy hz w) (h _ _ (Va.Lie.whole (Whole.new w _ _) (by simp)) (grew_alloc (grew_refl _ none) _))
end

section
variable {ρ : Operand → Value} {o : Oper}
theorem run_eql {t u : TypeId} {x y : Operand} {a b : Int} (ho : o.op = .binOp .eql t x y u) (hx : ρ x = .int .i64 a) (hy : ρ y = .int .i64 b) (w : World) : (execOp ρ o).run Try.prog w = .ok (.value (.bool (a == b))) w := by
  simp [execOp, ho, hx, hy, go_sem]
theorem run_neq {t u : TypeId} {x y : Operand} {a b : Int} (ho : o.op = .binOp .neq t x y u) (hx : ρ x = .int .i64 a) (hy : ρ y = .int .i64 b) (w : World) : (execOp ρ o).run Try.prog w = .ok (.value (.bool (a != b))) w := by
  simp [execOp, ho, hx, hy, go_sem]
theorem run_not {t : TypeId} {x : Operand} {b : Bool} (ho : o.op = .unOp .not t x) (hx : ρ x = .bool b) (w : World) : (execOp ρ o).run Try.prog w = .ok (.value (.bool (!b))) w := by
  simp [execOp, ho, hx, go_sem]
theorem run_pickT {x y z : Operand} {v : Value} (ho : o.op = .pick x y z) (hx : ρ x = .bool true) (hy : ρ y = v) (w : World) : (execOp ρ o).run Try.prog w = .ok (.value v) w := by
  simp [execOp, ho, hx, hy, go_sem]
theorem run_pickF {x y z : Operand} {v : Value} (ho : o.op = .pick x y z) (hx : ρ x = .bool false) (hz : ρ z = v) (w : World) : (execOp ρ o).run Try.prog w = .ok (.value v) w := by
  simp [execOp, ho, hx, hz, go_sem]
end
end Go.Proofs.Ytdamjbngopfpkaa

