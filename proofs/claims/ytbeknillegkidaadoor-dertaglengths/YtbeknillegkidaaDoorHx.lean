/- Operations of a region that draws its order, taken one by one by plain laws: what is of no kind of this program. -/
import Derived.Test.YtbeknillegkidaaDoorRows
import Derived.Test.YtbeknillegkidaaDoorFoot
import Derived.OrdersHeld
import Derived.Deep.RegionHeld
namespace Go.Proofs.YtbeknillegkidaaDoor
open Go.RowKit

section
variable {ρ : Operand → Value} {o : Oper}
theorem run_moveV {x : Operand} {v : Value} (ho : o.op = .move x) (hx : ρ x = v) (w : World) : (execOp ρ o).run Tryd.prog w = .ok (.value v) w := by rw [← hx]; exact BigFrame.run_move x ho w
theorem run_callF {f : FuncId} {xs : Array Operand} {ts : Array TypeId} (ho : o.op = .call { callee := .value (.func f), args := xs, argTypes := ts }) (hf : ρ (.func f) = .func (.func f) #[] #[]) (hc : ∀ args w, (callFunc f args).run Tryd.prog w = .ok (.enter f args) w) (w : World) : (execOp ρ o).run Tryd.prog w = .ok (.enter f (xs.map ρ)) w := by
  simp [execOp, ho, hf, go_sem, hc]
theorem run_eql {t u : TypeId} {x y : Operand} {a b : Int} (ho : o.op = .binOp .eql t x y u) (hx : ρ x = .int .i64 a) (hy : ρ y = .int .i64 b) (w : World) : (execOp ρ o).run Tryd.prog w = .ok (.value (.bool (a == b))) w := by
  simp [execOp, ho, hx, hy, go_sem]
theorem run_neq {t u : TypeId} {x y : Operand} {a b : Int} (ho : o.op = .binOp .neq t x y u) (hx : ρ x = .int .i64 a) (hy : ρ y = .int .i64 b) (w : World) : (execOp ρ o).run Tryd.prog w = .ok (.value (.bool (a != b))) w := by
  simp [execOp, ho, hx, hy, go_sem]
theorem run_not {t : TypeId} {x : Operand} {b : Bool} (ho : o.op = .unOp .not t x) (hx : ρ x = .bool b) (w : World) : (execOp ρ o).run Tryd.prog w = .ok (.value (.bool (!b))) w := by
  simp [execOp, ho, hx, go_sem]
theorem run_pickT {x y z : Operand} {v : Value} (ho : o.op = .pick x y z) (hx : ρ x = .bool true) (hy : ρ y = v) (w : World) : (execOp ρ o).run Tryd.prog w = .ok (.value v) w := by
  simp [execOp, ho, hx, hy, go_sem]
theorem run_pickF {x y z : Operand} {v : Value} (ho : o.op = .pick x y z) (hx : ρ x = .bool false) (hz : ρ z = v) (w : World) : (execOp ρ o).run Tryd.prog w = .ok (.value v) w := by
  simp [execOp, ho, hx, hz, go_sem]
theorem run_asgn {x : Operand} {v : Value} (ho : o.op = .assign x) (hx : ρ x = v) (w : World) : (execOp ρ o).run Tryd.prog w = .ok (.value v) w := by
  simp [execOp, ho, hx, go_sem]
theorem run_ldI {x : Operand} {b i : Nat} {v : Value} (ho : o.op = .load 3 x) (hx : ρ x = .pointer (some ⟨b, i, none⟩)) {w : World} (hc : w.cell? ⟨b, i, none⟩ = some v) : (execOp ρ o).run Tryd.prog w = .ok (.value v) w := by
  simp [execOp, ho, hx, go_sem, hc]
theorem run_ldU {x : Operand} {b i : Nat} {v : Value} (ho : o.op = .load 5 x) (hx : ρ x = .pointer (some ⟨b, i, none⟩)) {w : World} (hc : w.cell? ⟨b, i, none⟩ = some v) : (execOp ρ o).run Tryd.prog w = .ok (.value v) w := by
  simp [execOp, ho, hx, go_sem, hc]
theorem run_ldRow {ty : TypeId} {x : Operand} {g : Nat} {v : Value} {w : World} (ho : o.op = .load ty x) (hx : ρ x = .pointer (some ⟨g, 0, none⟩)) (hr : (loadVar ty ⟨g, 0, none⟩).run Tryd.prog w = .ok v w) : (execOp ρ o).run Tryd.prog w = .ok (.value v) w := by
  unfold execOp
  simp only [ho, hx, Instr.loadAt, Instr.sureAddr, Sem.run_bind, Sem.run_pure, Result.andThen_ok, hr]
theorem run_lenU {x : Operand} {A : Option Addr} {l c : Nat} (ho : o.op = .call { callee := .builtin .len, args := #[x], argTypes := #[22] }) (hx : ρ x = .slice A l c) (w : World) : (execOp ρ o).run Tryd.prog w = .ok (.value (.int .i64 (l : Int))) w := by
  simp [execOp, ho, go_sem, hx]
theorem run_idxU {x y : Operand} {b i l c k : Nat} (ho : o.op = .indexAddr 22 x y) (hx : ρ x = .slice (some ⟨b, i, none⟩) l c) (hy : ρ y = .int .i64 (k : Int)) (hk : k < l) (w : World) : (execOp ρ o).run Tryd.prog w = .ok (.value (.pointer (some ⟨b, i + k, none⟩))) w := by
  simp [execOp, ho, go_sem, hx, hy, hk]
theorem run_newB {x : Operand} {v : Value} (ho : o.op = .buildSlice 22 1 #[(0, x)]) (hx : ρ x = v) {k : Int} (hv : v = .int .u8 k) (w : World) : (execOp ρ o).run Tryd.prog w = .ok (.value (.slice (some ⟨w.heap.size, 0, none⟩) 1 1)) (w.alloc (.cells #[.int .u8 k] 5)) := by
  subst hv
  simp [execOp, ho, hx, go_sem]
end

theorem ev_self (a : Act) (n : Nat) (v : Value) (h : n < a.tmps.size) : (a.put (some n) v).eval (.tmp n) = v := by simp [Act.put, Act.eval, h]
theorem ev_ne (a : Act) {m n : Nat} (v : Value) (h : m ≠ n) : (a.put (some m) v).eval (.tmp n) = a.eval (.tmp n) := by simp [Act.put, Act.eval, h]
theorem sz_put (a : Act) (n : Nat) (v : Value) : (a.put (some n) v).tmps.size = a.tmps.size := by simp [Act.put]
theorem act_letterC {P : Program} {c : Code} {Q : Exit → Act → World → Prop} {a : Act} {w : World} (h : ∀ A, a = A → c.wp P Q A w) : c.wp P Q a w := h a rfl
theorem put_none (a : Act) (v : Value) : a.put none v = a := rfl
theorem act_letter {P : Program} {md : Region.Mode} {ops : Array Oper} {Q : Exit → Act → World → Prop} {S : World → Prop} {fuel : Nat} {listed : Array Bool} {a : Act} {w : World} (h : ∀ A, a = A → wpAnyH P md ops Q S fuel listed A w) : wpAnyH P md ops Q S fuel listed a w := h a rfl
theorem wanted_yes {ops : Array Oper} {o : Oper} {A : Act} {j d : Nat} {b : Bool} (hg : o.guard = some (j, b)) (hd : (ops[j]?).bind (·.dst) = some d) (h : A.eval (.tmp d) = .bool b) : Region.wanted o (yielded ops A.tmps) = true := by
  simp only [Act.eval] at h
  unfold Region.wanted yielded
  rw [hg]
  simp only [hd, Option.bind_some]
  cases hx : A.tmps[d]? with
  | none => simp [Array.getD_eq_getD_getElem?, hx, undef] at h
  | some x => simp [Array.getD_eq_getD_getElem?, hx] at h; subst h; simp
theorem wanted_no {ops : Array Oper} {o : Oper} {A : Act} {j d : Nat} {b : Bool} (hg : o.guard = some (j, !b)) (hd : (ops[j]?).bind (·.dst) = some d) (h : A.eval (.tmp d) = .bool b) : Region.wanted o (yielded ops A.tmps) = false := by
  simp only [Act.eval] at h
  unfold Region.wanted yielded
  rw [hg]
  simp only [hd, Option.bind_some]
  cases hx : A.tmps[d]? with
  | none => simp [Array.getD_eq_getD_getElem?, hx, undef] at h
  | some x => simp [Array.getD_eq_getD_getElem?, hx] at h; subst h; cases b <;> rfl

section
variable {ops : Array Oper} {S : World → Prop} {o : Oper} {a : Act}
theorem wp_callG {f : FuncId} {xs : Array Operand} {ts : Array TypeId} (ho : o.op = .call { callee := .value (.func f), args := xs, argTypes := ts }) (hw : Region.wanted o (yielded ops a.tmps) = true) {vs : Array Value} (hc : ∀ args w, (callFunc f args).run Tryd.prog w = .ok (.enter f args) w) (hv : xs.map a.eval = vs) {w : World} {K : Act → World → Prop} {Q : Exit → Act → World → Prop}
    (h : Calls Tryd.prog f vs w fun e w' => ∃ v, e = .returned v ∧ K (a.put o.dst v) w') : if Region.wanted o (yielded ops a.tmps) = true then Oper.wp Tryd.prog o a w K Q else K (a.put o.dst undef) w := by
  rw [if_pos hw]
  subst hv
  unfold Oper.wp
  rw [run_callF ho rfl hc]
  exact h.mono fun e w' ⟨v, he, hk⟩ => by subst he; exact hk
theorem wp_runG (hw : Region.wanted o (yielded ops a.tmps) = true) {v : Value} {w w' : World} (hr : (execOp a.eval o).run Tryd.prog w = .ok (.value v) w') {K : Act → World → Prop} {Q : Exit → Act → World → Prop}
    (h : K (a.put o.dst v) w') : if Region.wanted o (yielded ops a.tmps) = true then Oper.wp Tryd.prog o a w K Q else K (a.put o.dst undef) w := by
  rw [if_pos hw]
  unfold Oper.wp
  rw [hr]
  exact h
theorem wp_skipG (hw : Region.wanted o (yielded ops a.tmps) = true) {w w' : World} (hr : (execOp a.eval o).run Tryd.prog w = .ok .skip w') {K : Act → World → Prop} {Q : Exit → Act → World → Prop}
    (h : K (a.put o.dst undef) w') : if Region.wanted o (yielded ops a.tmps) = true then Oper.wp Tryd.prog o a w K Q else K (a.put o.dst undef) w := by
  rw [if_pos hw]
  unfold Oper.wp
  rw [hr]
  exact h
end
end Go.Proofs.YtbeknillegkidaaDoor

