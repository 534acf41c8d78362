/- Operations of a region that draws its order, taken one by one by plain laws. -/
import Derived.Test.YtdamjbngopfpkaaFa
import Derived.OrdersHeld
import Derived.Deep.RegionHeld
namespace Go.Proofs.Ytdamjbngopfpkaa
open Go.RowKit Fo

section
variable {ρ : Operand → Value} {o : Oper}
theorem run_int {x : Operand} {q i : Nat} {v : Int} (ho : o.op = .load 3 x) (hx : ρ x = .pointer (some ⟨q, i, none⟩)) {w : World} (hc : w.cell? ⟨q, i, none⟩ = some (.int .i64 v)) : (execOp ρ o).run Try.prog w = .ok (.value (.int .i64 v)) w := by
  simp [execOp, ho, hx, go_sem, hc]
theorem run_form {x : Operand} {q : Nat} {f : Fo} (ho : o.op = .load 24 x) (hx : ρ x = .pointer (some ⟨q, 0, none⟩)) {w : World} (hc : Whole w q f.cells 24) : (execOp ρ o).run Try.prog w = .ok (.value f.val) w := by
  obtain ⟨c0, c1, c2, c3, c4, c5⟩ := hc.six
  simp [execOp, ho, hx, go_sem, c0, c1, c2, c3, c4, c5]
  rfl
theorem run_atS {x y : Operand} {b o' n l c : Nat} (ho : o.op = .indexAddr 22 x y) (hx : ρ x = .slice (some ⟨b, o', none⟩) l c) (hy : ρ y = .int .i64 n) (hn : n < l) (w : World) : (execOp ρ o).run Try.prog w = .ok (.value (.pointer (some ⟨b, o' + n * 6, none⟩))) w := by
  have hn' : (n : Int) < l := by omega
  simp [execOp, ho, go_sem, hx, hy, hn]
theorem run_formAt {x : Operand} {b q : Nat} {f : Fo} (ho : o.op = .load 24 x) (hx : ρ x = .pointer (some ⟨b, q, none⟩)) {w : World} (c0 : w.cell? ⟨b, q, none⟩ = some (.int .i64 f.k)) (c1 : w.cell? ⟨b, q + 1, none⟩ = some (.int .i64 f.s)) (c2 : w.cell? ⟨b, q + 2, none⟩ = some (.int .i64 f.l)) (c3 : w.cell? ⟨b, q + 3, none⟩ = some (.int .i64 f.h)) (c4 : w.cell? ⟨b, q + 4, none⟩ = some (.int .i64 f.t)) (c5 : w.cell? ⟨b, q + 5, none⟩ = some (.slice f.A f.ps.length f.c)) :
    (execOp ρ o).run Try.prog w = .ok (.value f.val) w := by
  simp [execOp, ho, hx, go_sem, c0, c1, c2, c3, c4, c5]
  rfl
theorem run_newF (ho : o.op = .alloc 24) (w : World) : (execOp ρ o).run Try.prog w = .ok (.value (.pointer (some ⟨w.heap.size, 0, none⟩))) (w.alloc (.cells #[.int .i64 0, .int .i64 0, .int .i64 0, .int .i64 0, .int .i64 0, .slice none 0 0] 24)) := by
  simp [execOp, ho, go_sem]
theorem run_newF2 (ho : o.op = .alloc 24) (w : World) (o2 : Obj) : (execOp ρ o).run Try.prog (w.alloc o2) = .ok (.value (.pointer (some ⟨w.heap.size + 1, 0, none⟩))) ((w.alloc o2).alloc (.cells #[.int .i64 0, .int .i64 0, .int .i64 0, .int .i64 0, .int .i64 0, .slice none 0 0] 24)) := by
  simp [execOp, ho, go_sem]
theorem run_storeF {x y : Operand} {q : Nat} {f : Fo} (ho : o.op = .store 24 x y) (hx : ρ x = .pointer (some ⟨q, 0, none⟩)) (hy : ρ y = f.val) {w : World} {a0 a1 a2 a3 a4 a5 : Value} (h : Whole w q #[a0, a1, a2, a3, a4, a5] 24) :
    (execOp ρ o).run Try.prog w = .ok .skip (put6 w q (.int .i64 f.k) (.int .i64 f.s) (.int .i64 f.l) (.int .i64 f.h) (.int .i64 f.t) (.slice f.A f.ps.length f.c)) := by
  obtain ⟨c0, c1, c2, c3, c4, c5⟩ := h.six
  have hz := h.frozen
  simp [execOp, ho, hx, hy, go_sem, Fo.val, Fo.cells, c0, c1, c2, c3, c4, c5, hz, put6]
theorem run_moveV {x : Operand} {v : Value} (ho : o.op = .move x) (hx : ρ x = v) (w : World) : (execOp ρ o).run Try.prog w = .ok (.value v) w := by rw [← hx]; exact BigFrame.run_move x ho w
theorem run_callF {f : FuncId} {xs : Array Operand} {ts : Array TypeId} (ho : o.op = .call { callee := .value (.func f), args := xs, argTypes := ts }) (hf : ρ (.func f) = .func (.func f) #[] #[]) (hc : ∀ args w, (callFunc f args).run Try.prog w = .ok (.enter f args) w) (w : World) : (execOp ρ o).run Try.prog w = .ok (.enter f (xs.map ρ)) w := by
  simp [execOp, ho, hf, go_sem, hc]
theorem run_build2 {x y : Operand} {f g : Fo} (ho : o.op = .buildSlice 22 2 #[(0, x), (1, y)]) (hx : ρ x = f.val) (hy : ρ y = g.val) (w : World) :
    (execOp ρ o).run Try.prog w = .ok (.value (.slice (some ⟨w.heap.size, 0, none⟩) 2 2)) (w.alloc (.cells (flat [f, g]).toArray 24)) := by
  simp [execOp, ho, hx, hy, go_sem, Fo.val, Fo.cells, flat]
theorem run_build6 {x0 x1 x2 x3 x4 x5 : Operand} {f0 f1 f2 f3 f4 f5 : Fo} (ho : o.op = .buildSlice 22 6 #[(0, x0), (1, x1), (2, x2), (3, x3), (4, x4), (5, x5)]) (h0 : ρ x0 = f0.val) (h1 : ρ x1 = f1.val) (h2 : ρ x2 = f2.val) (h3 : ρ x3 = f3.val) (h4 : ρ x4 = f4.val) (h5 : ρ x5 = f5.val) (w : World) :
    (execOp ρ o).run Try.prog w = .ok (.value (.slice (some ⟨w.heap.size, 0, none⟩) 6 6)) (w.alloc (.cells (flat [f0, f1, f2, f3, f4, f5]).toArray 24)) := by
  simp [execOp, ho, h0, h1, h2, h3, h4, h5, go_sem, Fo.val, Fo.cells, flat]
end

theorem ev_self (a : Act) (n : Nat) (v : Value) (h : n < a.tmps.size) : (a.put (some n) v).eval (.tmp n) = v := by simp [Act.put, Act.eval, h]
theorem ev_ne (a : Act) {m n : Nat} (v : Value) (h : m ≠ n) : (a.put (some m) v).eval (.tmp n) = a.eval (.tmp n) := by simp [Act.put, Act.eval, h]
theorem sz_put (a : Act) (n : Nat) (v : Value) : (a.put (some n) v).tmps.size = a.tmps.size := by simp [Act.put]
theorem pc (a : Act) (m n : Nat) (u v : Value) (h : m ≠ n) : (a.put (some m) u).put (some n) v = (a.put (some n) v).put (some m) u := by
  simp only [Act.put]
  rw [Array.setIfInBounds_comm _ _ h]
theorem comm80_2 (B : Act) (u l : Value) : (B.put (some 80) u).put (some 77) l = (B.put (some 77) l).put (some 80) u := pc B 80 77 u l (by decide)
theorem comm80_1 (B : Act) (u o l : Value) : ((B.put (some 80) u).put (some 67) o).put (some 77) l = ((B.put (some 67) o).put (some 77) l).put (some 80) u := by rw [pc B 80 67 u o (by decide), pc _ 80 77 u l (by decide)]
theorem comm80_0 (B : Act) (u n o l : Value) : (((B.put (some 80) u).put (some 60) n).put (some 67) o).put (some 77) l = (((B.put (some 60) n).put (some 67) o).put (some 77) l).put (some 80) u := by rw [pc B 80 60 u n (by decide), pc _ 80 67 u o (by decide), pc _ 80 77 u l (by decide)]
theorem act_letterC {P : Program} {c : Code} {Q : Exit → Act → World → Prop} {a : Act} {w : World} (h : ∀ A, a = A → c.wp P Q A w) : c.wp P Q a w := h a rfl
theorem put_none (a : Act) (v : Value) : a.put none v = a := rfl
theorem act_letter {P : Program} {md : Region.Mode} {ops : Array Oper} {Q : Exit → Act → World → Prop} {S : World → Prop} {fuel : Nat} {listed : Array Bool} {a : Act} {w : World} (h : ∀ A, a = A → wpAnyH P md ops Q S fuel listed A w) : wpAnyH P md ops Q S fuel listed a w := h a rfl

section
variable {ops : Array Oper} {S : World → Prop} {o : Oper} {a : Act}
theorem yi (hg : o.guard = none) {v : Value} (h : ∀ w, S w → (execOp a.eval o).run Try.prog w = .ok (.value v) w) : YieldsIf Try.prog ops S o v a := .inl ⟨by simp [Region.wanted, hg], h⟩
/-- A call of a function, by its contract. -/
theorem wp_callH {f : FuncId} {xs : Array Operand} {ts : Array TypeId} (ho : o.op = .call { callee := .value (.func f), args := xs, argTypes := ts }) (hg : o.guard = none) {vs : Array Value} (hc : ∀ args w, (callFunc f args).run Try.prog w = .ok (.enter f args) w) (hv : xs.map a.eval = vs) {w : World} {K : Act → World → Prop} {Q : Exit → Act → World → Prop}
    (h : Calls Try.prog f vs w fun e w' => ∃ v, e = .returned v ∧ K (a.put o.dst v) w') : if Region.wanted o (yielded ops a.tmps) = true then Oper.wp Try.prog o a w K Q else K (a.put o.dst undef) w := by
  rw [if_pos (by simp [Region.wanted, hg])]
  subst hv
  unfold Oper.wp
  rw [run_callF ho rfl hc]
  exact h.mono fun e w' ⟨v, he, hk⟩ => by subst he; exact hk
/-- A store whose run is known. -/
theorem wp_skipH (hg : o.guard = none) {w w' : World} (hr : (execOp a.eval o).run Try.prog w = .ok .skip w') {K : Act → World → Prop} {Q : Exit → Act → World → Prop}
    (h : K (a.put o.dst undef) w') : if Region.wanted o (yielded ops a.tmps) = true then Oper.wp Try.prog o a w K Q else K (a.put o.dst undef) w := by
  rw [if_pos (by simp [Region.wanted, hg])]
  unfold Oper.wp
  rw [hr]
  exact h
/-- An operation whose run is known. -/
theorem wp_runH (hg : o.guard = none) {v : Value} {w w' : World} (hr : (execOp a.eval o).run Try.prog w = .ok (.value v) w') {K : Act → World → Prop} {Q : Exit → Act → World → Prop}
    (h : K (a.put o.dst v) w') : if Region.wanted o (yielded ops a.tmps) = true then Oper.wp Try.prog o a w K Q else K (a.put o.dst undef) w := by
  rw [if_pos (by simp [Region.wanted, hg])]
  unfold Oper.wp
  rw [hr]
  exact h
end
end Go.Proofs.Ytdamjbngopfpkaa

