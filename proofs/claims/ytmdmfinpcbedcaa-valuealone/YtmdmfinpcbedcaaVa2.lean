/- Two copies of a value, in whatever order their memory is made. -/
import Derived.Test.YtmdmfinpcbedcaaLin
namespace Go.Proofs.Ytmdmfinpcbedcaa
open Go.RowKit Va

section
variable {ρ : Operand → Value} {ops : Array Oper} {o : Oper} {a : Act}
theorem run_newV (ho : o.op = .alloc 26) (w : World) : (execOp ρ o).run Try.prog w = .ok (.value (.pointer (some ⟨w.heap.size, 0, none⟩))) (w.alloc (.cells #[.int .u64 0, .slice none 0 0, .slice none 0 0] 26)) := by
  simp [execOp, ho, go_sem]
theorem run_storeV {x y : Operand} {q : Nat} {v : Va} (ho : o.op = .store 26 x y) (hx : ρ x = .pointer (some ⟨q, 0, none⟩)) (hy : ρ y = v.val) {w : World} {a0 a1 a2 : Value} (h : Whole w q #[a0, a1, a2] 26) :
    (execOp ρ o).run Try.prog w = .ok .skip (put3 w q (.int .u64 v.n) (.slice v.B v.bs.length v.d) (.slice v.A v.ls.length v.c)) := by
  obtain ⟨c0, c1, c2⟩ := h.three
  have hz := h.frozen
  simp [execOp, ho, hx, hy, go_sem, Va.val, Va.cells, c0, c1, c2, hz, put3]
/-- A new value, all nought. -/
theorem wp_newV (hw : Region.wanted o (yielded ops a.tmps) = true) (ho : o.op = .alloc 26) {w : World} {K : Act → World → Prop} {Q : Exit → Act → World → Prop}
    (h : ∀ q W', Whole W' q #[.int .u64 0, .slice none 0 0, .slice none 0 0] 26 → Grew w W' none → w.heap.size ≤ q → K (a.put o.dst (.pointer (some ⟨q, 0, none⟩))) W') :
    if Region.wanted o (yielded ops a.tmps) = true then Oper.wp Try.prog o a w K Q else K (a.put o.dst undef) w :=
  wp_runG hw (run_newV ho w) (h _ _ (Whole.new w _ _) (grew_alloc (grew_refl _ none) _) (Nat.le_refl _))
/-- A value stored. -/
theorem wp_storeV (hw : Region.wanted o (yielded ops a.tmps) = true) {x y : Operand} {q : Nat} {v : Va} (ho : o.op = .store 26 x y) (hx : a.eval x = .pointer (some ⟨q, 0, none⟩)) (hy : a.eval y = v.val) {w : World} {a0 a1 a2 : Value} (h0 : Whole w q #[a0, a1, a2] 26)
    {K : Act → World → Prop} {Q : Exit → Act → World → Prop} (h : ∀ W', Whole W' q v.cells 26 → Fr w W' (fun i => i = q) → K (a.put o.dst undef) W') :
    if Region.wanted o (yielded ops a.tmps) = true then Oper.wp Try.prog o a w K Q else K (a.put o.dst undef) w :=
  wp_skipG hw (run_storeV ho hx hy h0) (h _ (h0.put3 _ _ _) (fr_put3 _ _ _ _ _))
end

/-- Two copies. -/
def Copies (A1 : Act) (W : World) (v : Va) (s1 s2 d1 d2 : Nat) (a' : Act) (X : World) : Prop :=
  ∃ q1 q2, a' = (((A1.put (some s1) v.val).put (some s2) v.val).put (some d1) (.pointer (some ⟨q1, 0, none⟩))).put (some d2) (.pointer (some ⟨q2, 0, none⟩)) ∧ q1 ≠ q2 ∧ W.heap.size ≤ q1 ∧ W.heap.size ≤ q2 ∧
    Whole X q1 v.cells 26 ∧ Whole X q2 v.cells 26 ∧ Grew W X none
end Go.Proofs.Ytmdmfinpcbedcaa

