/- Operations that make memory, in regions that draw their order: told by letters. -/
import Derived.Test.YtdamjbngopfpkaaRl
import Derived.Test.YtdamjbngopfpkaaRx14
namespace Go.Proofs.Ytdamjbngopfpkaa
open Go.RowKit Va

/-- The end of a region. -/
def RegEnd (P : Act → World → Prop) : Exit → Act → World → Prop
  | .normal, a', w' => P a' w'
  | _, _, _ => False
theorem RegEnd.out {P : Act → World → Prop} {e : Exit} {a' : Act} {w' : World} (h : RegEnd P e a' w') : e = .normal ∧ P a' w' := by
  cases e <;> first | exact ⟨rfl, h⟩ | exact h.elim

section
variable {ρ : Operand → Value} {o : Oper}
theorem run_newVq (ho : o.op = .alloc 35) (w : World) : (execOp ρ o).run Try.prog w = .ok (.value (.pointer (some ⟨w.heap.size, 0, none⟩))) (w.alloc (.cells #[.int .u64 0, .slice none 0 0, .slice none 0 0] 35)) := by
  simp [execOp, ho, go_sem]
theorem run_new0 (ho : o.op = .buildSlice 25 0 #[]) (w : World) : (execOp ρ o).run Try.prog w = .ok (.value (.slice (some ⟨w.heap.size, 0, none⟩) 0 0)) (w.alloc (.cells #[] 5)) := by
  simp [execOp, ho, go_sem]
theorem run_new1 {x : Operand} {u : Value} (ho : o.op = .buildSlice 25 1 #[(0, x)]) (hx : ρ x = u) (h1 : ∃ n, u = .int .u8 n) (w : World) : (execOp ρ o).run Try.prog w = .ok (.value (.slice (some ⟨w.heap.size, 0, none⟩) 1 1)) (w.alloc (.cells #[u] 5)) := by
  obtain ⟨n, rfl⟩ := h1
  simp [execOp, ho, hx, go_sem]
theorem run_sliceB {x y : Operand} {A : Option Addr} {l c m : Nat} (ho : o.op = .slice 25 x none (some y) none) (hx : ρ x = .slice A l c) (hy : ρ y = .int .i64 (m : Int)) (hm : m ≤ c) (w : World) : (execOp ρ o).run Try.prog w = .ok (.value (.slice A m c)) w := by
  have hm' : (m : Int) ≤ (c : Int) := by omega
  simp [execOp, ho, go_sem, hx, hy, hm]
theorem run_len {x : Operand} {A : Option Addr} {l c : Nat} (ho : o.op = .call { callee := .builtin .len, args := #[x], argTypes := #[25] }) (hx : ρ x = .slice A l c) (w : World) : (execOp ρ o).run Try.prog w = .ok (.value (.int .i64 (l : Int))) w := by
  simp [execOp, ho, go_sem, hx]
theorem run_sub1 {x : Operand} {t u : TypeId} {l : Nat} (ho : o.op = .binOp .sub t x (.const (.int .i64 1)) u) (hx : ρ x = .int .i64 (l : Int)) (hc : ρ (.const (.int .i64 1)) = .int .i64 1) (h0 : 1 ≤ l) (h1 : l ≤ 140737488355328) (w : World) : (execOp ρ o).run Try.prog w = .ok (.value (.int .i64 ((l - 1 : Nat) : Int))) w := by
  have e : IntKind.i64.wrap ((l : Int) - 1) = ((l - 1 : Nat) : Int) := by rw [IntWalk.i64_left, IntWalk.wrap64_in _ (by omega)]; omega
  simp [execOp, ho, go_sem, hx, hc, e]
end

section
variable {ops : Array Oper} {o : Oper} {a : Act} {w : World} {K : Act → World → Prop} {Q : Exit → Act → World → Prop}
theorem wp_newVq (ho : o.op = .alloc 35) (hw : Region.wanted o (yielded ops a.tmps) = true)
    (h : ∀ z W', Whole W' z #[.int .u64 0, .slice none 0 0, .slice none 0 0] 35 → Grew w W' none → w.heap.size ≤ z → K (a.put o.dst (.pointer (some ⟨z, 0, none⟩))) W') :
    if Region.wanted o (yielded ops a.tmps) = true then Oper.wp Try.prog o a w K Q else K (a.put o.dst undef) w :=
  wp_runG hw (run_newVq ho w) (h _ _ (Whole.new w _ _) (grew_alloc (grew_refl _ none) _) (Nat.le_refl _))
theorem wp_new0 (ho : o.op = .buildSlice 25 0 #[]) (hw : Region.wanted o (yielded ops a.tmps) = true)
    (h : ∀ V W', W'.ownsRow 0 5 1 V 0 (cellsOf []) → Grew w W' none → (∀ b, V.ownBlock = some b → w.heap.size ≤ b) → K (a.put o.dst V) W') :
    if Region.wanted o (yielded ops a.tmps) = true then Oper.wp Try.prog o a w K Q else K (a.put o.dst undef) w :=
  wp_runG hw (run_new0 ho w) (h _ _ ⟨rfl, .inr ⟨w.heap.size, 0, #[], rfl, Nat.zero_le _, Whole.new _ _ _, Nat.le_refl _, by unfold maxLen; omega, rfl, rfl⟩⟩ (grew_alloc (grew_refl _ none) _) (fun b hb => by simp [Value.ownBlock] at hb; omega))
theorem wp_new1 {x : Operand} (ho : o.op = .buildSlice 25 1 #[(0, x)]) (hw : Region.wanted o (yielded ops a.tmps) = true) (c : UInt8) (hx : a.eval x = .int .u8 (c.toNat : Int))
    (h : ∀ q W', ByF W' (fun i => i = q) (some ⟨q, 0, none⟩) [c] → Grew w W' none → w.heap.size ≤ q → q < W'.heap.size → K (a.put o.dst (.slice (some ⟨q, 0, none⟩) 1 1)) W') :
    if Region.wanted o (yielded ops a.tmps) = true then Oper.wp Try.prog o a w K Q else K (a.put o.dst undef) w :=
  wp_runG hw (run_new1 ho hx ⟨_, rfl⟩ w) (h _ _ (fun _ => ⟨w.heap.size, 0, rfl, rfl, fun i hi => by
    have : i = 0 := by simp at hi; omega
    subst this
    rw [(Whole.new w _ _).cell]
    rfl⟩) (grew_alloc (grew_refl _ none) _) (Nat.le_refl _) (by simp))
theorem wp_appB {x y : Operand} (ho : o.op = .call { callee := .builtin .append, args := #[x, y], argTypes := #[25, 25] }) (hgd : o.guard = none) {V : Value} {n : Nat} {xs : List UInt8} (hown : w.ownsRow 0 5 1 V n (cellsOf xs)) (hx : a.eval x = V) {A : Option Addr} {ys : List UInt8} {F : Nat → Prop} (hb : ByF w F A ys) (c : Nat) (hy : a.eval y = .slice A ys.length c) (hm : n + ys.length ≤ 140737488355328)
    (h : ∀ V' W', W'.ownsRow 0 5 1 V' (n + ys.length) (cellsOf (xs ++ ys)) → Grew w W' V.ownBlock → (V'.ownBlock = V.ownBlock ∨ V'.ownBlock = some w.heap.size) → K (a.put o.dst V') W') :
    if Region.wanted o (yielded ops a.tmps) = true then Oper.wp Try.prog o a w K Q else K (a.put o.dst undef) w :=
  step_append_run w hgd x y 25 ho hx hy (fun ty => append_bytes (P := Try.prog) (w := w) 25 ty 5 Try.underlying25 info_u8 hown hb c hm) (fun V' W' hl => h V' W' hl.1 hl.2.1 hl.2.2)
end
end Go.Proofs.Ytdamjbngopfpkaa

