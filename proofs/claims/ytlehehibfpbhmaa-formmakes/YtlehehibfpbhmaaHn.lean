/- Operations of a region that draws its order that make memory or write it, each told by letters. -/
import Derived.Test.YtlehehibfpbhmaaHm
namespace Go.Proofs.Ytlehehibfpbhmaa
open Go.RowKit Fo

section
variable {ops : Array Oper} {o : Oper} {a : Act}
/-- A new form, all nought. -/
theorem wp_newH (hg : o.guard = none) (ho : o.op = .alloc 24) {w : World} {K : Act → World → Prop} {Q : Exit → Act → World → Prop}
    (h : ∀ q W', Whole W' q #[.int .i64 0, .int .i64 0, .int .i64 0, .int .i64 0, .int .i64 0, .slice none 0 0] 24 → Grew w W' none → w.heap.size ≤ q → K (a.put o.dst (.pointer (some ⟨q, 0, none⟩))) W') :
    if Region.wanted o (yielded ops a.tmps) = true then Oper.wp Try.prog o a w K Q else K (a.put o.dst undef) w :=
  wp_runH hg (run_newF ho w) (h _ _ (Whole.new w _ _) (grew_alloc (grew_refl _ none) _) (Nat.le_refl _))
/-- A form stored. -/
theorem wp_storeH (hg : o.guard = none) {x y : Operand} {q : Nat} {f : Fo} (ho : o.op = .store 24 x y) (hx : a.eval x = .pointer (some ⟨q, 0, none⟩)) (hy : a.eval y = f.val) {w : World} {a0 a1 a2 a3 a4 a5 : Value} (h0 : Whole w q #[a0, a1, a2, a3, a4, a5] 24)
    {K : Act → World → Prop} {Q : Exit → Act → World → Prop} (h : ∀ W', Whole W' q f.cells 24 → Fr w W' (fun i => i = q) → K (a.put o.dst undef) W') :
    if Region.wanted o (yielded ops a.tmps) = true then Oper.wp Try.prog o a w K Q else K (a.put o.dst undef) w :=
  wp_skipH hg (run_storeF ho hx hy h0) (h _ (h0.put6 _ _ _ _ _ _) (fr_put6 _ _ _ _ _ _ _ _))
/-- Two forms laid as a list. -/
theorem wp_build2H (hg : o.guard = none) {x y : Operand} {f g : Fo} (ho : o.op = .buildSlice 22 2 #[(0, x), (1, y)]) (hx : a.eval x = f.val) (hy : a.eval y = g.val) {w : World} {K : Act → World → Prop} {Q : Exit → Act → World → Prop}
    (h : ∀ q W', Lie W' (some ⟨q, 0, none⟩) [f, g] → Grew w W' none → w.heap.size ≤ q → K (a.put o.dst (.slice (some ⟨q, 0, none⟩) 2 2)) W') :
    if Region.wanted o (yielded ops a.tmps) = true then Oper.wp Try.prog o a w K Q else K (a.put o.dst undef) w :=
  wp_runH hg (run_build2 ho hx hy w) (h _ _ (Lie.whole (Whole.new w _ _) (by simp)) (grew_alloc (grew_refl _ none) _) (Nat.le_refl _))
/-- Six. -/
theorem wp_build6H (hg : o.guard = none) {x0 x1 x2 x3 x4 x5 : Operand} {f0 f1 f2 f3 f4 f5 : Fo} (ho : o.op = .buildSlice 22 6 #[(0, x0), (1, x1), (2, x2), (3, x3), (4, x4), (5, x5)]) (h0 : a.eval x0 = f0.val) (h1 : a.eval x1 = f1.val) (h2 : a.eval x2 = f2.val) (h3 : a.eval x3 = f3.val) (h4 : a.eval x4 = f4.val) (h5 : a.eval x5 = f5.val) {w : World} {K : Act → World → Prop} {Q : Exit → Act → World → Prop}
    (h : ∀ q W', Lie W' (some ⟨q, 0, none⟩) [f0, f1, f2, f3, f4, f5] → Grew w W' none → w.heap.size ≤ q → K (a.put o.dst (.slice (some ⟨q, 0, none⟩) 6 6)) W') :
    if Region.wanted o (yielded ops a.tmps) = true then Oper.wp Try.prog o a w K Q else K (a.put o.dst undef) w :=
  wp_runH hg (run_build6 ho h0 h1 h2 h3 h4 h5 w) (h _ _ (Lie.whole (Whole.new w _ _) (by simp)) (grew_alloc (grew_refl _ none) _) (Nat.le_refl _))
end
end Go.Proofs.Ytlehehibfpbhmaa

