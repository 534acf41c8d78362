/- Regions that draw their order, in which one operation at a time may come up that is no read: steps for them. -/
import Derived.Test.YtibbeodcheefaaaQ13
import Derived.Test.YtibbeodcheefaaaQ11
import Derived.Deep.Cut
import Derived.Test.YtibbeodcheefaaaQ16
import Derived.Test.YtibbeodcheefaaaQ17
import Derived.Test.YtibbeodcheefaaaQ19
import Derived.Test.YtibbeodcheefaaaQ20
import Derived.Test.YtibbeodcheefaaaQ9
import Derived.Laws.EntriesVeiled
namespace Go.Proofs.Ytibbeodcheefaaa
open Go.RowKit Va

theorem wanted_yes {ops : Array Oper} {o : Oper} {A : Act} {j d : Nat} {b : Bool} (hg : o.guard = some (j, b)) (hd : (ops[j]?).bind (·.dst) = some d) (h : A.eval (.tmp d) = .bool b) : Region.wanted o (yielded ops A.tmps) = true := by
  simp only [Act.eval] at h
  unfold Region.wanted yielded
  rw [hg]
  simp only [hd, Option.bind_some]
  cases hx : A.tmps[d]? with
  | none => simp [Array.getD_eq_getD_getElem?, hx, undef] at h
  | some x => simp [Array.getD_eq_getD_getElem?, hx] at h; subst h; simp
theorem wanted_no {ops : Array Oper} {o : Oper} {A : Act} {j d : Nat} {b : Bool} (hg : o.guard = some (j, !b)) (hd : (ops[j]?).bind (·.dst) = some d) (h : A.eval (.tmp d) = .bool b) : Region.wanted o (yielded ops A.tmps) = false := by
  simp only [Act.eval] at h
  unfold Region.wanted yielded
  rw [hg]
  simp only [hd, Option.bind_some]
  cases hx : A.tmps[d]? with
  | none => simp [Array.getD_eq_getD_getElem?, hx, undef] at h
  | some x => simp [Array.getD_eq_getD_getElem?, hx] at h; subst h; cases b <;> rfl

section
variable {ops : Array Oper} {S : World → Prop} {o : Oper} {a : Act}
/-- A call of a function, by its contract. -/
theorem wp_callG {f : FuncId} {xs : Array Operand} {ts : Array TypeId} (ho : o.op = .call { callee := .value (.func f), args := xs, argTypes := ts }) (hw : Region.wanted o (yielded ops a.tmps) = true) {vs : Array Value} (hc : ∀ args w, (callFunc f args).run Try.prog w = .ok (.enter f args) w) (hv : xs.map a.eval = vs) {w : World} {K : Act → World → Prop} {Q : Exit → Act → World → Prop}
    (h : Calls Try.prog f vs w fun e w' => ∃ v, e = .returned v ∧ K (a.put o.dst v) w') : if Region.wanted o (yielded ops a.tmps) = true then Oper.wp Try.prog o a w K Q else K (a.put o.dst undef) w := by
  rw [if_pos hw]
  subst hv
  unfold Oper.wp
  rw [run_callF ho rfl hc]
  exact h.mono fun e w' ⟨v, he, hk⟩ => by subst he; exact hk
/-- An operation whose run is known. -/
theorem wp_runG (hw : Region.wanted o (yielded ops a.tmps) = true) {v : Value} {w w' : World} (hr : (execOp a.eval o).run Try.prog w = .ok (.value v) w') {K : Act → World → Prop} {Q : Exit → Act → World → Prop}
    (h : K (a.put o.dst v) w') : if Region.wanted o (yielded ops a.tmps) = true then Oper.wp Try.prog o a w K Q else K (a.put o.dst undef) w := by
  rw [if_pos hw]
  unfold Oper.wp
  rw [hr]
  exact h
theorem wp_skipG (hw : Region.wanted o (yielded ops a.tmps) = true) {w w' : World} (hr : (execOp a.eval o).run Try.prog w = .ok .skip w') {K : Act → World → Prop} {Q : Exit → Act → World → Prop}
    (h : K (a.put o.dst undef) w') : if Region.wanted o (yielded ops a.tmps) = true then Oper.wp Try.prog o a w K Q else K (a.put o.dst undef) w := by
  rw [if_pos hw]
  unfold Oper.wp
  rw [hr]
  exact h
theorem run_vbuild2 {ρ : Operand → Value} {x y : Operand} {f g : Va} (ho : o.op = .buildSlice 27 2 #[(0, x), (1, y)]) (hx : ρ x = f.val) (hy : ρ y = g.val) (w : World) :
    (execOp ρ o).run Try.prog w = .ok (.value (.slice (some ⟨w.heap.size, 0, none⟩) 2 2)) (w.alloc (.cells (flat [f, g]).toArray 29)) := by
  simp [execOp, ho, hx, hy, go_sem, Va.val, Va.cells, flat]
theorem run_vbuild3 {ρ : Operand → Value} {x y z : Operand} {f g h : Va} (ho : o.op = .buildSlice 27 3 #[(0, x), (1, y), (2, z)]) (hx : ρ x = f.val) (hy : ρ y = g.val) (hz : ρ z = h.val) (w : World) :
    (execOp ρ o).run Try.prog w = .ok (.value (.slice (some ⟨w.heap.size, 0, none⟩) 3 3)) (w.alloc (.cells (flat [f, g, h]).toArray 29)) := by
  simp [execOp, ho, hx, hy, hz, go_sem, Va.val, Va.cells, flat]
theorem wp_vbuild2 (hw : Region.wanted o (yielded ops a.tmps) = true) {x y : Operand} {f g : Va} (ho : o.op = .buildSlice 27 2 #[(0, x), (1, y)]) (hx : a.eval x = f.val) (hy : a.eval y = g.val) {w : World} {K : Act → World → Prop} {Q : Exit → Act → World → Prop}
    (h : ∀ q W', Va.Lie W' (some ⟨q, 0, none⟩) [f, g] → Grew w W' none → K (a.put o.dst (.slice (some ⟨q, 0, none⟩) 2 2)) W') :
    if Region.wanted o (yielded ops a.tmps) = true then Oper.wp Try.prog o a w K Q else K (a.put o.dst undef) w :=
  wp_runG hw (run_vbuild2 ho hx hy w) (h _ _ (Va.Lie.whole (Whole.new w _ _) (by simp)) (grew_alloc (grew_refl _ none) _))
theorem wp_vbuild3 (hw : Region.wanted o (yielded ops a.tmps) = true) {x y z : Operand} {f g i : Va} (ho : o.op = .buildSlice 27 3 #[(0, x), (1, y), (2, z)]) (hx : a.eval x = f.val) (hy : a.eval y = g.val) (hz : a.eval z = i.val) {w : World} {K : Act → World → Prop} {Q : Exit → Act → World → Prop}
    (h : ∀ q W', Va.Lie W' (some ⟨q, 0, none⟩) [f, g, i] → Grew w W' none → K (a.put o.dst (.slice (some ⟨q, 0, none⟩) 3 3)) W') :
    if Region.wanted o (yielded ops a.tmps) = true then Oper.wp Try.prog o a w K Q else K (a.put o.dst undef) w :=
  wp_runG hw (run_vbuild3 ho hx hy hz w) (h _ _ (Va.Lie.whole (Whole.new w _ _) (by simp)) (grew_alloc (grew_refl _ none) _))
end

section
variable {ρ : Operand → Value} {o : Oper}
theorem run_eql {t u : TypeId} {x y : Operand} {a b : Int} (ho : o.op = .binOp .eql t x y u) (hx : ρ x = .int .i64 a) (hy : ρ y = .int .i64 b) (w : World) : (execOp ρ o).run Try.prog w = .ok (.value (.bool (a == b))) w := by
  simp [execOp, ho, hx, hy, go_sem]
theorem run_neq {t u : TypeId} {x y : Operand} {a b : Int} (ho : o.op = .binOp .neq t x y u) (hx : ρ x = .int .i64 a) (hy : ρ y = .int .i64 b) (w : World) : (execOp ρ o).run Try.prog w = .ok (.value (.bool (a != b))) w := by
  simp [execOp, ho, hx, hy, go_sem]
theorem run_not {t : TypeId} {x : Operand} {b : Bool} (ho : o.op = .unOp .not t x) (hx : ρ x = .bool b) (w : World) : (execOp ρ o).run Try.prog w = .ok (.value (.bool (!b))) w := by
  simp [execOp, ho, hx, go_sem]
theorem run_pickT {x y z : Operand} {v : Value} (ho : o.op = .pick x y z) (hx : ρ x = .bool true) (hy : ρ y = v) (w : World) : (execOp ρ o).run Try.prog w = .ok (.value v) w := by
  simp [execOp, ho, hx, hy, go_sem]
theorem run_pickF {x y z : Operand} {v : Value} (ho : o.op = .pick x y z) (hx : ρ x = .bool false) (hz : ρ z = v) (w : World) : (execOp ρ o).run Try.prog w = .ok (.value v) w := by
  simp [execOp, ho, hx, hz, go_sem]
end
theorem enter_vfits : ∀ args w, (callFunc 32 args).run Try.prog w = .ok (.enter 32 args) w := fun _ _ => by kernel_rfl
theorem enter_vsize : ∀ args w, (callFunc 33 args).run Try.prog w = .ok (.enter 33 args) w := fun _ _ => by kernel_rfl
end Go.Proofs.Ytibbeodcheefaaa


/- Operations of reading's drawn regions, one by one. -/
namespace Go.Proofs.Ytibbeodcheefaaa
open Go.RowKit Va

section
variable {ρ : Operand → Value} {o : Oper}
set_option maxRecDepth 100000 in
theorem run_fieldF0 {x : Operand} {q : Nat} (ho : o.op = .fieldAddr 24 x 0) (hx : ρ x = .pointer (some ⟨q, 0, none⟩)) (w : World) : (execOp ρ o).run Try.prog w = .ok (.value (.pointer (some ⟨q, 0, none⟩))) w := by
  simp [execOp, ho, hx, go_sem]
set_option maxRecDepth 100000 in
theorem run_nilc {x : Operand} {q i : Nat} (ho : o.op = .nilCheck x) (hx : ρ x = .pointer (some ⟨q, i, none⟩)) (w : World) : (execOp ρ o).run Try.prog w = .ok (.value (.pointer (some ⟨q, i, none⟩))) w := by
  simp [execOp, ho, hx, go_sem]
set_option maxRecDepth 100000 in
theorem run_fieldR {x : Operand} {q : Nat} (ho : o.op = .fieldAddr 108 x 1) (hx : ρ x = .pointer (some ⟨q, 0, none⟩)) (w : World) : (execOp ρ o).run Try.prog w = .ok (.value (.pointer (some ⟨q, 1, none⟩))) w := by
  simp [execOp, ho, hx, go_sem]
set_option maxRecDepth 100000 in
theorem run_idx {x y : Operand} {q k : Nat} (ho : o.op = .indexAddr 105 x y) (hx : ρ x = .pointer (some ⟨q, 1, none⟩)) (hy : ρ y = .int .i64 (k : Int)) (hk : k < 6) (w : World) : (execOp ρ o).run Try.prog w = .ok (.value (.pointer (some ⟨q, 1 + k, none⟩))) w := by
  have key : k = 0 ∨ k = 1 ∨ k = 2 ∨ k = 3 ∨ k = 4 ∨ k = 5 := by omega
  rcases key with rfl | rfl | rfl | rfl | rfl | rfl <;> simp [execOp, ho, go_sem, hx, hy]
set_option maxRecDepth 100000 in
theorem run_fn {x : Operand} {q i : Nat} {v : Value} (ho : o.op = .load 104 x) (hx : ρ x = .pointer (some ⟨q, i, none⟩)) {w : World} (hc : w.cell? ⟨q, i, none⟩ = some v) : (execOp ρ o).run Try.prog w = .ok (.value v) w := by
  simp [execOp, ho, hx, go_sem, hc]
set_option maxRecDepth 100000 in
theorem run_ext0 {x : Operand} {u v : Value} (ho : o.op = .extract x 0) (hx : ρ x = .tuple #[u, v]) (w : World) : (execOp ρ o).run Try.prog w = .ok (.value u) w := by
  simp [execOp, ho, hx, go_sem]
set_option maxRecDepth 100000 in
theorem run_ext1 {x : Operand} {u v : Value} (ho : o.op = .extract x 1) (hx : ρ x = .tuple #[u, v]) (w : World) : (execOp ρ o).run Try.prog w = .ok (.value v) w := by
  simp [execOp, ho, hx, go_sem]
set_option maxRecDepth 100000 in
theorem run_ext30 {x : Operand} {u v z : Value} (ho : o.op = .extract x 0) (hx : ρ x = .tuple #[u, v, z]) (w : World) : (execOp ρ o).run Try.prog w = .ok (.value u) w := by
  simp [execOp, ho, hx, go_sem]
set_option maxRecDepth 100000 in
theorem run_ext31 {x : Operand} {u v z : Value} (ho : o.op = .extract x 1) (hx : ρ x = .tuple #[u, v, z]) (w : World) : (execOp ρ o).run Try.prog w = .ok (.value v) w := by
  simp [execOp, ho, hx, go_sem]
set_option maxRecDepth 100000 in
theorem run_ext32 {x : Operand} {u v z : Value} (ho : o.op = .extract x 2) (hx : ρ x = .tuple #[u, v, z]) (w : World) : (execOp ρ o).run Try.prog w = .ok (.value z) w := by
  simp [execOp, ho, hx, go_sem]
set_option maxRecDepth 100000 in
theorem run_loadV {x : Operand} {q : Nat} {v : Va} (ho : o.op = .load 29 x) (hx : ρ x = .pointer (some ⟨q, 0, none⟩)) {w : World} (hc : Whole w q v.cells 29) : (execOp ρ o).run Try.prog w = .ok (.value v.val) w := by
  obtain ⟨c0, c1, c2⟩ := hc.three
  simp [execOp, ho, hx, go_sem, c0, c1, c2]
  rfl
set_option maxRecDepth 100000 in
theorem run_loadFa {x : Operand} {q : Nat} {y e : Int} (ho : o.op = .load 78 x) (hx : ρ x = .pointer (some ⟨q, 0, none⟩)) {w : World} (hc : Whole w q #[.int .i64 y, .int .i64 e] 78) : (execOp ρ o).run Try.prog w = .ok (.value (fault y e)) w := by
  obtain ⟨c0, c1⟩ := hc.two
  simp [execOp, ho, hx, go_sem, c0, c1]
  rfl
set_option maxRecDepth 100000 in
theorem run_storeVa {x y : Operand} {q : Nat} {v : Va} (ho : o.op = .store 29 x y) (hx : ρ x = .pointer (some ⟨q, 0, none⟩)) (hy : ρ y = v.val) {w : World} {a0 a1 a2 : Value} (h : Whole w q #[a0, a1, a2] 29) :
    (execOp ρ o).run Try.prog w = .ok .skip (put3 w q (.int .u64 v.n) (.slice v.B v.bs.length v.d) (.slice v.A v.ls.length v.c)) := by
  obtain ⟨c0, c1, c2⟩ := h.three
  have hz := h.frozen
  simp [execOp, ho, hx, hy, go_sem, Va.val, Va.cells, c0, c1, c2, hz, put3]
set_option maxRecDepth 100000 in
theorem run_storeFa {x y : Operand} {q : Nat} {z e : Int} (ho : o.op = .store 78 x y) (hx : ρ x = .pointer (some ⟨q, 0, none⟩)) (hy : ρ y = fault z e) {w : World} {a0 a1 : Value} (h : Whole w q #[a0, a1] 78) :
    (execOp ρ o).run Try.prog w = .ok .skip (put2 w q (.int .i64 z) (.int .i64 e)) := by
  obtain ⟨c0, c1⟩ := h.two
  have hz := h.frozen
  simp [execOp, ho, hx, hy, go_sem, fault, c0, c1, hz, put2]
set_option maxRecDepth 100000 in
theorem run_assign {x : Operand} {v : Value} (ho : o.op = .assign x) (hx : ρ x = v) (w : World) : (execOp ρ o).run Try.prog w = .ok (.value v) w := by
  simp [execOp, ho, hx, go_sem]
set_option maxRecDepth 100000 in
theorem run_callV {f : FuncId} {x : Nat} {xs : Array Operand} {ts : Array TypeId} (ho : o.op = .call { callee := .value (.tmp x), args := xs, argTypes := ts }) (hf : ρ (.tmp x) = .func (.func f) #[] #[]) (hc : ∀ args w, (callFunc f args).run Try.prog w = .ok (.enter f args) w) (w : World) : (execOp ρ o).run Try.prog w = .ok (.enter f (xs.map ρ)) w := by
  simp [execOp, ho, hf, go_sem, hc]
end

section
variable {ops : Array Oper} {o : Oper} {a : Act}
set_option maxRecDepth 100000 in
/-- A call of a function value. -/
theorem wp_callV {f : FuncId} {x : Nat} {xs : Array Operand} {ts : Array TypeId} (ho : o.op = .call { callee := .value (.tmp x), args := xs, argTypes := ts }) (hw : Region.wanted o (yielded ops a.tmps) = true) (hf : a.eval (.tmp x) = .func (.func f) #[] #[]) (hc : ∀ args w, (callFunc f args).run Try.prog w = .ok (.enter f args) w) {vs : Array Value} (hv : xs.map a.eval = vs) {w : World} {K : Act → World → Prop} {Q : Exit → Act → World → Prop}
    (h : Calls Try.prog f vs w fun e w' => ∃ v, e = .returned v ∧ K (a.put o.dst v) w') : if Region.wanted o (yielded ops a.tmps) = true then Oper.wp Try.prog o a w K Q else K (a.put o.dst undef) w := by
  rw [if_pos hw]
  subst hv
  unfold Oper.wp
  rw [run_callV ho hf hc]
  exact h.mono fun e w' ⟨v, he, hk⟩ => by subst he; exact hk
end
end Go.Proofs.Ytibbeodcheefaaa


/- Reading: a form is counted, and read by its Kind's step. -/
namespace Go.Proofs.Ytibbeodcheefaaa
open Go.RowKit Va

set_option maxRecDepth 100000 in
set_option maxHeartbeats 4000000 in
theorem rform_any (w0 : World) (r : Nat) (t : Option Nat) (f : Fo) (kk : Nat) (hk : f.k = kk) (hk6 : kk < 6) (G : FuncId) (hG : (rcells t)[1 + kk]? = some (.func (.func G) #[] #[])) (hen : ∀ args w, (callFunc G args).run Try.prog w = .ok (.enter G args) w)
    (hstep : ∀ (w : World) (p : Nat) (m c : Int) (xs : List UInt8) (a : Int), Pre w0 w r p t m c xs a → (t ≠ none → c + (Rd.bd f xs).c ≤ m) → Calls Try.prog G #[.pointer (some ⟨r, 0, none⟩), .pointer (some ⟨p, 0, none⟩), f.val] w (Got w0 w p t m c xs a (Rd.bd f xs))) : Reads w0 r t f := by
  intro w p m c xs a hpre hm
  obtain ⟨g0, k0, k1, k2, ks⟩ := three_new w #[.int .i64 f.k, .int .i64 f.s, .int .i64 f.l, .int .i64 f.h, .int .i64 f.t, .slice f.A f.ps.length f.c] 24 #[.int .u64 0, .slice none 0 0, .slice none 0 0] 29 #[.int .i64 0, .int .i64 0] 78
  have HF := Lib.hid hpre.flt
  have HRL := Lib.hid (show r < w.heap.size from hpre.rd.lt)
  have H0 := Lib.hid hpre.g.size
  have PW := Lib.hid (hpre.fr (F := fun _ => False) (fr_of g0) (fun h => h) (fun _ _ h => h) (fun _ h => h.elim))
  have G0 := Lib.hid g0
  have K0 := Lib.hid (show Whole _ w.heap.size f.cells 24 from k0)
  have K1 := Lib.hid k1
  have K2 := Lib.hid k2
  have KS := Lib.hid ks
  have HST := Lib.hid (fun (w : World) (p : Nat) (m c : Int) (a : Int) => hstep w p m c xs a)
  have HEN := Lib.hid hen
  have HGG := Lib.hid hG
  have HKK := Lib.hid hk
  have HK6 := Lib.hid hk6
  have HM := Lib.hid (show t ≠ none → c + 1 + (Rd.bd f xs).c ≤ m from fun ht => by
    have h1 := hm ht
    have h2 : (Rd.rd f xs).c = (Rd.bd f xs).c + 1 := rfl
    rw [h2] at h1
    omega)
  have hR : Rd.rd f xs = ⟨(Rd.bd f xs).e, (Rd.bd f xs).n, (Rd.bd f xs).v, (Rd.bd f xs).c + 1⟩ := rfl
  rw [hR]
  clear hR hpre g0 k0 k1 k2 ks hstep hen hG hk hk6 hm
  rw [show f.val = .agg #[.int .i64 f.k, .int .i64 f.s, .int .i64 f.l, .int .i64 f.h, .int .i64 f.t, .slice f.A f.ps.length f.c] from rfl]
  generalize Rd.bd f xs = RR at *
  cases t with
  | none =>
    have r0 := PW.out.rd.cell 0
    change _ = some (Value.pointer none) at r0
    go_enter Try.func59, Try.ntmps59
    go_upto_region 3 with (fail)
    clear r0
    have PX := Lib.hid (show Pre w0 _ r p none m (c + 1) xs a from ⟨PW.out.g, PW.out.rd, PW.out.cr, PW.out.tl, fun q hq => by cases hq⟩)
    have GX := Lib.hid (show Fr w _ (Ft p none) from fr_of G0.out)
    clear PW G0
    generalize ((w.alloc (.cells #[.int .i64 f.k, .int .i64 f.s, .int .i64 f.l, .int .i64 f.h, .int .i64 f.t, .slice f.A f.ps.length f.c] 24)).alloc (.cells #[.int .u64 0, .slice none 0 0, .slice none 0 0] 29)).alloc (.cells #[.int .i64 0, .int .i64 0] 78) = X at *
    have XS := Lib.hid (show w.heap.size + 3 ≤ X.heap.size by rw [KS.out]; exact Nat.le_refl _)
    have PD := Lib.hid (PX.out.fr (F := fun _ => False) ((Fr.refl X (fun _ => False)).drew) (fun h => h) (fun _ _ h => h) (fun _ h => h.elim))
    have GS := Lib.hid (show (fun w' => Whole w' w.heap.size f.cells 24 ∧ Whole w' r (rcells none) 108) X.drew from ⟨K0.out, PD.out.rd⟩)
    have KD0 := Lib.hid (show Whole X.drew w.heap.size f.cells 24 from K0.out)
    have KD1 := Lib.hid (show Whole X.drew (w.heap.size + 1) _ _ from K1.out)
    have KD2 := Lib.hid (show Whole X.drew (w.heap.size + 2) _ _ from K2.out)
    have GD := Lib.hid (show Fr w X.drew (Ft p none) from GX.out.drew)
    have XD := Lib.hid (show w.heap.size + 3 ≤ X.drew.heap.size from XS.out)
    have NR := Lib.hid (show ¬ Ft p none r from PD.out.rne)
    have HLO := Lib.hid (show ∀ i, w.heap.size ≤ i → ¬ Ft p none i from fun i hi e => by have := HF.out i e; omega)
    clear K0 K1 K2 GX XS KS
    refine act_letterC (fun A1 hA1 => ?_)
    have d0 : A1.eval (.tmp 0) = .pointer (some ⟨r, 0, none⟩) := by rw [← hA1]; rfl
    have d1 : A1.eval (.tmp 1) = .pointer (some ⟨p, 0, none⟩) := by rw [← hA1]; rfl
    have d5 : A1.eval (.tmp 5) = .pointer (some ⟨w.heap.size, 0, none⟩) := by rw [← hA1]; rfl
    have d6 : A1.eval (.tmp 6) = .pointer (some ⟨w.heap.size + 1, 0, none⟩) := by rw [← hA1]; rfl
    have d7 : A1.eval (.tmp 7) = .pointer (some ⟨w.heap.size + 2, 0, none⟩) := by rw [← hA1]; rfl
    have szA1 : A1.tmps.size = 38 := by rw [← hA1]; rfl
    have HA1 := Lib.hid hA1
    clear hA1
    refine wp_region_held (S := fun w' => Whole w' w.heap.size f.cells 24 ∧ Whole w' r (rcells none) 108) (by kernel_rfl) ?_
    change wpAnyH _ _ _ _ _ _ _ _ (World.drew X)
    refine wpAnyH_take (i := 0) (v := .pointer (some ⟨r, 0, none⟩)) rfl (by kernel_rfl) (by kernel_rfl) (by kernel_rfl) (fun _ _ _ h => h) (.inl ⟨rfl, fun w g => run_moveV rfl d0 w⟩) GS.out ?_
    refine act_letter (fun A2 hA2 => ?_)
    replace d0 : A2.eval (.tmp 0) = .pointer (some ⟨r, 0, none⟩) := by rw [← hA2]; exact (ev_ne A1 (m := 25) (n := 0) (.pointer (some ⟨r, 0, none⟩)) (by decide)).trans d0
    replace d1 : A2.eval (.tmp 1) = .pointer (some ⟨p, 0, none⟩) := by rw [← hA2]; exact (ev_ne A1 (m := 25) (n := 1) (.pointer (some ⟨r, 0, none⟩)) (by decide)).trans d1
    replace d5 : A2.eval (.tmp 5) = .pointer (some ⟨w.heap.size, 0, none⟩) := by rw [← hA2]; exact (ev_ne A1 (m := 25) (n := 5) (.pointer (some ⟨r, 0, none⟩)) (by decide)).trans d5
    replace d6 : A2.eval (.tmp 6) = .pointer (some ⟨w.heap.size + 1, 0, none⟩) := by rw [← hA2]; exact (ev_ne A1 (m := 25) (n := 6) (.pointer (some ⟨r, 0, none⟩)) (by decide)).trans d6
    replace d7 : A2.eval (.tmp 7) = .pointer (some ⟨w.heap.size + 2, 0, none⟩) := by rw [← hA2]; exact (ev_ne A1 (m := 25) (n := 7) (.pointer (some ⟨r, 0, none⟩)) (by decide)).trans d7
    have e25 : A2.eval (.tmp 25) = .pointer (some ⟨r, 0, none⟩) := by rw [← hA2]; exact ev_self A1 25 (.pointer (some ⟨r, 0, none⟩)) (by omega)
    have szA2 : A2.tmps.size = 38 := by rw [← hA2]; exact (sz_put A1 25 (.pointer (some ⟨r, 0, none⟩))).trans szA1
    have HA2 := Lib.hid (show A1.put (some 25) (.pointer (some ⟨r, 0, none⟩)) = A2 from hA2)
    clear hA2 szA1
    have d25 := e25
    clear e25
    refine wpAnyH_take (i := 1) (v := .pointer (some ⟨w.heap.size, 0, none⟩)) rfl (by kernel_rfl) (by kernel_rfl) (by kernel_rfl) (fun _ _ _ h => h) (.inl ⟨rfl, fun w g => run_fieldF0 rfl d5 w⟩) GS.out ?_
    refine act_letter (fun A3 hA3 => ?_)
    replace d0 : A3.eval (.tmp 0) = .pointer (some ⟨r, 0, none⟩) := by rw [← hA3]; exact (ev_ne A2 (m := 26) (n := 0) (.pointer (some ⟨w.heap.size, 0, none⟩)) (by decide)).trans d0
    replace d1 : A3.eval (.tmp 1) = .pointer (some ⟨p, 0, none⟩) := by rw [← hA3]; exact (ev_ne A2 (m := 26) (n := 1) (.pointer (some ⟨w.heap.size, 0, none⟩)) (by decide)).trans d1
    replace d5 : A3.eval (.tmp 5) = .pointer (some ⟨w.heap.size, 0, none⟩) := by rw [← hA3]; exact (ev_ne A2 (m := 26) (n := 5) (.pointer (some ⟨w.heap.size, 0, none⟩)) (by decide)).trans d5
    replace d6 : A3.eval (.tmp 6) = .pointer (some ⟨w.heap.size + 1, 0, none⟩) := by rw [← hA3]; exact (ev_ne A2 (m := 26) (n := 6) (.pointer (some ⟨w.heap.size, 0, none⟩)) (by decide)).trans d6
    replace d7 : A3.eval (.tmp 7) = .pointer (some ⟨w.heap.size + 2, 0, none⟩) := by rw [← hA3]; exact (ev_ne A2 (m := 26) (n := 7) (.pointer (some ⟨w.heap.size, 0, none⟩)) (by decide)).trans d7
    replace d25 : A3.eval (.tmp 25) = .pointer (some ⟨r, 0, none⟩) := by rw [← hA3]; exact (ev_ne A2 (m := 26) (n := 25) (.pointer (some ⟨w.heap.size, 0, none⟩)) (by decide)).trans d25
    have e26 : A3.eval (.tmp 26) = .pointer (some ⟨w.heap.size, 0, none⟩) := by rw [← hA3]; exact ev_self A2 26 (.pointer (some ⟨w.heap.size, 0, none⟩)) (by omega)
    have szA3 : A3.tmps.size = 38 := by rw [← hA3]; exact (sz_put A2 26 (.pointer (some ⟨w.heap.size, 0, none⟩))).trans szA2
    have HA3 := Lib.hid (show A2.put (some 26) (.pointer (some ⟨w.heap.size, 0, none⟩)) = A3 from hA3)
    clear hA3 szA2
    have d26 := e26
    clear e26
    refine wpAnyH_take (i := 2) (v := .int .i64 f.k) rfl (by kernel_rfl) (by kernel_rfl) (by kernel_rfl) (fun _ _ _ h => h) (.inl ⟨rfl, fun w g => run_int rfl d26 (g.1.cell 0)⟩) GS.out ?_
    refine act_letter (fun A4 hA4 => ?_)
    replace d0 : A4.eval (.tmp 0) = .pointer (some ⟨r, 0, none⟩) := by rw [← hA4]; exact (ev_ne A3 (m := 27) (n := 0) (.int .i64 f.k) (by decide)).trans d0
    replace d1 : A4.eval (.tmp 1) = .pointer (some ⟨p, 0, none⟩) := by rw [← hA4]; exact (ev_ne A3 (m := 27) (n := 1) (.int .i64 f.k) (by decide)).trans d1
    replace d5 : A4.eval (.tmp 5) = .pointer (some ⟨w.heap.size, 0, none⟩) := by rw [← hA4]; exact (ev_ne A3 (m := 27) (n := 5) (.int .i64 f.k) (by decide)).trans d5
    replace d6 : A4.eval (.tmp 6) = .pointer (some ⟨w.heap.size + 1, 0, none⟩) := by rw [← hA4]; exact (ev_ne A3 (m := 27) (n := 6) (.int .i64 f.k) (by decide)).trans d6
    replace d7 : A4.eval (.tmp 7) = .pointer (some ⟨w.heap.size + 2, 0, none⟩) := by rw [← hA4]; exact (ev_ne A3 (m := 27) (n := 7) (.int .i64 f.k) (by decide)).trans d7
    replace d25 : A4.eval (.tmp 25) = .pointer (some ⟨r, 0, none⟩) := by rw [← hA4]; exact (ev_ne A3 (m := 27) (n := 25) (.int .i64 f.k) (by decide)).trans d25
    have e27 : A4.eval (.tmp 27) = .int .i64 f.k := by rw [← hA4]; exact ev_self A3 27 (.int .i64 f.k) (by omega)
    have szA4 : A4.tmps.size = 38 := by rw [← hA4]; exact (sz_put A3 27 (.int .i64 f.k)).trans szA3
    have HA4 := Lib.hid (show A3.put (some 27) (.int .i64 f.k) = A4 from hA4)
    clear hA4 szA3 d26
    have d27 := e27
    clear e27
    refine wpAnyH_take (i := 3) (v := .pointer (some ⟨r, 0, none⟩)) rfl (by kernel_rfl) (by kernel_rfl) (by kernel_rfl) (fun _ _ _ h => h) (.inl ⟨rfl, fun w g => run_nilc rfl d25 w⟩) GS.out ?_
    refine act_letter (fun A5 hA5 => ?_)
    replace d0 : A5.eval (.tmp 0) = .pointer (some ⟨r, 0, none⟩) := by rw [← hA5]; exact (ev_ne A4 (m := 28) (n := 0) (.pointer (some ⟨r, 0, none⟩)) (by decide)).trans d0
    replace d1 : A5.eval (.tmp 1) = .pointer (some ⟨p, 0, none⟩) := by rw [← hA5]; exact (ev_ne A4 (m := 28) (n := 1) (.pointer (some ⟨r, 0, none⟩)) (by decide)).trans d1
    replace d5 : A5.eval (.tmp 5) = .pointer (some ⟨w.heap.size, 0, none⟩) := by rw [← hA5]; exact (ev_ne A4 (m := 28) (n := 5) (.pointer (some ⟨r, 0, none⟩)) (by decide)).trans d5
    replace d6 : A5.eval (.tmp 6) = .pointer (some ⟨w.heap.size + 1, 0, none⟩) := by rw [← hA5]; exact (ev_ne A4 (m := 28) (n := 6) (.pointer (some ⟨r, 0, none⟩)) (by decide)).trans d6
    replace d7 : A5.eval (.tmp 7) = .pointer (some ⟨w.heap.size + 2, 0, none⟩) := by rw [← hA5]; exact (ev_ne A4 (m := 28) (n := 7) (.pointer (some ⟨r, 0, none⟩)) (by decide)).trans d7
    replace d27 : A5.eval (.tmp 27) = .int .i64 f.k := by rw [← hA5]; exact (ev_ne A4 (m := 28) (n := 27) (.pointer (some ⟨r, 0, none⟩)) (by decide)).trans d27
    have e28 : A5.eval (.tmp 28) = .pointer (some ⟨r, 0, none⟩) := by rw [← hA5]; exact ev_self A4 28 (.pointer (some ⟨r, 0, none⟩)) (by omega)
    have szA5 : A5.tmps.size = 38 := by rw [← hA5]; exact (sz_put A4 28 (.pointer (some ⟨r, 0, none⟩))).trans szA4
    have HA5 := Lib.hid (show A4.put (some 28) (.pointer (some ⟨r, 0, none⟩)) = A5 from hA5)
    clear hA5 szA4 d25
    have d28 := e28
    clear e28
    refine wpAnyH_take (i := 4) (v := .pointer (some ⟨r, 1, none⟩)) rfl (by kernel_rfl) (by kernel_rfl) (by kernel_rfl) (fun _ _ _ h => h) (.inl ⟨rfl, fun w g => run_fieldR rfl d28 w⟩) GS.out ?_
    refine act_letter (fun A6 hA6 => ?_)
    replace d0 : A6.eval (.tmp 0) = .pointer (some ⟨r, 0, none⟩) := by rw [← hA6]; exact (ev_ne A5 (m := 29) (n := 0) (.pointer (some ⟨r, 1, none⟩)) (by decide)).trans d0
    replace d1 : A6.eval (.tmp 1) = .pointer (some ⟨p, 0, none⟩) := by rw [← hA6]; exact (ev_ne A5 (m := 29) (n := 1) (.pointer (some ⟨r, 1, none⟩)) (by decide)).trans d1
    replace d5 : A6.eval (.tmp 5) = .pointer (some ⟨w.heap.size, 0, none⟩) := by rw [← hA6]; exact (ev_ne A5 (m := 29) (n := 5) (.pointer (some ⟨r, 1, none⟩)) (by decide)).trans d5
    replace d6 : A6.eval (.tmp 6) = .pointer (some ⟨w.heap.size + 1, 0, none⟩) := by rw [← hA6]; exact (ev_ne A5 (m := 29) (n := 6) (.pointer (some ⟨r, 1, none⟩)) (by decide)).trans d6
    replace d7 : A6.eval (.tmp 7) = .pointer (some ⟨w.heap.size + 2, 0, none⟩) := by rw [← hA6]; exact (ev_ne A5 (m := 29) (n := 7) (.pointer (some ⟨r, 1, none⟩)) (by decide)).trans d7
    replace d27 : A6.eval (.tmp 27) = .int .i64 f.k := by rw [← hA6]; exact (ev_ne A5 (m := 29) (n := 27) (.pointer (some ⟨r, 1, none⟩)) (by decide)).trans d27
    have e29 : A6.eval (.tmp 29) = .pointer (some ⟨r, 1, none⟩) := by rw [← hA6]; exact ev_self A5 29 (.pointer (some ⟨r, 1, none⟩)) (by omega)
    have szA6 : A6.tmps.size = 38 := by rw [← hA6]; exact (sz_put A5 29 (.pointer (some ⟨r, 1, none⟩))).trans szA5
    have HA6 := Lib.hid (show A5.put (some 29) (.pointer (some ⟨r, 1, none⟩)) = A6 from hA6)
    clear hA6 szA5 d28
    have d29 := e29
    clear e29
    refine wpAnyH_take (i := 5) (v := .pointer (some ⟨r, 1 + kk, none⟩)) rfl (by kernel_rfl) (by kernel_rfl) (by kernel_rfl) (fun _ _ _ h => h) (.inl ⟨rfl, fun w g => run_idx rfl d29 (d27.trans (by rw [HKK.out])) HK6.out w⟩) GS.out ?_
    refine act_letter (fun A7 hA7 => ?_)
    replace d0 : A7.eval (.tmp 0) = .pointer (some ⟨r, 0, none⟩) := by rw [← hA7]; exact (ev_ne A6 (m := 30) (n := 0) (.pointer (some ⟨r, 1 + kk, none⟩)) (by decide)).trans d0
    replace d1 : A7.eval (.tmp 1) = .pointer (some ⟨p, 0, none⟩) := by rw [← hA7]; exact (ev_ne A6 (m := 30) (n := 1) (.pointer (some ⟨r, 1 + kk, none⟩)) (by decide)).trans d1
    replace d5 : A7.eval (.tmp 5) = .pointer (some ⟨w.heap.size, 0, none⟩) := by rw [← hA7]; exact (ev_ne A6 (m := 30) (n := 5) (.pointer (some ⟨r, 1 + kk, none⟩)) (by decide)).trans d5
    replace d6 : A7.eval (.tmp 6) = .pointer (some ⟨w.heap.size + 1, 0, none⟩) := by rw [← hA7]; exact (ev_ne A6 (m := 30) (n := 6) (.pointer (some ⟨r, 1 + kk, none⟩)) (by decide)).trans d6
    replace d7 : A7.eval (.tmp 7) = .pointer (some ⟨w.heap.size + 2, 0, none⟩) := by rw [← hA7]; exact (ev_ne A6 (m := 30) (n := 7) (.pointer (some ⟨r, 1 + kk, none⟩)) (by decide)).trans d7
    have e30 : A7.eval (.tmp 30) = .pointer (some ⟨r, 1 + kk, none⟩) := by rw [← hA7]; exact ev_self A6 30 (.pointer (some ⟨r, 1 + kk, none⟩)) (by omega)
    have szA7 : A7.tmps.size = 38 := by rw [← hA7]; exact (sz_put A6 30 (.pointer (some ⟨r, 1 + kk, none⟩))).trans szA6
    have HA7 := Lib.hid (show A6.put (some 30) (.pointer (some ⟨r, 1 + kk, none⟩)) = A7 from hA7)
    clear hA7 szA6 d27 d29
    have d30 := e30
    clear e30
    refine wpAnyH_take (i := 6) (v := .func (.func G) #[] #[]) rfl (by kernel_rfl) (by kernel_rfl) (by kernel_rfl) (fun _ _ _ h => h) (.inl ⟨rfl, fun w g => run_fn rfl d30 ((g.2.cell (1 + kk)).trans HGG.out)⟩) GS.out ?_
    refine act_letter (fun A8 hA8 => ?_)
    replace d0 : A8.eval (.tmp 0) = .pointer (some ⟨r, 0, none⟩) := by rw [← hA8]; exact (ev_ne A7 (m := 31) (n := 0) (.func (.func G) #[] #[]) (by decide)).trans d0
    replace d1 : A8.eval (.tmp 1) = .pointer (some ⟨p, 0, none⟩) := by rw [← hA8]; exact (ev_ne A7 (m := 31) (n := 1) (.func (.func G) #[] #[]) (by decide)).trans d1
    replace d5 : A8.eval (.tmp 5) = .pointer (some ⟨w.heap.size, 0, none⟩) := by rw [← hA8]; exact (ev_ne A7 (m := 31) (n := 5) (.func (.func G) #[] #[]) (by decide)).trans d5
    replace d6 : A8.eval (.tmp 6) = .pointer (some ⟨w.heap.size + 1, 0, none⟩) := by rw [← hA8]; exact (ev_ne A7 (m := 31) (n := 6) (.func (.func G) #[] #[]) (by decide)).trans d6
    replace d7 : A8.eval (.tmp 7) = .pointer (some ⟨w.heap.size + 2, 0, none⟩) := by rw [← hA8]; exact (ev_ne A7 (m := 31) (n := 7) (.func (.func G) #[] #[]) (by decide)).trans d7
    have e31 : A8.eval (.tmp 31) = .func (.func G) #[] #[] := by rw [← hA8]; exact ev_self A7 31 (.func (.func G) #[] #[]) (by omega)
    have szA8 : A8.tmps.size = 38 := by rw [← hA8]; exact (sz_put A7 31 (.func (.func G) #[] #[])).trans szA7
    have HA8 := Lib.hid (show A7.put (some 31) (.func (.func G) #[] #[]) = A8 from hA8)
    clear hA8 szA7 d30
    have d31 := e31
    clear e31
    refine wpAnyH_take (i := 7) (v := .pointer (some ⟨r, 0, none⟩)) rfl (by kernel_rfl) (by kernel_rfl) (by kernel_rfl) (fun _ _ _ h => h) (.inl ⟨rfl, fun w g => run_moveV rfl d0 w⟩) GS.out ?_
    refine act_letter (fun A9 hA9 => ?_)
    replace d0 : A9.eval (.tmp 0) = .pointer (some ⟨r, 0, none⟩) := by rw [← hA9]; exact (ev_ne A8 (m := 32) (n := 0) (.pointer (some ⟨r, 0, none⟩)) (by decide)).trans d0
    replace d1 : A9.eval (.tmp 1) = .pointer (some ⟨p, 0, none⟩) := by rw [← hA9]; exact (ev_ne A8 (m := 32) (n := 1) (.pointer (some ⟨r, 0, none⟩)) (by decide)).trans d1
    replace d5 : A9.eval (.tmp 5) = .pointer (some ⟨w.heap.size, 0, none⟩) := by rw [← hA9]; exact (ev_ne A8 (m := 32) (n := 5) (.pointer (some ⟨r, 0, none⟩)) (by decide)).trans d5
    replace d6 : A9.eval (.tmp 6) = .pointer (some ⟨w.heap.size + 1, 0, none⟩) := by rw [← hA9]; exact (ev_ne A8 (m := 32) (n := 6) (.pointer (some ⟨r, 0, none⟩)) (by decide)).trans d6
    replace d7 : A9.eval (.tmp 7) = .pointer (some ⟨w.heap.size + 2, 0, none⟩) := by rw [← hA9]; exact (ev_ne A8 (m := 32) (n := 7) (.pointer (some ⟨r, 0, none⟩)) (by decide)).trans d7
    replace d31 : A9.eval (.tmp 31) = .func (.func G) #[] #[] := by rw [← hA9]; exact (ev_ne A8 (m := 32) (n := 31) (.pointer (some ⟨r, 0, none⟩)) (by decide)).trans d31
    have e32 : A9.eval (.tmp 32) = .pointer (some ⟨r, 0, none⟩) := by rw [← hA9]; exact ev_self A8 32 (.pointer (some ⟨r, 0, none⟩)) (by omega)
    have szA9 : A9.tmps.size = 38 := by rw [← hA9]; exact (sz_put A8 32 (.pointer (some ⟨r, 0, none⟩))).trans szA8
    have HA9 := Lib.hid (show A8.put (some 32) (.pointer (some ⟨r, 0, none⟩)) = A9 from hA9)
    clear hA9 szA8
    have d32 := e32
    clear e32
    refine wpAnyH_take (i := 8) (v := .pointer (some ⟨p, 0, none⟩)) rfl (by kernel_rfl) (by kernel_rfl) (by kernel_rfl) (fun _ _ _ h => h) (.inl ⟨rfl, fun w g => run_moveV rfl d1 w⟩) GS.out ?_
    refine act_letter (fun A10 hA10 => ?_)
    replace d0 : A10.eval (.tmp 0) = .pointer (some ⟨r, 0, none⟩) := by rw [← hA10]; exact (ev_ne A9 (m := 33) (n := 0) (.pointer (some ⟨p, 0, none⟩)) (by decide)).trans d0
    replace d1 : A10.eval (.tmp 1) = .pointer (some ⟨p, 0, none⟩) := by rw [← hA10]; exact (ev_ne A9 (m := 33) (n := 1) (.pointer (some ⟨p, 0, none⟩)) (by decide)).trans d1
    replace d5 : A10.eval (.tmp 5) = .pointer (some ⟨w.heap.size, 0, none⟩) := by rw [← hA10]; exact (ev_ne A9 (m := 33) (n := 5) (.pointer (some ⟨p, 0, none⟩)) (by decide)).trans d5
    replace d6 : A10.eval (.tmp 6) = .pointer (some ⟨w.heap.size + 1, 0, none⟩) := by rw [← hA10]; exact (ev_ne A9 (m := 33) (n := 6) (.pointer (some ⟨p, 0, none⟩)) (by decide)).trans d6
    replace d7 : A10.eval (.tmp 7) = .pointer (some ⟨w.heap.size + 2, 0, none⟩) := by rw [← hA10]; exact (ev_ne A9 (m := 33) (n := 7) (.pointer (some ⟨p, 0, none⟩)) (by decide)).trans d7
    replace d31 : A10.eval (.tmp 31) = .func (.func G) #[] #[] := by rw [← hA10]; exact (ev_ne A9 (m := 33) (n := 31) (.pointer (some ⟨p, 0, none⟩)) (by decide)).trans d31
    replace d32 : A10.eval (.tmp 32) = .pointer (some ⟨r, 0, none⟩) := by rw [← hA10]; exact (ev_ne A9 (m := 33) (n := 32) (.pointer (some ⟨p, 0, none⟩)) (by decide)).trans d32
    have e33 : A10.eval (.tmp 33) = .pointer (some ⟨p, 0, none⟩) := by rw [← hA10]; exact ev_self A9 33 (.pointer (some ⟨p, 0, none⟩)) (by omega)
    have szA10 : A10.tmps.size = 38 := by rw [← hA10]; exact (sz_put A9 33 (.pointer (some ⟨p, 0, none⟩))).trans szA9
    have HA10 := Lib.hid (show A9.put (some 33) (.pointer (some ⟨p, 0, none⟩)) = A10 from hA10)
    clear hA10 szA9
    have d33 := e33
    clear e33
    refine wpAnyH_take (i := 9) (v := f.val) rfl (by kernel_rfl) (by kernel_rfl) (by kernel_rfl) (fun _ _ _ h => h) (.inl ⟨rfl, fun w g => run_form rfl d5 g.1⟩) GS.out ?_
    refine act_letter (fun A11 hA11 => ?_)
    replace d0 : A11.eval (.tmp 0) = .pointer (some ⟨r, 0, none⟩) := by rw [← hA11]; exact (ev_ne A10 (m := 34) (n := 0) (f.val) (by decide)).trans d0
    replace d1 : A11.eval (.tmp 1) = .pointer (some ⟨p, 0, none⟩) := by rw [← hA11]; exact (ev_ne A10 (m := 34) (n := 1) (f.val) (by decide)).trans d1
    replace d5 : A11.eval (.tmp 5) = .pointer (some ⟨w.heap.size, 0, none⟩) := by rw [← hA11]; exact (ev_ne A10 (m := 34) (n := 5) (f.val) (by decide)).trans d5
    replace d6 : A11.eval (.tmp 6) = .pointer (some ⟨w.heap.size + 1, 0, none⟩) := by rw [← hA11]; exact (ev_ne A10 (m := 34) (n := 6) (f.val) (by decide)).trans d6
    replace d7 : A11.eval (.tmp 7) = .pointer (some ⟨w.heap.size + 2, 0, none⟩) := by rw [← hA11]; exact (ev_ne A10 (m := 34) (n := 7) (f.val) (by decide)).trans d7
    replace d31 : A11.eval (.tmp 31) = .func (.func G) #[] #[] := by rw [← hA11]; exact (ev_ne A10 (m := 34) (n := 31) (f.val) (by decide)).trans d31
    replace d32 : A11.eval (.tmp 32) = .pointer (some ⟨r, 0, none⟩) := by rw [← hA11]; exact (ev_ne A10 (m := 34) (n := 32) (f.val) (by decide)).trans d32
    replace d33 : A11.eval (.tmp 33) = .pointer (some ⟨p, 0, none⟩) := by rw [← hA11]; exact (ev_ne A10 (m := 34) (n := 33) (f.val) (by decide)).trans d33
    have e34 : A11.eval (.tmp 34) = f.val := by rw [← hA11]; exact ev_self A10 34 (f.val) (by omega)
    have szA11 : A11.tmps.size = 38 := by rw [← hA11]; exact (sz_put A10 34 (f.val)).trans szA10
    have HA11 := Lib.hid (show A10.put (some 34) (f.val) = A11 from hA11)
    clear hA11 szA10
    have d34 := e34
    clear e34
    refine wpAnyH_ready (rs := [10]) (by kernel_rfl) (by simp) ?_
    refine AllReadyH.cons rfl (fun K hK => ?_) AllReadyH.nil
    refine wp_callV rfl (rfl) d31 HEN.out (vs := #[.pointer (some ⟨r, 0, none⟩), .pointer (some ⟨p, 0, none⟩), f.val]) (by simp [d32, d33, d34]) ((HST.out _ p m (c + 1) a PD.out HM.out).mono ?_)
    rintro e x1 ⟨v, ys, a', rfl, hv, hi, hnf, hC, hx, hT, hF⟩
    refine ⟨_, rfl, hK.out _ _ (⟨KD0.out.fr hF (HLO.out _ (Nat.le_refl _)), PD.out.rd.fr hF NR.out⟩) (fun _ => ?_)⟩
    clear hK K
    have S1 := Lib.hid (show (fun w' => Whole w' w.heap.size f.cells 24 ∧ Whole w' r (rcells none) 108) x1 from ⟨KD0.out.fr hF (HLO.out _ (Nat.le_refl _)), PD.out.rd.fr hF NR.out⟩)
    have X1 := Lib.hid (show Whole x1 (w.heap.size + 1) _ _ from KD1.out.fr hF (HLO.out _ (by omega)))
    have X2 := Lib.hid (show Whole x1 (w.heap.size + 2) _ _ from KD2.out.fr hF (HLO.out _ (by omega)))
    have HV := Lib.hid (show v.In x1 ∧ v.Hi X.drew.heap.size ∧ v.nf = RR.v ∧ Cr x1 p w0.heap.size ys a' ∧ (RR.e = 0 → ys = xs.drop RR.n ∧ a' = a + RR.n) ∧ Tly x1 none m (c + 1 + RR.c) ∧ Fr w x1 (Ft p none) from ⟨hv, hi, hnf, hC, hx, hT, GD.out.trans hF (fun _ _ e => e)⟩)
    clear hv hi hnf hC hx hT hF KD0 KD1 KD2 PD GD
    clear GS
    refine act_letter (fun A12 hA12 => ?_)
    replace d6 : A12.eval (.tmp 6) = .pointer (some ⟨w.heap.size + 1, 0, none⟩) := by rw [← hA12]; exact (ev_ne A11 (m := 35) (n := 6) (.tuple #[v.val, fault (faI a RR) RR.e]) (by decide)).trans d6
    replace d7 : A12.eval (.tmp 7) = .pointer (some ⟨w.heap.size + 2, 0, none⟩) := by rw [← hA12]; exact (ev_ne A11 (m := 35) (n := 7) (.tuple #[v.val, fault (faI a RR) RR.e]) (by decide)).trans d7
    have e35 : A12.eval (.tmp 35) = .tuple #[v.val, fault (faI a RR) RR.e] := by rw [← hA12]; exact ev_self A11 35 (.tuple #[v.val, fault (faI a RR) RR.e]) (by omega)
    have szA12 : A12.tmps.size = 38 := by rw [← hA12]; exact (sz_put A11 35 (.tuple #[v.val, fault (faI a RR) RR.e])).trans szA11
    have HA12 := Lib.hid (show A11.put (some 35) (.tuple #[v.val, fault (faI a RR) RR.e]) = A12 from hA12)
    clear hA12 szA11 d0 d1 d5 d31 d32 d33 d34
    have d35 := e35
    clear e35
    refine wpAnyH_take (i := 11) (v := v.val) rfl (by kernel_rfl) (by kernel_rfl) (by kernel_rfl) (fun _ _ _ h => h) (.inl ⟨rfl, fun w g => run_ext0 rfl d35 w⟩) S1.out ?_
    refine act_letter (fun A13 hA13 => ?_)
    replace d6 : A13.eval (.tmp 6) = .pointer (some ⟨w.heap.size + 1, 0, none⟩) := by rw [← hA13]; exact (ev_ne A12 (m := 36) (n := 6) (v.val) (by decide)).trans d6
    replace d7 : A13.eval (.tmp 7) = .pointer (some ⟨w.heap.size + 2, 0, none⟩) := by rw [← hA13]; exact (ev_ne A12 (m := 36) (n := 7) (v.val) (by decide)).trans d7
    replace d35 : A13.eval (.tmp 35) = .tuple #[v.val, fault (faI a RR) RR.e] := by rw [← hA13]; exact (ev_ne A12 (m := 36) (n := 35) (v.val) (by decide)).trans d35
    have e36 : A13.eval (.tmp 36) = v.val := by rw [← hA13]; exact ev_self A12 36 (v.val) (by omega)
    have szA13 : A13.tmps.size = 38 := by rw [← hA13]; exact (sz_put A12 36 (v.val)).trans szA12
    have HA13 := Lib.hid (show A12.put (some 36) (v.val) = A13 from hA13)
    clear hA13 szA12
    have d36 := e36
    clear e36
    refine wpAnyH_take (i := 12) (v := fault (faI a RR) RR.e) rfl (by kernel_rfl) (by kernel_rfl) (by kernel_rfl) (fun _ _ _ h => h) (.inl ⟨rfl, fun w g => run_ext1 rfl d35 w⟩) S1.out ?_
    refine act_letter (fun A14 hA14 => ?_)
    replace d6 : A14.eval (.tmp 6) = .pointer (some ⟨w.heap.size + 1, 0, none⟩) := by rw [← hA14]; exact (ev_ne A13 (m := 37) (n := 6) (fault (faI a RR) RR.e) (by decide)).trans d6
    replace d7 : A14.eval (.tmp 7) = .pointer (some ⟨w.heap.size + 2, 0, none⟩) := by rw [← hA14]; exact (ev_ne A13 (m := 37) (n := 7) (fault (faI a RR) RR.e) (by decide)).trans d7
    replace d36 : A14.eval (.tmp 36) = v.val := by rw [← hA14]; exact (ev_ne A13 (m := 37) (n := 36) (fault (faI a RR) RR.e) (by decide)).trans d36
    have e37 : A14.eval (.tmp 37) = fault (faI a RR) RR.e := by rw [← hA14]; exact ev_self A13 37 (fault (faI a RR) RR.e) (by omega)
    have szA14 : A14.tmps.size = 38 := by rw [← hA14]; exact (sz_put A13 37 (fault (faI a RR) RR.e)).trans szA13
    have HA14 := Lib.hid (show A13.put (some 37) (fault (faI a RR) RR.e) = A14 from hA14)
    clear hA14 szA13 d35
    have d37 := e37
    clear e37
    refine wpAnyH_ready (rs := [13]) (by kernel_rfl) (by simp) ?_
    refine AllReadyH.cons rfl (fun K hK => ?_) AllReadyH.nil
    refine wp_skipG rfl (w' := put3 x1 (w.heap.size + 1) (.int .u64 v.n) (.slice v.B v.bs.length v.d) (.slice v.A v.ls.length v.c)) (run_storeVa rfl d6 d36 X1.out) (hK.out _ _ (⟨S1.out.1.fr (fr_put3 _ _ _ _ _) (by omega), S1.out.2.fr (fr_put3 _ _ _ _ _) (by have := HRL.out; omega)⟩) (fun _ => ?_))
    clear hK K
    have S2 := Lib.hid (show (fun w' => Whole w' w.heap.size f.cells 24 ∧ Whole w' r (rcells none) 108) (put3 x1 (w.heap.size + 1) (.int .u64 v.n) (.slice v.B v.bs.length v.d) (.slice v.A v.ls.length v.c)) from ⟨S1.out.1.fr (fr_put3 _ _ _ _ _) (by omega), S1.out.2.fr (fr_put3 _ _ _ _ _) (by have := HRL.out; omega)⟩)
    clear S1
    refine act_letter (fun A15 hA15 => ?_)
    replace d6 : A15.eval (.tmp 6) = .pointer (some ⟨w.heap.size + 1, 0, none⟩) := by rw [← hA15]; exact d6
    replace d7 : A15.eval (.tmp 7) = .pointer (some ⟨w.heap.size + 2, 0, none⟩) := by rw [← hA15]; exact d7
    replace d36 : A15.eval (.tmp 36) = v.val := by rw [← hA15]; exact d36
    replace d37 : A15.eval (.tmp 37) = fault (faI a RR) RR.e := by rw [← hA15]; exact d37
    have szA15 : A15.tmps.size = 38 := by rw [← hA15]; exact szA14
    have HA15 := Lib.hid (show A14 = A15 from hA15)
    clear hA15 szA14
    refine wpAnyH_ready (rs := [14]) (by kernel_rfl) (by simp) ?_
    refine AllReadyH.cons rfl (fun K hK => ?_) AllReadyH.nil
    refine wp_skipG rfl (w' := put2 (put3 x1 (w.heap.size + 1) (.int .u64 v.n) (.slice v.B v.bs.length v.d) (.slice v.A v.ls.length v.c)) (w.heap.size + 2) (.int .i64 (faI a RR)) (.int .i64 RR.e)) (run_storeFa rfl d7 d37 (X2.out.fr (fr_put3 _ _ _ _ _) (by omega))) (hK.out _ _ (⟨S2.out.1.fr (fr_put2 _ _ _ _) (by omega), S2.out.2.fr (fr_put2 _ _ _ _) (by have := HRL.out; omega)⟩) (fun _ => ?_))
    clear hK K
    have S3 := Lib.hid (show (fun w' => Whole w' w.heap.size f.cells 24 ∧ Whole w' r (rcells none) 108) (put2 (put3 x1 (w.heap.size + 1) (.int .u64 v.n) (.slice v.B v.bs.length v.d) (.slice v.A v.ls.length v.c)) (w.heap.size + 2) (.int .i64 (faI a RR)) (.int .i64 RR.e)) from ⟨S2.out.1.fr (fr_put2 _ _ _ _) (by omega), S2.out.2.fr (fr_put2 _ _ _ _) (by have := HRL.out; omega)⟩)
    clear S2
    refine act_letter (fun A16 hA16 => ?_)
    replace d6 : A16.eval (.tmp 6) = .pointer (some ⟨w.heap.size + 1, 0, none⟩) := by rw [← hA16]; exact d6
    replace d7 : A16.eval (.tmp 7) = .pointer (some ⟨w.heap.size + 2, 0, none⟩) := by rw [← hA16]; exact d7
    replace d36 : A16.eval (.tmp 36) = v.val := by rw [← hA16]; exact d36
    replace d37 : A16.eval (.tmp 37) = fault (faI a RR) RR.e := by rw [← hA16]; exact d37
    have szA16 : A16.tmps.size = 38 := by rw [← hA16]; exact szA15
    have HA16 := Lib.hid (show A15 = A16 from hA16)
    clear hA16 szA15
    refine wpAnyH_done (by kernel_rfl) ?_ _
    rw [← HA16.out, ← HA15.out, ← HA14.out, ← HA13.out, ← HA12.out, ← HA11.out, ← HA10.out, ← HA9.out, ← HA8.out, ← HA7.out, ← HA6.out, ← HA5.out, ← HA4.out, ← HA3.out, ← HA2.out, ← HA1.out]
    clear HA2 HA3 HA4 HA5 HA6 HA7 HA8 HA9 HA10 HA11 HA12 HA13 HA14 HA15 HA16 HA1 d6 d7 d36 d37 szA16
    simp only [Act.put, List.setIfInBounds_toArray, List.set_cons_zero, List.set_cons_succ]
    clear S3
    go_wp2_with fail
    obtain ⟨r1, r2, r3⟩ := put32 X1.out X2.out (by omega) (.int .u64 v.n) (.slice v.B v.bs.length v.d) (.slice v.A v.ls.length v.c) (.int .i64 (faI a RR)) (.int .i64 RR.e)
    refine bodyPost_ret (results_cells rfl _ _ _ _ _ _ _ _ _ _ _ _ rfl r1 Try.underlying29 rfl (by kernel_rfl) rfl r2 Try.underlying78 rfl (by kernel_rfl)) rfl ?_
    obtain ⟨hv, hi, hnf, hC, hx, hT, hF⟩ := HV.out
    have hxd := XD.out
    refine got_close (R := ⟨RR.e, RR.n, RR.v, RR.c + 1⟩) (v := v) (k := X.drew.heap.size) hF hC ?_ r3 (by omega) (by omega) HF.out hv hi (by omega) (by omega) hnf hx rfl
    have q1 : c + ((RR.c + 1 : Nat) : Int) = c + 1 + RR.c := by omega
    rw [q1]
    exact hT
  | some tq =>
    have r0 := PW.out.rd.cell 0
    change _ = some (Value.pointer (some ⟨tq, 0, none⟩)) at r0
    have hsp : spE m c 1 = 0 ∧ spC m c 1 = c + 1 := by
      have h1 := HM.out (by simp)
      exact ⟨spE_ok (by omega) (by omega), spC_ok (by omega) (by omega)⟩
    have HSP := Lib.hid hsp
    clear hsp
    go_enter Try.func59, Try.ntmps59
    go_wp2_with fail
    clear r0
    generalize ((w.alloc (.cells #[.int .i64 f.k, .int .i64 f.s, .int .i64 f.l, .int .i64 f.h, .int .i64 f.t, .slice f.A f.ps.length f.c] 24)).alloc (.cells #[.int .u64 0, .slice none 0 0, .slice none 0 0] 29)).alloc (.cells #[.int .i64 0, .int .i64 0] 78) = W at *
    refine (tspend_any W tq m c (PW.out.ty tq rfl) 1 (by omega)).mono ?_
    rintro e X ⟨rfl, hT, g⟩
    rw [HSP.out.1]
    rw [HSP.out.2] at hT
    have hFx : Fr W X (Ft p (some tq)) := Fr.of_grew' g (fun i e => .inr e)
    have hlo : ∀ i, w.heap.size ≤ i → ¬ Ft p (some tq) i := fun i hi e => by have := HF.out i e; omega
    have PX := Lib.hid (PW.out.got hFx (PW.out.cr.grew g (fun e => PW.out.tne e.symm) (fun k hk => by cases hk; exact PW.out.tl _ rfl)) (fun q hq => by cases hq; exact hT))
    have XS := Lib.hid (show w.heap.size + 3 ≤ X.heap.size by rw [← KS.out]; exact g.size)
    replace K0 := Lib.hid (K0.out.fr hFx (hlo _ (Nat.le_refl _)))
    replace K1 := Lib.hid (K1.out.fr hFx (hlo _ (by omega)))
    replace K2 := Lib.hid (K2.out.fr hFx (hlo _ (by omega)))
    have GX := Lib.hid (show Fr w X (Ft p (some tq)) from (fr_of G0.out).trans hFx (fun _ _ e => e))
    clear hT g hFx hlo PW G0
    go_upto_region 3 with (fail)
    have PD := Lib.hid (PX.out.fr (F := fun _ => False) ((Fr.refl X (fun _ => False)).drew) (fun h => h) (fun _ _ h => h) (fun _ h => h.elim))
    have GS := Lib.hid (show (fun w' => Whole w' w.heap.size f.cells 24 ∧ Whole w' r (rcells (some tq)) 108) X.drew from ⟨K0.out, PD.out.rd⟩)
    have KD0 := Lib.hid (show Whole X.drew w.heap.size f.cells 24 from K0.out)
    have KD1 := Lib.hid (show Whole X.drew (w.heap.size + 1) _ _ from K1.out)
    have KD2 := Lib.hid (show Whole X.drew (w.heap.size + 2) _ _ from K2.out)
    have GD := Lib.hid (show Fr w X.drew (Ft p (some tq)) from GX.out.drew)
    have XD := Lib.hid (show w.heap.size + 3 ≤ X.drew.heap.size from XS.out)
    have NR := Lib.hid (show ¬ Ft p (some tq) r from PD.out.rne)
    have HLO := Lib.hid (show ∀ i, w.heap.size ≤ i → ¬ Ft p (some tq) i from fun i hi e => by have := HF.out i e; omega)
    clear K0 K1 K2 GX XS KS
    refine act_letterC (fun A1 hA1 => ?_)
    have d0 : A1.eval (.tmp 0) = .pointer (some ⟨r, 0, none⟩) := by rw [← hA1]; rfl
    have d1 : A1.eval (.tmp 1) = .pointer (some ⟨p, 0, none⟩) := by rw [← hA1]; rfl
    have d5 : A1.eval (.tmp 5) = .pointer (some ⟨w.heap.size, 0, none⟩) := by rw [← hA1]; rfl
    have d6 : A1.eval (.tmp 6) = .pointer (some ⟨w.heap.size + 1, 0, none⟩) := by rw [← hA1]; rfl
    have d7 : A1.eval (.tmp 7) = .pointer (some ⟨w.heap.size + 2, 0, none⟩) := by rw [← hA1]; rfl
    have szA1 : A1.tmps.size = 38 := by rw [← hA1]; rfl
    have HA1 := Lib.hid hA1
    clear hA1
    refine wp_region_held (S := fun w' => Whole w' w.heap.size f.cells 24 ∧ Whole w' r (rcells (some tq)) 108) (by kernel_rfl) ?_
    change wpAnyH _ _ _ _ _ _ _ _ (World.drew X)
    refine wpAnyH_take (i := 0) (v := .pointer (some ⟨r, 0, none⟩)) rfl (by kernel_rfl) (by kernel_rfl) (by kernel_rfl) (fun _ _ _ h => h) (.inl ⟨rfl, fun w g => run_moveV rfl d0 w⟩) GS.out ?_
    refine act_letter (fun A2 hA2 => ?_)
    replace d0 : A2.eval (.tmp 0) = .pointer (some ⟨r, 0, none⟩) := by rw [← hA2]; exact (ev_ne A1 (m := 25) (n := 0) (.pointer (some ⟨r, 0, none⟩)) (by decide)).trans d0
    replace d1 : A2.eval (.tmp 1) = .pointer (some ⟨p, 0, none⟩) := by rw [← hA2]; exact (ev_ne A1 (m := 25) (n := 1) (.pointer (some ⟨r, 0, none⟩)) (by decide)).trans d1
    replace d5 : A2.eval (.tmp 5) = .pointer (some ⟨w.heap.size, 0, none⟩) := by rw [← hA2]; exact (ev_ne A1 (m := 25) (n := 5) (.pointer (some ⟨r, 0, none⟩)) (by decide)).trans d5
    replace d6 : A2.eval (.tmp 6) = .pointer (some ⟨w.heap.size + 1, 0, none⟩) := by rw [← hA2]; exact (ev_ne A1 (m := 25) (n := 6) (.pointer (some ⟨r, 0, none⟩)) (by decide)).trans d6
    replace d7 : A2.eval (.tmp 7) = .pointer (some ⟨w.heap.size + 2, 0, none⟩) := by rw [← hA2]; exact (ev_ne A1 (m := 25) (n := 7) (.pointer (some ⟨r, 0, none⟩)) (by decide)).trans d7
    have e25 : A2.eval (.tmp 25) = .pointer (some ⟨r, 0, none⟩) := by rw [← hA2]; exact ev_self A1 25 (.pointer (some ⟨r, 0, none⟩)) (by omega)
    have szA2 : A2.tmps.size = 38 := by rw [← hA2]; exact (sz_put A1 25 (.pointer (some ⟨r, 0, none⟩))).trans szA1
    have HA2 := Lib.hid (show A1.put (some 25) (.pointer (some ⟨r, 0, none⟩)) = A2 from hA2)
    clear hA2 szA1
    have d25 := e25
    clear e25
    refine wpAnyH_take (i := 1) (v := .pointer (some ⟨w.heap.size, 0, none⟩)) rfl (by kernel_rfl) (by kernel_rfl) (by kernel_rfl) (fun _ _ _ h => h) (.inl ⟨rfl, fun w g => run_fieldF0 rfl d5 w⟩) GS.out ?_
    refine act_letter (fun A3 hA3 => ?_)
    replace d0 : A3.eval (.tmp 0) = .pointer (some ⟨r, 0, none⟩) := by rw [← hA3]; exact (ev_ne A2 (m := 26) (n := 0) (.pointer (some ⟨w.heap.size, 0, none⟩)) (by decide)).trans d0
    replace d1 : A3.eval (.tmp 1) = .pointer (some ⟨p, 0, none⟩) := by rw [← hA3]; exact (ev_ne A2 (m := 26) (n := 1) (.pointer (some ⟨w.heap.size, 0, none⟩)) (by decide)).trans d1
    replace d5 : A3.eval (.tmp 5) = .pointer (some ⟨w.heap.size, 0, none⟩) := by rw [← hA3]; exact (ev_ne A2 (m := 26) (n := 5) (.pointer (some ⟨w.heap.size, 0, none⟩)) (by decide)).trans d5
    replace d6 : A3.eval (.tmp 6) = .pointer (some ⟨w.heap.size + 1, 0, none⟩) := by rw [← hA3]; exact (ev_ne A2 (m := 26) (n := 6) (.pointer (some ⟨w.heap.size, 0, none⟩)) (by decide)).trans d6
    replace d7 : A3.eval (.tmp 7) = .pointer (some ⟨w.heap.size + 2, 0, none⟩) := by rw [← hA3]; exact (ev_ne A2 (m := 26) (n := 7) (.pointer (some ⟨w.heap.size, 0, none⟩)) (by decide)).trans d7
    replace d25 : A3.eval (.tmp 25) = .pointer (some ⟨r, 0, none⟩) := by rw [← hA3]; exact (ev_ne A2 (m := 26) (n := 25) (.pointer (some ⟨w.heap.size, 0, none⟩)) (by decide)).trans d25
    have e26 : A3.eval (.tmp 26) = .pointer (some ⟨w.heap.size, 0, none⟩) := by rw [← hA3]; exact ev_self A2 26 (.pointer (some ⟨w.heap.size, 0, none⟩)) (by omega)
    have szA3 : A3.tmps.size = 38 := by rw [← hA3]; exact (sz_put A2 26 (.pointer (some ⟨w.heap.size, 0, none⟩))).trans szA2
    have HA3 := Lib.hid (show A2.put (some 26) (.pointer (some ⟨w.heap.size, 0, none⟩)) = A3 from hA3)
    clear hA3 szA2
    have d26 := e26
    clear e26
    refine wpAnyH_take (i := 2) (v := .int .i64 f.k) rfl (by kernel_rfl) (by kernel_rfl) (by kernel_rfl) (fun _ _ _ h => h) (.inl ⟨rfl, fun w g => run_int rfl d26 (g.1.cell 0)⟩) GS.out ?_
    refine act_letter (fun A4 hA4 => ?_)
    replace d0 : A4.eval (.tmp 0) = .pointer (some ⟨r, 0, none⟩) := by rw [← hA4]; exact (ev_ne A3 (m := 27) (n := 0) (.int .i64 f.k) (by decide)).trans d0
    replace d1 : A4.eval (.tmp 1) = .pointer (some ⟨p, 0, none⟩) := by rw [← hA4]; exact (ev_ne A3 (m := 27) (n := 1) (.int .i64 f.k) (by decide)).trans d1
    replace d5 : A4.eval (.tmp 5) = .pointer (some ⟨w.heap.size, 0, none⟩) := by rw [← hA4]; exact (ev_ne A3 (m := 27) (n := 5) (.int .i64 f.k) (by decide)).trans d5
    replace d6 : A4.eval (.tmp 6) = .pointer (some ⟨w.heap.size + 1, 0, none⟩) := by rw [← hA4]; exact (ev_ne A3 (m := 27) (n := 6) (.int .i64 f.k) (by decide)).trans d6
    replace d7 : A4.eval (.tmp 7) = .pointer (some ⟨w.heap.size + 2, 0, none⟩) := by rw [← hA4]; exact (ev_ne A3 (m := 27) (n := 7) (.int .i64 f.k) (by decide)).trans d7
    replace d25 : A4.eval (.tmp 25) = .pointer (some ⟨r, 0, none⟩) := by rw [← hA4]; exact (ev_ne A3 (m := 27) (n := 25) (.int .i64 f.k) (by decide)).trans d25
    have e27 : A4.eval (.tmp 27) = .int .i64 f.k := by rw [← hA4]; exact ev_self A3 27 (.int .i64 f.k) (by omega)
    have szA4 : A4.tmps.size = 38 := by rw [← hA4]; exact (sz_put A3 27 (.int .i64 f.k)).trans szA3
    have HA4 := Lib.hid (show A3.put (some 27) (.int .i64 f.k) = A4 from hA4)
    clear hA4 szA3 d26
    have d27 := e27
    clear e27
    refine wpAnyH_take (i := 3) (v := .pointer (some ⟨r, 0, none⟩)) rfl (by kernel_rfl) (by kernel_rfl) (by kernel_rfl) (fun _ _ _ h => h) (.inl ⟨rfl, fun w g => run_nilc rfl d25 w⟩) GS.out ?_
    refine act_letter (fun A5 hA5 => ?_)
    replace d0 : A5.eval (.tmp 0) = .pointer (some ⟨r, 0, none⟩) := by rw [← hA5]; exact (ev_ne A4 (m := 28) (n := 0) (.pointer (some ⟨r, 0, none⟩)) (by decide)).trans d0
    replace d1 : A5.eval (.tmp 1) = .pointer (some ⟨p, 0, none⟩) := by rw [← hA5]; exact (ev_ne A4 (m := 28) (n := 1) (.pointer (some ⟨r, 0, none⟩)) (by decide)).trans d1
    replace d5 : A5.eval (.tmp 5) = .pointer (some ⟨w.heap.size, 0, none⟩) := by rw [← hA5]; exact (ev_ne A4 (m := 28) (n := 5) (.pointer (some ⟨r, 0, none⟩)) (by decide)).trans d5
    replace d6 : A5.eval (.tmp 6) = .pointer (some ⟨w.heap.size + 1, 0, none⟩) := by rw [← hA5]; exact (ev_ne A4 (m := 28) (n := 6) (.pointer (some ⟨r, 0, none⟩)) (by decide)).trans d6
    replace d7 : A5.eval (.tmp 7) = .pointer (some ⟨w.heap.size + 2, 0, none⟩) := by rw [← hA5]; exact (ev_ne A4 (m := 28) (n := 7) (.pointer (some ⟨r, 0, none⟩)) (by decide)).trans d7
    replace d27 : A5.eval (.tmp 27) = .int .i64 f.k := by rw [← hA5]; exact (ev_ne A4 (m := 28) (n := 27) (.pointer (some ⟨r, 0, none⟩)) (by decide)).trans d27
    have e28 : A5.eval (.tmp 28) = .pointer (some ⟨r, 0, none⟩) := by rw [← hA5]; exact ev_self A4 28 (.pointer (some ⟨r, 0, none⟩)) (by omega)
    have szA5 : A5.tmps.size = 38 := by rw [← hA5]; exact (sz_put A4 28 (.pointer (some ⟨r, 0, none⟩))).trans szA4
    have HA5 := Lib.hid (show A4.put (some 28) (.pointer (some ⟨r, 0, none⟩)) = A5 from hA5)
    clear hA5 szA4 d25
    have d28 := e28
    clear e28
    refine wpAnyH_take (i := 4) (v := .pointer (some ⟨r, 1, none⟩)) rfl (by kernel_rfl) (by kernel_rfl) (by kernel_rfl) (fun _ _ _ h => h) (.inl ⟨rfl, fun w g => run_fieldR rfl d28 w⟩) GS.out ?_
    refine act_letter (fun A6 hA6 => ?_)
    replace d0 : A6.eval (.tmp 0) = .pointer (some ⟨r, 0, none⟩) := by rw [← hA6]; exact (ev_ne A5 (m := 29) (n := 0) (.pointer (some ⟨r, 1, none⟩)) (by decide)).trans d0
    replace d1 : A6.eval (.tmp 1) = .pointer (some ⟨p, 0, none⟩) := by rw [← hA6]; exact (ev_ne A5 (m := 29) (n := 1) (.pointer (some ⟨r, 1, none⟩)) (by decide)).trans d1
    replace d5 : A6.eval (.tmp 5) = .pointer (some ⟨w.heap.size, 0, none⟩) := by rw [← hA6]; exact (ev_ne A5 (m := 29) (n := 5) (.pointer (some ⟨r, 1, none⟩)) (by decide)).trans d5
    replace d6 : A6.eval (.tmp 6) = .pointer (some ⟨w.heap.size + 1, 0, none⟩) := by rw [← hA6]; exact (ev_ne A5 (m := 29) (n := 6) (.pointer (some ⟨r, 1, none⟩)) (by decide)).trans d6
    replace d7 : A6.eval (.tmp 7) = .pointer (some ⟨w.heap.size + 2, 0, none⟩) := by rw [← hA6]; exact (ev_ne A5 (m := 29) (n := 7) (.pointer (some ⟨r, 1, none⟩)) (by decide)).trans d7
    replace d27 : A6.eval (.tmp 27) = .int .i64 f.k := by rw [← hA6]; exact (ev_ne A5 (m := 29) (n := 27) (.pointer (some ⟨r, 1, none⟩)) (by decide)).trans d27
    have e29 : A6.eval (.tmp 29) = .pointer (some ⟨r, 1, none⟩) := by rw [← hA6]; exact ev_self A5 29 (.pointer (some ⟨r, 1, none⟩)) (by omega)
    have szA6 : A6.tmps.size = 38 := by rw [← hA6]; exact (sz_put A5 29 (.pointer (some ⟨r, 1, none⟩))).trans szA5
    have HA6 := Lib.hid (show A5.put (some 29) (.pointer (some ⟨r, 1, none⟩)) = A6 from hA6)
    clear hA6 szA5 d28
    have d29 := e29
    clear e29
    refine wpAnyH_take (i := 5) (v := .pointer (some ⟨r, 1 + kk, none⟩)) rfl (by kernel_rfl) (by kernel_rfl) (by kernel_rfl) (fun _ _ _ h => h) (.inl ⟨rfl, fun w g => run_idx rfl d29 (d27.trans (by rw [HKK.out])) HK6.out w⟩) GS.out ?_
    refine act_letter (fun A7 hA7 => ?_)
    replace d0 : A7.eval (.tmp 0) = .pointer (some ⟨r, 0, none⟩) := by rw [← hA7]; exact (ev_ne A6 (m := 30) (n := 0) (.pointer (some ⟨r, 1 + kk, none⟩)) (by decide)).trans d0
    replace d1 : A7.eval (.tmp 1) = .pointer (some ⟨p, 0, none⟩) := by rw [← hA7]; exact (ev_ne A6 (m := 30) (n := 1) (.pointer (some ⟨r, 1 + kk, none⟩)) (by decide)).trans d1
    replace d5 : A7.eval (.tmp 5) = .pointer (some ⟨w.heap.size, 0, none⟩) := by rw [← hA7]; exact (ev_ne A6 (m := 30) (n := 5) (.pointer (some ⟨r, 1 + kk, none⟩)) (by decide)).trans d5
    replace d6 : A7.eval (.tmp 6) = .pointer (some ⟨w.heap.size + 1, 0, none⟩) := by rw [← hA7]; exact (ev_ne A6 (m := 30) (n := 6) (.pointer (some ⟨r, 1 + kk, none⟩)) (by decide)).trans d6
    replace d7 : A7.eval (.tmp 7) = .pointer (some ⟨w.heap.size + 2, 0, none⟩) := by rw [← hA7]; exact (ev_ne A6 (m := 30) (n := 7) (.pointer (some ⟨r, 1 + kk, none⟩)) (by decide)).trans d7
    have e30 : A7.eval (.tmp 30) = .pointer (some ⟨r, 1 + kk, none⟩) := by rw [← hA7]; exact ev_self A6 30 (.pointer (some ⟨r, 1 + kk, none⟩)) (by omega)
    have szA7 : A7.tmps.size = 38 := by rw [← hA7]; exact (sz_put A6 30 (.pointer (some ⟨r, 1 + kk, none⟩))).trans szA6
    have HA7 := Lib.hid (show A6.put (some 30) (.pointer (some ⟨r, 1 + kk, none⟩)) = A7 from hA7)
    clear hA7 szA6 d27 d29
    have d30 := e30
    clear e30
    refine wpAnyH_take (i := 6) (v := .func (.func G) #[] #[]) rfl (by kernel_rfl) (by kernel_rfl) (by kernel_rfl) (fun _ _ _ h => h) (.inl ⟨rfl, fun w g => run_fn rfl d30 ((g.2.cell (1 + kk)).trans HGG.out)⟩) GS.out ?_
    refine act_letter (fun A8 hA8 => ?_)
    replace d0 : A8.eval (.tmp 0) = .pointer (some ⟨r, 0, none⟩) := by rw [← hA8]; exact (ev_ne A7 (m := 31) (n := 0) (.func (.func G) #[] #[]) (by decide)).trans d0
    replace d1 : A8.eval (.tmp 1) = .pointer (some ⟨p, 0, none⟩) := by rw [← hA8]; exact (ev_ne A7 (m := 31) (n := 1) (.func (.func G) #[] #[]) (by decide)).trans d1
    replace d5 : A8.eval (.tmp 5) = .pointer (some ⟨w.heap.size, 0, none⟩) := by rw [← hA8]; exact (ev_ne A7 (m := 31) (n := 5) (.func (.func G) #[] #[]) (by decide)).trans d5
    replace d6 : A8.eval (.tmp 6) = .pointer (some ⟨w.heap.size + 1, 0, none⟩) := by rw [← hA8]; exact (ev_ne A7 (m := 31) (n := 6) (.func (.func G) #[] #[]) (by decide)).trans d6
    replace d7 : A8.eval (.tmp 7) = .pointer (some ⟨w.heap.size + 2, 0, none⟩) := by rw [← hA8]; exact (ev_ne A7 (m := 31) (n := 7) (.func (.func G) #[] #[]) (by decide)).trans d7
    have e31 : A8.eval (.tmp 31) = .func (.func G) #[] #[] := by rw [← hA8]; exact ev_self A7 31 (.func (.func G) #[] #[]) (by omega)
    have szA8 : A8.tmps.size = 38 := by rw [← hA8]; exact (sz_put A7 31 (.func (.func G) #[] #[])).trans szA7
    have HA8 := Lib.hid (show A7.put (some 31) (.func (.func G) #[] #[]) = A8 from hA8)
    clear hA8 szA7 d30
    have d31 := e31
    clear e31
    refine wpAnyH_take (i := 7) (v := .pointer (some ⟨r, 0, none⟩)) rfl (by kernel_rfl) (by kernel_rfl) (by kernel_rfl) (fun _ _ _ h => h) (.inl ⟨rfl, fun w g => run_moveV rfl d0 w⟩) GS.out ?_
    refine act_letter (fun A9 hA9 => ?_)
    replace d0 : A9.eval (.tmp 0) = .pointer (some ⟨r, 0, none⟩) := by rw [← hA9]; exact (ev_ne A8 (m := 32) (n := 0) (.pointer (some ⟨r, 0, none⟩)) (by decide)).trans d0
    replace d1 : A9.eval (.tmp 1) = .pointer (some ⟨p, 0, none⟩) := by rw [← hA9]; exact (ev_ne A8 (m := 32) (n := 1) (.pointer (some ⟨r, 0, none⟩)) (by decide)).trans d1
    replace d5 : A9.eval (.tmp 5) = .pointer (some ⟨w.heap.size, 0, none⟩) := by rw [← hA9]; exact (ev_ne A8 (m := 32) (n := 5) (.pointer (some ⟨r, 0, none⟩)) (by decide)).trans d5
    replace d6 : A9.eval (.tmp 6) = .pointer (some ⟨w.heap.size + 1, 0, none⟩) := by rw [← hA9]; exact (ev_ne A8 (m := 32) (n := 6) (.pointer (some ⟨r, 0, none⟩)) (by decide)).trans d6
    replace d7 : A9.eval (.tmp 7) = .pointer (some ⟨w.heap.size + 2, 0, none⟩) := by rw [← hA9]; exact (ev_ne A8 (m := 32) (n := 7) (.pointer (some ⟨r, 0, none⟩)) (by decide)).trans d7
    replace d31 : A9.eval (.tmp 31) = .func (.func G) #[] #[] := by rw [← hA9]; exact (ev_ne A8 (m := 32) (n := 31) (.pointer (some ⟨r, 0, none⟩)) (by decide)).trans d31
    have e32 : A9.eval (.tmp 32) = .pointer (some ⟨r, 0, none⟩) := by rw [← hA9]; exact ev_self A8 32 (.pointer (some ⟨r, 0, none⟩)) (by omega)
    have szA9 : A9.tmps.size = 38 := by rw [← hA9]; exact (sz_put A8 32 (.pointer (some ⟨r, 0, none⟩))).trans szA8
    have HA9 := Lib.hid (show A8.put (some 32) (.pointer (some ⟨r, 0, none⟩)) = A9 from hA9)
    clear hA9 szA8
    have d32 := e32
    clear e32
    refine wpAnyH_take (i := 8) (v := .pointer (some ⟨p, 0, none⟩)) rfl (by kernel_rfl) (by kernel_rfl) (by kernel_rfl) (fun _ _ _ h => h) (.inl ⟨rfl, fun w g => run_moveV rfl d1 w⟩) GS.out ?_
    refine act_letter (fun A10 hA10 => ?_)
    replace d0 : A10.eval (.tmp 0) = .pointer (some ⟨r, 0, none⟩) := by rw [← hA10]; exact (ev_ne A9 (m := 33) (n := 0) (.pointer (some ⟨p, 0, none⟩)) (by decide)).trans d0
    replace d1 : A10.eval (.tmp 1) = .pointer (some ⟨p, 0, none⟩) := by rw [← hA10]; exact (ev_ne A9 (m := 33) (n := 1) (.pointer (some ⟨p, 0, none⟩)) (by decide)).trans d1
    replace d5 : A10.eval (.tmp 5) = .pointer (some ⟨w.heap.size, 0, none⟩) := by rw [← hA10]; exact (ev_ne A9 (m := 33) (n := 5) (.pointer (some ⟨p, 0, none⟩)) (by decide)).trans d5
    replace d6 : A10.eval (.tmp 6) = .pointer (some ⟨w.heap.size + 1, 0, none⟩) := by rw [← hA10]; exact (ev_ne A9 (m := 33) (n := 6) (.pointer (some ⟨p, 0, none⟩)) (by decide)).trans d6
    replace d7 : A10.eval (.tmp 7) = .pointer (some ⟨w.heap.size + 2, 0, none⟩) := by rw [← hA10]; exact (ev_ne A9 (m := 33) (n := 7) (.pointer (some ⟨p, 0, none⟩)) (by decide)).trans d7
    replace d31 : A10.eval (.tmp 31) = .func (.func G) #[] #[] := by rw [← hA10]; exact (ev_ne A9 (m := 33) (n := 31) (.pointer (some ⟨p, 0, none⟩)) (by decide)).trans d31
    replace d32 : A10.eval (.tmp 32) = .pointer (some ⟨r, 0, none⟩) := by rw [← hA10]; exact (ev_ne A9 (m := 33) (n := 32) (.pointer (some ⟨p, 0, none⟩)) (by decide)).trans d32
    have e33 : A10.eval (.tmp 33) = .pointer (some ⟨p, 0, none⟩) := by rw [← hA10]; exact ev_self A9 33 (.pointer (some ⟨p, 0, none⟩)) (by omega)
    have szA10 : A10.tmps.size = 38 := by rw [← hA10]; exact (sz_put A9 33 (.pointer (some ⟨p, 0, none⟩))).trans szA9
    have HA10 := Lib.hid (show A9.put (some 33) (.pointer (some ⟨p, 0, none⟩)) = A10 from hA10)
    clear hA10 szA9
    have d33 := e33
    clear e33
    refine wpAnyH_take (i := 9) (v := f.val) rfl (by kernel_rfl) (by kernel_rfl) (by kernel_rfl) (fun _ _ _ h => h) (.inl ⟨rfl, fun w g => run_form rfl d5 g.1⟩) GS.out ?_
    refine act_letter (fun A11 hA11 => ?_)
    replace d0 : A11.eval (.tmp 0) = .pointer (some ⟨r, 0, none⟩) := by rw [← hA11]; exact (ev_ne A10 (m := 34) (n := 0) (f.val) (by decide)).trans d0
    replace d1 : A11.eval (.tmp 1) = .pointer (some ⟨p, 0, none⟩) := by rw [← hA11]; exact (ev_ne A10 (m := 34) (n := 1) (f.val) (by decide)).trans d1
    replace d5 : A11.eval (.tmp 5) = .pointer (some ⟨w.heap.size, 0, none⟩) := by rw [← hA11]; exact (ev_ne A10 (m := 34) (n := 5) (f.val) (by decide)).trans d5
    replace d6 : A11.eval (.tmp 6) = .pointer (some ⟨w.heap.size + 1, 0, none⟩) := by rw [← hA11]; exact (ev_ne A10 (m := 34) (n := 6) (f.val) (by decide)).trans d6
    replace d7 : A11.eval (.tmp 7) = .pointer (some ⟨w.heap.size + 2, 0, none⟩) := by rw [← hA11]; exact (ev_ne A10 (m := 34) (n := 7) (f.val) (by decide)).trans d7
    replace d31 : A11.eval (.tmp 31) = .func (.func G) #[] #[] := by rw [← hA11]; exact (ev_ne A10 (m := 34) (n := 31) (f.val) (by decide)).trans d31
    replace d32 : A11.eval (.tmp 32) = .pointer (some ⟨r, 0, none⟩) := by rw [← hA11]; exact (ev_ne A10 (m := 34) (n := 32) (f.val) (by decide)).trans d32
    replace d33 : A11.eval (.tmp 33) = .pointer (some ⟨p, 0, none⟩) := by rw [← hA11]; exact (ev_ne A10 (m := 34) (n := 33) (f.val) (by decide)).trans d33
    have e34 : A11.eval (.tmp 34) = f.val := by rw [← hA11]; exact ev_self A10 34 (f.val) (by omega)
    have szA11 : A11.tmps.size = 38 := by rw [← hA11]; exact (sz_put A10 34 (f.val)).trans szA10
    have HA11 := Lib.hid (show A10.put (some 34) (f.val) = A11 from hA11)
    clear hA11 szA10
    have d34 := e34
    clear e34
    refine wpAnyH_ready (rs := [10]) (by kernel_rfl) (by simp) ?_
    refine AllReadyH.cons rfl (fun K hK => ?_) AllReadyH.nil
    refine wp_callV rfl (rfl) d31 HEN.out (vs := #[.pointer (some ⟨r, 0, none⟩), .pointer (some ⟨p, 0, none⟩), f.val]) (by simp [d32, d33, d34]) ((HST.out _ p m (c + 1) a PD.out HM.out).mono ?_)
    rintro e x1 ⟨v, ys, a', rfl, hv, hi, hnf, hC, hx, hT, hF⟩
    refine ⟨_, rfl, hK.out _ _ (⟨KD0.out.fr hF (HLO.out _ (Nat.le_refl _)), PD.out.rd.fr hF NR.out⟩) (fun _ => ?_)⟩
    clear hK K
    have S1 := Lib.hid (show (fun w' => Whole w' w.heap.size f.cells 24 ∧ Whole w' r (rcells (some tq)) 108) x1 from ⟨KD0.out.fr hF (HLO.out _ (Nat.le_refl _)), PD.out.rd.fr hF NR.out⟩)
    have X1 := Lib.hid (show Whole x1 (w.heap.size + 1) _ _ from KD1.out.fr hF (HLO.out _ (by omega)))
    have X2 := Lib.hid (show Whole x1 (w.heap.size + 2) _ _ from KD2.out.fr hF (HLO.out _ (by omega)))
    have HV := Lib.hid (show v.In x1 ∧ v.Hi X.drew.heap.size ∧ v.nf = RR.v ∧ Cr x1 p w0.heap.size ys a' ∧ (RR.e = 0 → ys = xs.drop RR.n ∧ a' = a + RR.n) ∧ Tly x1 (some tq) m (c + 1 + RR.c) ∧ Fr w x1 (Ft p (some tq)) from ⟨hv, hi, hnf, hC, hx, hT, GD.out.trans hF (fun _ _ e => e)⟩)
    clear hv hi hnf hC hx hT hF KD0 KD1 KD2 PD GD
    clear GS
    refine act_letter (fun A12 hA12 => ?_)
    replace d6 : A12.eval (.tmp 6) = .pointer (some ⟨w.heap.size + 1, 0, none⟩) := by rw [← hA12]; exact (ev_ne A11 (m := 35) (n := 6) (.tuple #[v.val, fault (faI a RR) RR.e]) (by decide)).trans d6
    replace d7 : A12.eval (.tmp 7) = .pointer (some ⟨w.heap.size + 2, 0, none⟩) := by rw [← hA12]; exact (ev_ne A11 (m := 35) (n := 7) (.tuple #[v.val, fault (faI a RR) RR.e]) (by decide)).trans d7
    have e35 : A12.eval (.tmp 35) = .tuple #[v.val, fault (faI a RR) RR.e] := by rw [← hA12]; exact ev_self A11 35 (.tuple #[v.val, fault (faI a RR) RR.e]) (by omega)
    have szA12 : A12.tmps.size = 38 := by rw [← hA12]; exact (sz_put A11 35 (.tuple #[v.val, fault (faI a RR) RR.e])).trans szA11
    have HA12 := Lib.hid (show A11.put (some 35) (.tuple #[v.val, fault (faI a RR) RR.e]) = A12 from hA12)
    clear hA12 szA11 d0 d1 d5 d31 d32 d33 d34
    have d35 := e35
    clear e35
    refine wpAnyH_take (i := 11) (v := v.val) rfl (by kernel_rfl) (by kernel_rfl) (by kernel_rfl) (fun _ _ _ h => h) (.inl ⟨rfl, fun w g => run_ext0 rfl d35 w⟩) S1.out ?_
    refine act_letter (fun A13 hA13 => ?_)
    replace d6 : A13.eval (.tmp 6) = .pointer (some ⟨w.heap.size + 1, 0, none⟩) := by rw [← hA13]; exact (ev_ne A12 (m := 36) (n := 6) (v.val) (by decide)).trans d6
    replace d7 : A13.eval (.tmp 7) = .pointer (some ⟨w.heap.size + 2, 0, none⟩) := by rw [← hA13]; exact (ev_ne A12 (m := 36) (n := 7) (v.val) (by decide)).trans d7
    replace d35 : A13.eval (.tmp 35) = .tuple #[v.val, fault (faI a RR) RR.e] := by rw [← hA13]; exact (ev_ne A12 (m := 36) (n := 35) (v.val) (by decide)).trans d35
    have e36 : A13.eval (.tmp 36) = v.val := by rw [← hA13]; exact ev_self A12 36 (v.val) (by omega)
    have szA13 : A13.tmps.size = 38 := by rw [← hA13]; exact (sz_put A12 36 (v.val)).trans szA12
    have HA13 := Lib.hid (show A12.put (some 36) (v.val) = A13 from hA13)
    clear hA13 szA12
    have d36 := e36
    clear e36
    refine wpAnyH_take (i := 12) (v := fault (faI a RR) RR.e) rfl (by kernel_rfl) (by kernel_rfl) (by kernel_rfl) (fun _ _ _ h => h) (.inl ⟨rfl, fun w g => run_ext1 rfl d35 w⟩) S1.out ?_
    refine act_letter (fun A14 hA14 => ?_)
    replace d6 : A14.eval (.tmp 6) = .pointer (some ⟨w.heap.size + 1, 0, none⟩) := by rw [← hA14]; exact (ev_ne A13 (m := 37) (n := 6) (fault (faI a RR) RR.e) (by decide)).trans d6
    replace d7 : A14.eval (.tmp 7) = .pointer (some ⟨w.heap.size + 2, 0, none⟩) := by rw [← hA14]; exact (ev_ne A13 (m := 37) (n := 7) (fault (faI a RR) RR.e) (by decide)).trans d7
    replace d36 : A14.eval (.tmp 36) = v.val := by rw [← hA14]; exact (ev_ne A13 (m := 37) (n := 36) (fault (faI a RR) RR.e) (by decide)).trans d36
    have e37 : A14.eval (.tmp 37) = fault (faI a RR) RR.e := by rw [← hA14]; exact ev_self A13 37 (fault (faI a RR) RR.e) (by omega)
    have szA14 : A14.tmps.size = 38 := by rw [← hA14]; exact (sz_put A13 37 (fault (faI a RR) RR.e)).trans szA13
    have HA14 := Lib.hid (show A13.put (some 37) (fault (faI a RR) RR.e) = A14 from hA14)
    clear hA14 szA13 d35
    have d37 := e37
    clear e37
    refine wpAnyH_ready (rs := [13]) (by kernel_rfl) (by simp) ?_
    refine AllReadyH.cons rfl (fun K hK => ?_) AllReadyH.nil
    refine wp_skipG rfl (w' := put3 x1 (w.heap.size + 1) (.int .u64 v.n) (.slice v.B v.bs.length v.d) (.slice v.A v.ls.length v.c)) (run_storeVa rfl d6 d36 X1.out) (hK.out _ _ (⟨S1.out.1.fr (fr_put3 _ _ _ _ _) (by omega), S1.out.2.fr (fr_put3 _ _ _ _ _) (by have := HRL.out; omega)⟩) (fun _ => ?_))
    clear hK K
    have S2 := Lib.hid (show (fun w' => Whole w' w.heap.size f.cells 24 ∧ Whole w' r (rcells (some tq)) 108) (put3 x1 (w.heap.size + 1) (.int .u64 v.n) (.slice v.B v.bs.length v.d) (.slice v.A v.ls.length v.c)) from ⟨S1.out.1.fr (fr_put3 _ _ _ _ _) (by omega), S1.out.2.fr (fr_put3 _ _ _ _ _) (by have := HRL.out; omega)⟩)
    clear S1
    refine act_letter (fun A15 hA15 => ?_)
    replace d6 : A15.eval (.tmp 6) = .pointer (some ⟨w.heap.size + 1, 0, none⟩) := by rw [← hA15]; exact d6
    replace d7 : A15.eval (.tmp 7) = .pointer (some ⟨w.heap.size + 2, 0, none⟩) := by rw [← hA15]; exact d7
    replace d36 : A15.eval (.tmp 36) = v.val := by rw [← hA15]; exact d36
    replace d37 : A15.eval (.tmp 37) = fault (faI a RR) RR.e := by rw [← hA15]; exact d37
    have szA15 : A15.tmps.size = 38 := by rw [← hA15]; exact szA14
    have HA15 := Lib.hid (show A14 = A15 from hA15)
    clear hA15 szA14
    refine wpAnyH_ready (rs := [14]) (by kernel_rfl) (by simp) ?_
    refine AllReadyH.cons rfl (fun K hK => ?_) AllReadyH.nil
    refine wp_skipG rfl (w' := put2 (put3 x1 (w.heap.size + 1) (.int .u64 v.n) (.slice v.B v.bs.length v.d) (.slice v.A v.ls.length v.c)) (w.heap.size + 2) (.int .i64 (faI a RR)) (.int .i64 RR.e)) (run_storeFa rfl d7 d37 (X2.out.fr (fr_put3 _ _ _ _ _) (by omega))) (hK.out _ _ (⟨S2.out.1.fr (fr_put2 _ _ _ _) (by omega), S2.out.2.fr (fr_put2 _ _ _ _) (by have := HRL.out; omega)⟩) (fun _ => ?_))
    clear hK K
    have S3 := Lib.hid (show (fun w' => Whole w' w.heap.size f.cells 24 ∧ Whole w' r (rcells (some tq)) 108) (put2 (put3 x1 (w.heap.size + 1) (.int .u64 v.n) (.slice v.B v.bs.length v.d) (.slice v.A v.ls.length v.c)) (w.heap.size + 2) (.int .i64 (faI a RR)) (.int .i64 RR.e)) from ⟨S2.out.1.fr (fr_put2 _ _ _ _) (by omega), S2.out.2.fr (fr_put2 _ _ _ _) (by have := HRL.out; omega)⟩)
    clear S2
    refine act_letter (fun A16 hA16 => ?_)
    replace d6 : A16.eval (.tmp 6) = .pointer (some ⟨w.heap.size + 1, 0, none⟩) := by rw [← hA16]; exact d6
    replace d7 : A16.eval (.tmp 7) = .pointer (some ⟨w.heap.size + 2, 0, none⟩) := by rw [← hA16]; exact d7
    replace d36 : A16.eval (.tmp 36) = v.val := by rw [← hA16]; exact d36
    replace d37 : A16.eval (.tmp 37) = fault (faI a RR) RR.e := by rw [← hA16]; exact d37
    have szA16 : A16.tmps.size = 38 := by rw [← hA16]; exact szA15
    have HA16 := Lib.hid (show A15 = A16 from hA16)
    clear hA16 szA15
    refine wpAnyH_done (by kernel_rfl) ?_ _
    rw [← HA16.out, ← HA15.out, ← HA14.out, ← HA13.out, ← HA12.out, ← HA11.out, ← HA10.out, ← HA9.out, ← HA8.out, ← HA7.out, ← HA6.out, ← HA5.out, ← HA4.out, ← HA3.out, ← HA2.out, ← HA1.out]
    clear HA2 HA3 HA4 HA5 HA6 HA7 HA8 HA9 HA10 HA11 HA12 HA13 HA14 HA15 HA16 HA1 d6 d7 d36 d37 szA16
    simp only [Act.put, List.setIfInBounds_toArray, List.set_cons_zero, List.set_cons_succ]
    clear S3
    go_wp2_with fail
    obtain ⟨r1, r2, r3⟩ := put32 X1.out X2.out (by omega) (.int .u64 v.n) (.slice v.B v.bs.length v.d) (.slice v.A v.ls.length v.c) (.int .i64 (faI a RR)) (.int .i64 RR.e)
    refine bodyPost_ret (results_cells rfl _ _ _ _ _ _ _ _ _ _ _ _ rfl r1 Try.underlying29 rfl (by kernel_rfl) rfl r2 Try.underlying78 rfl (by kernel_rfl)) rfl ?_
    obtain ⟨hv, hi, hnf, hC, hx, hT, hF⟩ := HV.out
    have hxd := XD.out
    refine got_close (R := ⟨RR.e, RR.n, RR.v, RR.c + 1⟩) (v := v) (k := X.drew.heap.size) hF hC ?_ r3 (by omega) (by omega) HF.out hv hi (by omega) (by omega) hnf hx rfl
    have q1 : c + ((RR.c + 1 : Nat) : Int) = c + 1 + RR.c := by omega
    rw [q1]
    exact hT
end Go.Proofs.Ytibbeodcheefaaa


/- Reading: any right form. -/
namespace Go.Proofs.Ytibbeodcheefaaa
open Go.RowKit Va

set_option maxRecDepth 100000 in
theorem enter_rnumber : ∀ args w, (callFunc 71 args).run Try.prog w = .ok (.enter 71 args) w := fun _ _ => by kernel_rfl
set_option maxRecDepth 100000 in
theorem enter_ropaque : ∀ args w, (callFunc 72 args).run Try.prog w = .ok (.enter 72 args) w := fun _ _ => by kernel_rfl
set_option maxRecDepth 100000 in
theorem enter_rlist : ∀ args w, (callFunc 73 args).run Try.prog w = .ok (.enter 73 args) w := fun _ _ => by kernel_rfl
set_option maxRecDepth 100000 in
theorem enter_rrow : ∀ args w, (callFunc 74 args).run Try.prog w = .ok (.enter 74 args) w := fun _ _ => by kernel_rfl
set_option maxRecDepth 100000 in
theorem enter_rrest : ∀ args w, (callFunc 75 args).run Try.prog w = .ok (.enter 75 args) w := fun _ _ => by kernel_rfl
set_option maxRecDepth 100000 in
theorem enter_rfixed : ∀ args w, (callFunc 76 args).run Try.prog w = .ok (.enter 76 args) w := fun _ _ => by kernel_rfl

set_option maxRecDepth 100000 in
/-- A right form is read. -/
theorem reads_any (w0 : World) (r : Nat) (t : Option Nat) (f : Fo) : f.wrg = 0 → f.dep ≤ 8 → f.In w0 → Reads w0 r t f := by
  induction f using Fo.ind with
  | H k s l h tt A c ps ih =>
  intro hw hd hin
  obtain ⟨ha, hq, hmis⟩ := wrg_zero hw
  rcases alone_kind ha with rfl | rfl | rfl | rfl | rfl | rfl
  · have hs := Rd.alone_0 ha
    refine rform_any w0 r t _ 0 rfl (by omega) 71 rfl enter_rnumber ?_
    intro w p m c0 xs a hpre _
    rw [Rd.bd_0]
    exact (rnumber_any w _ p _ xs a hpre.cr 0 s l h tt A ps.length c hs).mono (fun e w' H => H.got hpre (by unfold Rd.rdN; split <;> rfl))
  · obtain ⟨s1, s3, l0, lh, hh, t1, t2, _⟩ := Rd.alone_1 (.inl rfl) ha
    refine rform_any w0 r t _ 1 rfl (by omega) 72 rfl enter_ropaque ?_
    intro w p m c0 xs a hpre _
    rw [Rd.bd_1]
    exact (ropaque_any w _ p _ xs a hpre.cr 1 s l h tt A ps.length c s1 s3 t1).mono (fun e w' H => H.got hpre (by unfold Rd.rdO Rd.rdT Rd.shift; split <;> (try split) <;> rfl))
  · obtain ⟨s1, s3, l0, lh, hh, t1, t2, hn1⟩ := Rd.alone_1 (.inr rfl) ha
    obtain ⟨f, rfl⟩ := List.length_eq_one_iff.1 (hn1 rfl)
    have hinn : Fo.inn (.mk 2 s l h tt A c [f]) = [f] := by rw [Fo.inn, if_pos (by omega)]
    rw [hinn] at hq
    have hdp : Fo.dep (.mk 2 s l h tt A c [f]) = f.dep + 1 := by rw [Fo.dep, if_pos (by omega), Fo.deps, Fo.deps, Nat.max_zero]
    have hpw := hq f (by simp)
    have hpd : f.dep ≤ 8 := by omega
    have hpl := (right_len f hpw hpd).1
    have hne : f.len false ≠ 0 := by
      intro h0
      simp [Fo.mis, h0] at hmis
    have hR := ih f (by simp) hpw hpd (hin.parts f (by simp [Fo.ps]))
    refine rform_any w0 r t _ 2 rfl (by omega) 73 rfl enter_rlist ?_
    intro w p m c0 xs a hpre hm
    rw [Rd.bd_2] at hm ⊢
    have hone : Rd.one (Rd.bds [f]) = Rd.rd f := rfl
    unfold Rd.rdL at hm ⊢
    rw [hone] at hm ⊢
    by_cases hE : Rd.lnE s l h tt xs = 0
    · rw [if_pos hE] at hm ⊢
      by_cases hS : (xs.drop s.toNat).length < Rd.lnN s xs
      · rw [if_pos hS] at hm ⊢
        exact (rlist_short w _ p _ xs a hpre.cr 2 s l h tt A 1 c s1 s3 t1 hE hS).mono (fun e w' H => H.got hpre rfl)
      · rw [if_neg hS] at hm ⊢
        refine rlist_ok w0 r t s l h tt A c f hin hR (fun ys hy he => ?_) w p m c0 xs a hpre s1 s3 t1 hh hE hS hm
        have G := Rd.bd_good f hpw hpd ys hy
        have h1 := (G.ok he).2
        have h2 := G.le
        have h3 : (Rd.rd f ys).n = (Rd.bd f ys).n := rfl
        rw [h3]
        omega
    · rw [if_neg hE] at hm ⊢
      exact (rlist_bad w _ p _ xs a hpre.cr 2 s l h tt A 1 c s1 s3 t1 hE).mono (fun e w' H => H.got hpre rfl)
  · have hn := Rd.alone_3 ha
    have hinn : Fo.inn (.mk 3 s l h tt A c ps) = ps := by rw [Fo.inn, if_pos (by omega)]
    rw [hinn] at hq
    have hdp : Fo.dep (.mk 3 s l h tt A c ps) = Fo.deps ps + 1 := by rw [Fo.dep, if_pos (by omega)]
    refine rform_any w0 r t _ 3 rfl (by omega) 74 rfl enter_rrow ?_
    intro w p m c0 xs a hpre hm
    rw [Rd.bd_3] at hm ⊢
    exact rrow_any w0 r t s l h tt A c ps hin hn (fun q hqm => ih q hqm (hq q hqm) (by have := Fo.deps_le.1 (Nat.le_refl _) q hqm; omega) (hin.parts q hqm)) w p m c0 xs a hpre hm
  · obtain ⟨l0, lh, hh⟩ := Rd.alone_4 ha
    refine rform_any w0 r t _ 4 rfl (by omega) 75 rfl enter_rrest ?_
    intro w p m c0 xs a hpre _
    rw [Rd.bd_4]
    exact (rrest_any w _ p _ xs a hpre.cr 4 s l h tt A ps.length c (by omega)).mono (fun e w' H => H.got hpre (by unfold Rd.rdR Rd.rdT; split <;> (try split) <;> (try split) <;> rfl))
  · obtain ⟨l0, lh⟩ := Rd.alone_5 ha
    refine rform_any w0 r t _ 5 rfl (by omega) 76 rfl enter_rfixed ?_
    intro w p m c0 xs a hpre _
    rw [Rd.bd_5]
    exact (rfixed_any w _ p _ xs a hpre.cr 5 s l h tt A ps.length c l0).mono (fun e w' H => H.got hpre (by unfold Rd.rdT; split <;> rfl))
end Go.Proofs.Ytibbeodcheefaaa


/- Reading: told, kindSteps, first. -/
namespace Go.Proofs.Ytibbeodcheefaaa
open Go.RowKit Va

set_option maxRecDepth 100000 in
set_option maxHeartbeats 1000000 in
theorem told_ok (w : World) (v : Va) (b : Int) :
    Calls Try.prog 43 #[v.val, .int .i64 b, fault 0 0] w fun e w' => e = .returned (.tuple #[v.val, .int .i64 b, .int .i64 0]) ∧ Grew w w' none := by
  rw [vval_eq]
  unfold fault
  obtain ⟨g0, k0, k1, k2, ks⟩ := three_new w #[.int .u64 v.n, .slice v.B v.bs.length v.d, .slice v.A v.ls.length v.c] 29 #[.int .i64 0, .int .i64 0] 78 #[.int .u64 0, .slice none 0 0, .slice none 0 0] 29
  have K2 := Lib.hid k2
  have G0 := Lib.hid g0
  obtain ⟨c0, c1, c2⟩ := k0.three
  obtain ⟨e0, e1, e2⟩ := k2.three
  have f2 := k2.frozen
  obtain ⟨d0, d1⟩ := k1.two
  clear g0 k0 k1 k2 ks
  go_enter Try.func43, Try.ntmps43
  go_upto_region 3 with (fail)
  generalize ((w.alloc (.cells #[.int .u64 v.n, .slice v.B v.bs.length v.d, .slice v.A v.ls.length v.c] 29)).alloc (.cells #[.int .i64 0, .int .i64 0] 78)).alloc (.cells #[.int .u64 0, .slice none 0 0, .slice none 0 0] 29) = W at *
  go_wp2_with fail
  refine bodyPost_ret (results_cell_tmps rfl _ _ _ _ _ _ _ rfl (K2.out.put3 (.int .u64 v.n) (.slice v.B v.bs.length v.d) (.slice v.A v.ls.length v.c)) Try.underlying29 rfl (by kernel_rfl)) rfl ?_
  exact ⟨rfl, grew_put3 G0.out (by omega) _ _ _⟩

set_option maxRecDepth 100000 in
set_option maxHeartbeats 1000000 in
theorem told_no (w : World) (v : Va) (b y e : Int) (he : e ≠ 0) :
    Calls Try.prog 43 #[v.val, .int .i64 b, fault y e] w fun e' w' => e' = .returned (.tuple #[v0.val, .int .i64 y, .int .i64 e]) ∧ Grew w w' none := by
  rw [vval_eq]
  unfold fault
  obtain ⟨g0, k0, k1, k2, ks⟩ := three_new w #[.int .u64 v.n, .slice v.B v.bs.length v.d, .slice v.A v.ls.length v.c] 29 #[.int .i64 y, .int .i64 e] 78 #[.int .u64 0, .slice none 0 0, .slice none 0 0] 29
  have K2 := Lib.hid k2
  have G0 := Lib.hid g0
  obtain ⟨e0, e1, e2⟩ := k2.three
  have f2 := k2.frozen
  obtain ⟨d0, d1⟩ := k1.two
  clear g0 k0 k1 k2 ks
  have hb : (e != 0) = true := by simpa using he
  go_enter Try.func43, Try.ntmps43
  go_upto_region 2 with (fail)
  generalize ((w.alloc (.cells #[.int .u64 v.n, .slice v.B v.bs.length v.d, .slice v.A v.ls.length v.c] 29)).alloc (.cells #[.int .i64 y, .int .i64 e] 78)).alloc (.cells #[.int .u64 0, .slice none 0 0, .slice none 0 0] 29) = W at *
  go_region
  go_wp2_with fail
  refine bodyPost_ret (results_cell_tmps rfl _ _ _ _ _ _ _ rfl (K2.out.put3 (.int .u64 0) (.slice none 0 0) (.slice none 0 0)) Try.underlying29 rfl (by kernel_rfl)) rfl ?_
  exact ⟨rfl, grew_drew (grew_put3 G0.out (by omega) _ _ _)⟩

/-- The steps. -/
def ksteps : Array Value := #[.func (.func 71) #[] #[], .func (.func 72) #[] #[], .func (.func 73) #[] #[], .func (.func 74) #[] #[], .func (.func 75) #[] #[], .func (.func 76) #[] #[]]

set_option maxRecDepth 100000 in
theorem ksteps_any (w : World) : Calls Try.prog 58 #[] w fun e w' => e = .returned (.agg ksteps) ∧ Grew w w' none := by
  go_enter Try.func58, Try.ntmps58
  go_wp2_with fail
  refine bodyPost_ret (results_cell_row rfl _ _ w.heap.size _ _ _ _ rfl (Whole.new _ _ _) Try.underlying105 rfl (by kernel_rfl)) rfl ⟨rfl, ?_⟩
  exact grew_alloc (grew_refl _ _) _

set_option maxRecDepth 100000 in
set_option maxHeartbeats 2000000 in
theorem first_no (w : World) (f : Fo) (hf : f.In w) (hk : f.chk ≠ 0) (tv : Value) (p B : Nat) (xs : List UInt8) (a : Int) (hc : Cr w p B xs a) :
    Calls Try.prog 40 #[tv, f.val, .pointer (some ⟨p, 0, none⟩)] w fun e w' => e = .returned (.tuple #[v0.val, fault a f.chk]) ∧ Grew w w' none := by
  obtain ⟨g0, k0, k1, k2, ks⟩ := three_new w #[.int .i64 f.k, .int .i64 f.s, .int .i64 f.l, .int .i64 f.h, .int .i64 f.t, .slice f.A f.ps.length f.c] 24 #[.int .u64 0, .slice none 0 0, .slice none 0 0] 29 #[.int .i64 0, .int .i64 0] 78
  have HF := Lib.hid (hf.grew g0)
  have HC := Lib.hid (hc.grew g0 (by simp) (fun _ h => by cases h))
  have G0 := Lib.hid g0
  have K1 := Lib.hid k1
  have K2 := Lib.hid k2
  have hb : (f.chk != 0) = true := by simpa using hk
  clear hf hc g0 k0 k1 k2 ks hk
  rw [val_eq]
  go_enter Try.func40, Try.ntmps40
  go_wp2_with fail
  generalize ((w.alloc (.cells #[.int .i64 f.k, .int .i64 f.s, .int .i64 f.l, .int .i64 f.h, .int .i64 f.t, .slice f.A f.ps.length f.c] 24)).alloc (.cells #[.int .u64 0, .slice none 0 0, .slice none 0 0] 29)).alloc (.cells #[.int .i64 0, .int .i64 0] 78) = W at *
  refine (check_any W f HF.out).mono ?_
  rintro e X ⟨rfl, g⟩
  have k1 := K1.out.grew g (by simp)
  have k2 := K2.out.grew g (by simp)
  have C1 := Lib.hid (HC.out.grew g (by simp) (fun _ h => by cases h))
  have G1 := Lib.hid (grew_trans G0.out g)
  have K1' := Lib.hid k1
  have K2' := Lib.hid k2
  clear g k1 k2 K1 K2 HC G0 HF
  go_wp2_with fail
  refine (cr_at X p B xs a C1.out).mono ?_
  rintro e w1 ⟨rfl, rfl⟩
  obtain ⟨c0, c1, c2⟩ := K1'.out.three
  obtain ⟨d0, d1⟩ := K2'.out.two
  have f1 := K1'.out.frozen
  have f2 := K2'.out.frozen
  generalize hch : f.chk = ch at *
  go_wp2_with fail
  obtain ⟨r1, r2, r3⟩ := put32 K1'.out K2'.out (by omega) (.int .u64 0) (.slice none 0 0) (.slice none 0 0) (.int .i64 a) (.int .i64 ch)
  refine bodyPost_ret (results_cells rfl _ _ _ _ _ _ _ _ _ _ _ _ rfl r1 Try.underlying29 rfl (by kernel_rfl) rfl r2 Try.underlying78 rfl (by kernel_rfl)) rfl ?_
  exact ⟨by rw [hch]; rfl, grew_fr G1.out r3 (fun i hi => by rcases hi with rfl | rfl <;> omega)⟩

/-- What a first call asks. -/
structure Pre0 (w0 w : World) (p : Nat) (t : Option Nat) (m c : Int) (xs : List UInt8) (a : Int) : Prop where
  g : Grew w0 w none
  cr : Cr w p w0.heap.size xs a
  tl : ∀ q, t = some q → w0.heap.size ≤ q
  ty : Tly w t m c
def tptr (t : Option Nat) : Value := .pointer (t.map fun q => ⟨q, 0, none⟩)

set_option maxRecDepth 100000 in
set_option maxHeartbeats 2000000 in
theorem first_ok (w0 w : World) (f : Fo) (hf : f.In w0) (hk : f.chk = 0) (p : Nat) (t : Option Nat) (m c : Int) (xs : List UInt8) (a : Int) (hpre : Pre0 w0 w p t m c xs a) (hm : t ≠ none → c + (Rd.rd f xs).c ≤ m) :
    Calls Try.prog 40 #[tptr t, f.val, .pointer (some ⟨p, 0, none⟩)] w (Got w0 w p t m c xs a (Rd.rd f xs)) := by
  obtain ⟨hd8, hw0⟩ := chk_zero hk
  obtain ⟨g0, k0, k1, k2, ks⟩ := three_new w #[.int .i64 f.k, .int .i64 f.s, .int .i64 f.l, .int .i64 f.h, .int .i64 f.t, .slice f.A f.ps.length f.c] 24 #[.int .u64 0, .slice none 0 0, .slice none 0 0] 29 #[.int .i64 0, .int .i64 0] 78
  have HR := Lib.hid (fun r => reads_any w0 r t f hw0 hd8 hf)
  have HF := Lib.hid (hf.grew (grew_trans hpre.g g0))
  have HP := Lib.hid hpre
  have HFT := Lib.hid (show ∀ i, Ft p t i → i < w.heap.size from fun i hi => by
    rcases hi with rfl | ht
    · exact hpre.cr.lt
    · exact (hpre.ty i ht).lt)
  have HM := Lib.hid hm
  have G0 := Lib.hid g0
  have K0 := Lib.hid k0
  have K1 := Lib.hid k1
  have K2 := Lib.hid k2
  have KS := Lib.hid ks
  clear hf g0 k0 k1 k2 ks hpre hm hd8 hw0
  rw [val_eq]
  unfold tptr
  generalize hTV : (t.map fun q => (⟨q, 0, none⟩ : Addr)) = tv at *
  have HTV := Lib.hid hTV
  clear hTV
  go_enter Try.func40, Try.ntmps40
  go_wp2_with fail
  generalize ((w.alloc (.cells #[.int .i64 f.k, .int .i64 f.s, .int .i64 f.l, .int .i64 f.h, .int .i64 f.t, .slice f.A f.ps.length f.c] 24)).alloc (.cells #[.int .u64 0, .slice none 0 0, .slice none 0 0] 29)).alloc (.cells #[.int .i64 0, .int .i64 0] 78) = W at *
  refine (check_any W f HF.out).mono ?_
  rintro e X ⟨rfl, g⟩
  rw [hk]
  have K0' := Lib.hid (K0.out.grew g (by simp))
  have K1' := Lib.hid (K1.out.grew g (by simp))
  have K2' := Lib.hid (K2.out.grew g (by simp))
  have G1 := Lib.hid (grew_trans G0.out g)
  have XS := Lib.hid (show w.heap.size + 3 ≤ X.heap.size by rw [← KS.out]; exact g.size)
  clear g hk K0 K1 K2 G0 HF KS
  go_wp2_with fail
  refine (ksteps_any X).mono ?_
  rintro e Y ⟨rfl, g⟩
  unfold ksteps
  have K0'' := Lib.hid (K0'.out.grew g (by simp))
  have K1'' := Lib.hid (K1'.out.grew g (by simp))
  have K2'' := Lib.hid (K2'.out.grew g (by simp))
  have G2 := Lib.hid (grew_trans G1.out g)
  have YS := Lib.hid (show w.heap.size + 3 ≤ Y.heap.size from Nat.le_trans XS.out g.size)
  clear g K0' K1' K2' G1 XS
  go_upto_region 5 with (fail)
  have g3 := grew_alloc (grew_refl Y none) (.cells #[.pointer tv, .func (.func 71) #[] #[], .func (.func 72) #[] #[], .func (.func 73) #[] #[], .func (.func 74) #[] #[], .func (.func 75) #[] #[], .func (.func 76) #[] #[]] 108)
  have K1 := Lib.hid (K1''.out.grew g3 (by simp))
  have K2 := Lib.hid (K2''.out.grew g3 (by simp))
  obtain ⟨b0, b1, b2, b3, b4, b5⟩ := (K0''.out.grew g3 (by simp)).six
  have G3 := Lib.hid (grew_trans G2.out g3)
  have RD := Lib.hid (Whole.new Y (rcells t) 108)
  unfold rcells at RD
  rw [HTV.out] at RD
  have ZS := Lib.hid (show w.heap.size + 3 ≤ (Y.alloc (.cells #[.pointer tv, .func (.func 71) #[] #[], .func (.func 72) #[] #[], .func (.func 73) #[] #[], .func (.func 74) #[] #[], .func (.func 75) #[] #[], .func (.func 76) #[] #[]] 108)).heap.size from Nat.le_trans YS.out g3.size)
  clear g3 K0'' K1'' K2'' G2 YS
  generalize Y.alloc (.cells #[.pointer tv, .func (.func 71) #[] #[], .func (.func 72) #[] #[], .func (.func 73) #[] #[], .func (.func 74) #[] #[], .func (.func 75) #[] #[], .func (.func 76) #[] #[]] 108) = Z at *
  generalize Y.heap.size = r at *
  go_wp2_with fail
  clear b0 b1 b2 b3 b4 b5
  have hp0 := HP.out
  have hfz : ∀ F, Fr w Z F := fun F => fr_of G3.out
  have PZ : Pre w0 Z r p t m c xs a := ⟨grew_trans hp0.g G3.out, by rw [rcells, HTV.out]; exact RD.out, hp0.cr.grew G3.out (by simp) (fun _ h => by cases h), hp0.tl, hp0.ty.fr (hfz (fun _ => False)) (fun _ _ h => h)⟩
  refine (HR.out r Z p m c xs a PZ HM.out).mono ?_
  clear PZ hp0 hfz
  rintro e X ⟨v, ys, a', rfl, hv, hi, hnf, hC, hx, hT, hF⟩
  generalize Rd.rd f xs = S at *
  have hlo : ∀ i, w.heap.size ≤ i → ¬ Ft p t i := fun i hi e => by have := HFT.out i e; omega
  have k1 := K1.out.fr hF (hlo _ (by omega))
  have k2 := K2.out.fr hF (hlo _ (by omega))
  have HV := Lib.hid (show v.In X ∧ v.Hi Z.heap.size ∧ v.nf = S.v ∧ Cr X p w0.heap.size ys a' ∧ (S.e = 0 → ys = xs.drop S.n ∧ a' = a + S.n) ∧ Tly X t m (c + S.c) ∧ Fr w X (Ft p t) from ⟨hv, hi, hnf, hC, hx, hT, (fr_of G3.out).trans hF (fun _ _ e => e)⟩)
  obtain ⟨c0, c1, c2⟩ := k1.three
  obtain ⟨d0, d1⟩ := k2.two
  have f1 := k1.frozen
  have f2 := k2.frozen
  have K1' := Lib.hid k1
  have K2' := Lib.hid k2
  clear hv hi hnf hC hx hT hF hlo k1 k2 K1 K2
  rw [vval_eq]
  unfold fault
  generalize hfa : faI a S = fa at *
  generalize hfe : S.e = fe at *
  have HFA := Lib.hid hfa
  have HFE := Lib.hid hfe
  clear hfa hfe
  go_wp2_with fail
  obtain ⟨r1, r2, r3⟩ := put32 K1'.out K2'.out (by omega) (.int .u64 v.n) (.slice v.B v.bs.length v.d) (.slice v.A v.ls.length v.c) (.int .i64 fa) (.int .i64 fe)
  refine bodyPost_ret (results_cells rfl _ _ _ _ _ _ _ _ _ _ _ _ rfl r1 Try.underlying29 rfl (by kernel_rfl) rfl r2 Try.underlying78 rfl (by kernel_rfl)) rfl ?_
  obtain ⟨hv, hi, hnf, hC, hx, hT, hF⟩ := HV.out
  have hzs := ZS.out
  exact got_close (v := v) (k := Z.heap.size) hF hC hT r3 (by omega) (by omega) HFT.out hv hi (by omega) (by omega) hnf (by rw [HFE.out]; exact hx) (by rw [HFA.out, HFE.out]; rfl)
end Go.Proofs.Ytibbeodcheefaaa

