/- A form that is made is of its kind, has the numbers that it was made with, and no others: for every numbers and forms the law returns true, and they read as they did. No condition. -/
import Derived.Test.YtlehehibfpbhmaaRs5
import Derived.Test.YtlehehibfpbhmaaFc
import Derived.Test.YtlehehibfpbhmaaOf
import Derived.Test.YtlehehibfpbhmaaFmTake
import Derived.Test.YtlehehibfpbhmaaFmMake
namespace Go.Proofs.Ytlehehibfpbhmaa
open Go.ChangeShapes Go.WideShapes Go.ChangeAt Go.RowKit Fo

theorem Whole.four {w : World} {q : Nat} {a0 a1 a2 a3 : Value} {t : TypeId} (h : Whole w q #[a0, a1, a2, a3] t) :
    w.cell? ⟨q, 0, none⟩ = some a0 ∧ w.cell? ⟨q, 1, none⟩ = some a1 ∧ w.cell? ⟨q, 2, none⟩ = some a2 ∧ w.cell? ⟨q, 3, none⟩ = some a3 :=
  ⟨h.cell 0, h.cell 1, h.cell 2, h.cell 3⟩

theorem three_wholes (w : World) (c1 c2 c3 : Array Value) (t : TypeId) : Whole (((w.alloc (.cells c1 t)).alloc (.cells c2 t)).alloc (.cells c3 t)) w.heap.size c1 t ∧ Whole (((w.alloc (.cells c1 t)).alloc (.cells c2 t)).alloc (.cells c3 t)) (w.heap.size + 1) c2 t ∧
    Whole (((w.alloc (.cells c1 t)).alloc (.cells c2 t)).alloc (.cells c3 t)) (w.heap.size + 1 + 1) c3 t :=
  ⟨(Whole.new w c1 t).grew (grew_alloc (grew_alloc (grew_refl _ none) _) _) (by simp), (Whole.new_at (w.alloc (.cells c1 t)) c2 t (by simp)).grew (grew_alloc (grew_refl _ none) _) (by simp), Whole.new_at _ c3 t (by simp)⟩
/-- Two forms with the same numbers and the same parts. -/
def Twin (p r : Fo) : Prop := r.k = p.k ∧ r.s = p.s ∧ r.l = p.l ∧ r.h = p.h ∧ r.t = p.t ∧ r.ps = p.ps
theorem twins6 {p0 p1 p2 p3 p4 p5 r0 r1 r2 r3 r4 r5 : Fo} (h0 : Twin p0 r0) (h1 : Twin p1 r1) (h2 : Twin p2 r2) (h3 : Twin p3 r3) (h4 : Twin p4 r4) (h5 : Twin p5 r5) :
    ∀ (n : Nat) (p r : Fo), [p0, p1, p2, p3, p4, p5][n]? = some p → [r0, r1, r2, r3, r4, r5][n]? = some r → Twin p r := by
  intro n p r hp hr
  match n, hp, hr with
  | 0, hp, hr => simp at hp hr; subst hp hr; exact h0
  | 1, hp, hr => simp at hp hr; subst hp hr; exact h1
  | 2, hp, hr => simp at hp hr; subst hp hr; exact h2
  | 3, hp, hr => simp at hp hr; subst hp hr; exact h3
  | 4, hp, hr => simp at hp hr; subst hp hr; exact h4
  | 5, hp, hr => simp at hp hr; subst hp hr; exact h5
  | n + 6, hp, _ => simp at hp

/-- The parts of a row without any. -/
theorem field_none (w : World) (A : Option Addr) (c : Nat) : (Instr.field 24 (Fo.mk 3 0 0 0 0 A c []).val 5).run Try.prog w = .ok (.slice A 0 c) w := by kernel_rfl
/-- The forms that were asked for and those that were made, one by one. -/
def Packed (W9 : World) (B3 B9 : Nat) (ws gs : List Fo) : Prop :=
  ws.length = 6 ∧ gs.length = 6 ∧ Lie W9 (some ⟨B3, 0, none⟩) ws ∧ Lie W9 (some ⟨B9, 0, none⟩) gs ∧ (∀ (n : Nat) (p r : Fo), ws[n]? = some p → gs[n]? = some r → Twin p r) ∧ (∀ p ∈ ws, p.In W9) ∧ (∀ p ∈ gs, p.In W9)
theorem make_pack {V W9 : World} {B1 B2 B3 B9 : Nat} {x0 x1 x2 x3 : Int} {a b : Fo} {AL AR : Option Addr} {cL cR : Nat} (t : Whole V B1 #[.int .i64 a.k, .int .i64 a.s, .int .i64 a.l, .int .i64 a.h, .int .i64 a.t, .slice a.A a.ps.length a.c] 24 ∧ Whole V B2 #[.int .i64 a.k, .int .i64 a.s, .int .i64 a.l, .int .i64 a.h, .int .i64 a.t, .slice a.A a.ps.length a.c, .int .i64 b.k, .int .i64 b.s, .int .i64 b.l, .int .i64 b.h, .int .i64 b.t, .slice b.A b.ps.length b.c] 24 ∧ Whole V B3 #[.int .i64 0, .int .i64 x0, .int .i64 0, .int .i64 0, .int .i64 0, .slice none 0 0, .int .i64 1, .int .i64 x0, .int .i64 x1, .int .i64 x2, .int .i64 1, .slice none 0 0, .int .i64 2, .int .i64 x0, .int .i64 x1, .int .i64 x2, .int .i64 x3, .slice (some ⟨B1, 0, none⟩) 1 1, .int .i64 3, .int .i64 0, .int .i64 0, .int .i64 0, .int .i64 0, .slice (some ⟨B2, 0, none⟩) 2 2, .int .i64 4, .int .i64 0, .int .i64 x1, .int .i64 x2, .int .i64 0, .slice none 0 0, .int .i64 5, .int .i64 0, .int .i64 x1, .int .i64 0, .int .i64 0, .slice none 0 0] 24)
    (ha : a.In V) (hb : b.In V) (l9 : Lie W9 (some ⟨B9, 0, none⟩) (gots x0 x1 x2 x3 a b AL cL AR cR)) (iL : (Fo.mk 2 x0 x1 x2 x3 AL cL [a]).In W9) (iR : (Fo.mk 3 0 0 0 0 AR cR [a, b]).In W9) (g : Grew V W9 none) : ∃ ws gs, Packed W9 B3 B9 ws gs := by
  obtain ⟨t1, t2, t3⟩ := t
  have ia := ha.grew g
  have ib := hb.grew g
  have iab : ∀ p ∈ [a, b], p.In W9 := fun p hp => by
    rcases List.mem_cons.1 hp with rfl | hp
    · exact ia
    · rw [List.mem_singleton] at hp; subst hp; exact ib
  have ia1 : ∀ p ∈ [a], p.In W9 := fun p hp => by rw [List.mem_singleton] at hp; subst hp; exact ia
  refine ⟨[.mk 0 x0 0 0 0 none 0 [], .mk 1 x0 x1 x2 1 none 0 [], .mk 2 x0 x1 x2 x3 (some ⟨B1, 0, none⟩) 1 [a], .mk 3 0 0 0 0 (some ⟨B2, 0, none⟩) 2 [a, b], .mk 4 0 x1 x2 0 none 0 [], .mk 5 0 x1 0 0 none 0 []], gots x0 x1 x2 x3 a b AL cL AR cR, rfl, rfl, (Lie.whole t3 rfl).grew g, l9, twins6 ⟨rfl, rfl, rfl, rfl, rfl, rfl⟩ ⟨rfl, rfl, rfl, rfl, rfl, rfl⟩ ⟨rfl, rfl, rfl, rfl, rfl, rfl⟩ ⟨rfl, rfl, rfl, rfl, rfl, rfl⟩ ⟨rfl, rfl, rfl, rfl, rfl, rfl⟩ ⟨rfl, rfl, rfl, rfl, rfl, rfl⟩, ?_, ?_⟩
  · intro p hp
    simp only [List.mem_cons, List.not_mem_nil, or_false] at hp
    rcases hp with rfl | rfl | rfl | rfl | rfl | rfl
    · exact plain_in _ _ _ _ _ _
    · exact plain_in _ _ _ _ _ _
    · exact .mk (by simp) (by simp) ((Lie.whole t1 rfl).grew g) ia1
    · exact .mk (by simp) (by simp) ((Lie.whole t2 rfl).grew g) iab
    · exact plain_in _ _ _ _ _ _
    · exact plain_in _ _ _ _ _ _
  · intro p hp
    simp only [gots, List.mem_cons, List.not_mem_nil, or_false] at hp
    rcases hp with rfl | rfl | rfl | rfl | rfl | rfl
    · exact plain_in _ _ _ _ _ _
    · exact plain_in _ _ _ _ _ _
    · exact iL
    · exact iR
    · exact plain_in _ _ _ _ _ _
    · exact plain_in _ _ _ _ _ _

set_option maxRecDepth 100000 in
set_option maxHeartbeats 4000000 in
theorem formMakes_walk (w : World) (x0 x1 x2 x3 : Int) (_ : (Lit.int .i64 x0).wf = true) (_ : (Lit.int .i64 x1).wf = true) (_ : (Lit.int .i64 x2).wf = true) (_ : (Lit.int .i64 x3).wf = true) (a : Fo) (ha : a.In w) (b : Fo) (hb : b.In w) :
    Calls Try.prog 4 #[.agg #[.int .i64 x0, .int .i64 x1, .int .i64 x2, .int .i64 x3], a.val, b.val] w fun e w' => e = .returned (.bool true) ∧ Below w.heap.size w w' := by
  have HA := Lib.hid ha
  have HB := Lib.hid hb
  clear ha hb
  rw [val_eq a, val_eq b]
  have HG0 := Lib.hid (grew_alloc (grew_alloc (grew_alloc (grew_refl w none) (.cells #[.int .i64 x0, .int .i64 x1, .int .i64 x2, .int .i64 x3] 28)) (.cells #[.int .i64 a.k, .int .i64 a.s, .int .i64 a.l, .int .i64 a.h, .int .i64 a.t, .slice a.A a.ps.length a.c] 24)) (.cells #[.int .i64 b.k, .int .i64 b.s, .int .i64 b.l, .int .i64 b.h, .int .i64 b.t, .slice b.A b.ps.length b.c] 24))
  have HX := Lib.hid (((Whole.new w #[.int .i64 x0, .int .i64 x1, .int .i64 x2, .int .i64 x3] 28).grew (grew_alloc (grew_alloc (grew_refl _ none) (.cells #[.int .i64 a.k, .int .i64 a.s, .int .i64 a.l, .int .i64 a.h, .int .i64 a.t, .slice a.A a.ps.length a.c] 24)) (.cells #[.int .i64 b.k, .int .i64 b.s, .int .i64 b.l, .int .i64 b.h, .int .i64 b.t, .slice b.A b.ps.length b.c] 24)) (by simp)))
  have HWA := Lib.hid ((Whole.new_at (w.alloc (.cells #[.int .i64 x0, .int .i64 x1, .int .i64 x2, .int .i64 x3] 28)) #[.int .i64 a.k, .int .i64 a.s, .int .i64 a.l, .int .i64 a.h, .int .i64 a.t, .slice a.A a.ps.length a.c] 24 (p := w.heap.size + 1) (by simp)).grew (grew_alloc (grew_refl _ none) (.cells #[.int .i64 b.k, .int .i64 b.s, .int .i64 b.l, .int .i64 b.h, .int .i64 b.t, .slice b.A b.ps.length b.c] 24)) (by simp))
  have HWB := Lib.hid (Whole.new_at ((w.alloc (.cells #[.int .i64 x0, .int .i64 x1, .int .i64 x2, .int .i64 x3] 28)).alloc (.cells #[.int .i64 a.k, .int .i64 a.s, .int .i64 a.l, .int .i64 a.h, .int .i64 a.t, .slice a.A a.ps.length a.c] 24)) #[.int .i64 b.k, .int .i64 b.s, .int .i64 b.l, .int .i64 b.h, .int .i64 b.t, .slice b.A b.ps.length b.c] 24 (p := w.heap.size + 1 + 1) (by simp))
  go_enter Try.func4, Try.ntmps4
  go_wp2_with fail
  generalize ((w.alloc (.cells #[.int .i64 x0, .int .i64 x1, .int .i64 x2, .int .i64 x3] 28)).alloc (.cells #[.int .i64 a.k, .int .i64 a.s, .int .i64 a.l, .int .i64 a.h, .int .i64 a.t, .slice a.A a.ps.length a.c] 24)).alloc (.cells #[.int .i64 b.k, .int .i64 b.s, .int .i64 b.l, .int .i64 b.h, .int .i64 b.t, .slice b.A b.ps.length b.c] 24) = W at *
  generalize w.heap.size + 1 + 1 = q5 at *
  generalize w.heap.size + 1 = q4 at *
  have HQ3 := Lib.hid (show ∃ q, q = w.heap.size from ⟨_, rfl⟩)
  generalize w.heap.size = q3 at *
  refine (alive4_any W).mono ?_
  rintro e w1 ⟨rfl, g1⟩
  have HG1 := Lib.hid (grew_trans HG0.out g1)
  have HX1 := Lib.hid (HX.out.grew g1 (by simp))
  have HWA1 := Lib.hid (HWA.out.grew g1 (by simp))
  have HWB1 := Lib.hid (HWB.out.grew g1 (by simp))
  clear g1 HG0 HX HWA HWB
  obtain ⟨a0, a1, a2, a3, a4, a5⟩ := HWA1.out.six
  go_wp2_with fail
  refine (great_any w1 a (HA.out.grew HG1.out)).mono ?_
  rintro e w2 ⟨rfl, g2⟩
  have HG2 := Lib.hid (grew_trans HG1.out g2)
  have HX2 := Lib.hid (HX1.out.grew g2 (by simp))
  have HWA2 := Lib.hid (HWA1.out.grew g2 (by simp))
  have HWB2 := Lib.hid (HWB1.out.grew g2 (by simp))
  clear g2 HG1 HX1 HWA1 HWB1 a0 a1 a2 a3 a4 a5
  generalize decide (500 < a.cnt) = GA
  cases GA with
  | true =>
    go_wp2_with fail
    refine (alive4_any w2).mono ?_
    rintro e w3 ⟨rfl, g3⟩
    go_wp2_with fail
    go_ret
    exact ⟨rfl, grew_below (grew_trans HG2.out g3) (Nat.le_refl _) (fun _ h => by cases h)⟩
  | false =>
    obtain ⟨b0, b1, b2, b3, b4, b5⟩ := HWB2.out.six
    go_wp2_with fail
    refine (great_any w2 b (HB.out.grew HG2.out)).mono ?_
    rintro e w3 ⟨rfl, g3⟩
    have HG3 := Lib.hid (grew_trans HG2.out g3)
    have HX3 := Lib.hid (HX2.out.grew g3 (by simp))
    have HWA3 := Lib.hid (HWA2.out.grew g3 (by simp))
    have HWB3 := Lib.hid (HWB2.out.grew g3 (by simp))
    clear g3 HG2 HX2 HWA2 HWB2 b0 b1 b2 b3 b4 b5
    generalize decide (500 < b.cnt) = GB
    cases GB with
    | true =>
      go_wp2_with fail
      refine (alive4_any w3).mono ?_
      rintro e w4 ⟨rfl, g4⟩
      go_wp2_with fail
      go_ret
      exact ⟨rfl, grew_below (grew_trans HG3.out g4) (Nat.le_refl _) (fun _ h => by cases h)⟩
    | false =>
      obtain ⟨a0, a1, a2, a3, a4, a5⟩ := HWA3.out.six
      obtain ⟨b0, b1, b2, b3, b4, b5⟩ := HWB3.out.six
      obtain ⟨x0', x1', x2', x3'⟩ := HX3.out.four
      have hq3 : q3 < w3.heap.size := HX3.out.lt
      have hq4 : q4 < w3.heap.size := HWA3.out.lt
      have hq5 : q5 < w3.heap.size := HWB3.out.lt
      go_wp2_with fail
      have HGV := Lib.hid (grew_alloc (grew_alloc (grew_alloc HG3.out (.cells #[.int .i64 a.k, .int .i64 a.s, .int .i64 a.l, .int .i64 a.h, .int .i64 a.t, .slice a.A a.ps.length a.c] 24)) (.cells #[.int .i64 a.k, .int .i64 a.s, .int .i64 a.l, .int .i64 a.h, .int .i64 a.t, .slice a.A a.ps.length a.c, .int .i64 b.k, .int .i64 b.s, .int .i64 b.l, .int .i64 b.h, .int .i64 b.t, .slice b.A b.ps.length b.c] 24)) (.cells #[.int .i64 0, .int .i64 x0, .int .i64 0, .int .i64 0, .int .i64 0, .slice none 0 0, .int .i64 1, .int .i64 x0, .int .i64 x1, .int .i64 x2, .int .i64 1, .slice none 0 0, .int .i64 2, .int .i64 x0, .int .i64 x1, .int .i64 x2, .int .i64 x3, .slice (some ⟨w3.heap.size, 0, none⟩) 1 1, .int .i64 3, .int .i64 0, .int .i64 0, .int .i64 0, .int .i64 0, .slice (some ⟨w3.heap.size + 1, 0, none⟩) 2 2, .int .i64 4, .int .i64 0, .int .i64 x1, .int .i64 x2, .int .i64 0, .slice none 0 0, .int .i64 5, .int .i64 0, .int .i64 x1, .int .i64 0, .int .i64 0, .slice none 0 0] 24))
      have HT := Lib.hid (three_wholes w3 #[.int .i64 a.k, .int .i64 a.s, .int .i64 a.l, .int .i64 a.h, .int .i64 a.t, .slice a.A a.ps.length a.c] #[.int .i64 a.k, .int .i64 a.s, .int .i64 a.l, .int .i64 a.h, .int .i64 a.t, .slice a.A a.ps.length a.c, .int .i64 b.k, .int .i64 b.s, .int .i64 b.l, .int .i64 b.h, .int .i64 b.t, .slice b.A b.ps.length b.c] #[.int .i64 0, .int .i64 x0, .int .i64 0, .int .i64 0, .int .i64 0, .slice none 0 0, .int .i64 1, .int .i64 x0, .int .i64 x1, .int .i64 x2, .int .i64 1, .slice none 0 0, .int .i64 2, .int .i64 x0, .int .i64 x1, .int .i64 x2, .int .i64 x3, .slice (some ⟨w3.heap.size, 0, none⟩) 1 1, .int .i64 3, .int .i64 0, .int .i64 0, .int .i64 0, .int .i64 0, .slice (some ⟨w3.heap.size + 1, 0, none⟩) 2 2, .int .i64 4, .int .i64 0, .int .i64 x1, .int .i64 x2, .int .i64 0, .slice none 0 0, .int .i64 5, .int .i64 0, .int .i64 x1, .int .i64 0, .int .i64 0, .slice none 0 0] 24)
      have HWV := Lib.hid (show ∀ w', Grew (((w3.alloc (.cells #[.int .i64 a.k, .int .i64 a.s, .int .i64 a.l, .int .i64 a.h, .int .i64 a.t, .slice a.A a.ps.length a.c] 24)).alloc (.cells #[.int .i64 a.k, .int .i64 a.s, .int .i64 a.l, .int .i64 a.h, .int .i64 a.t, .slice a.A a.ps.length a.c, .int .i64 b.k, .int .i64 b.s, .int .i64 b.l, .int .i64 b.h, .int .i64 b.t, .slice b.A b.ps.length b.c] 24)).alloc (.cells #[.int .i64 0, .int .i64 x0, .int .i64 0, .int .i64 0, .int .i64 0, .slice none 0 0, .int .i64 1, .int .i64 x0, .int .i64 x1, .int .i64 x2, .int .i64 1, .slice none 0 0, .int .i64 2, .int .i64 x0, .int .i64 x1, .int .i64 x2, .int .i64 x3, .slice (some ⟨w3.heap.size, 0, none⟩) 1 1, .int .i64 3, .int .i64 0, .int .i64 0, .int .i64 0, .int .i64 0, .slice (some ⟨w3.heap.size + 1, 0, none⟩) 2 2, .int .i64 4, .int .i64 0, .int .i64 x1, .int .i64 x2, .int .i64 0, .slice none 0 0, .int .i64 5, .int .i64 0, .int .i64 x1, .int .i64 0, .int .i64 0, .slice none 0 0] 24)) w' none → Whole w' q3 #[.int .i64 x0, .int .i64 x1, .int .i64 x2, .int .i64 x3] 28 ∧ Whole w' q4 a.cells 24 ∧ Whole w' q5 b.cells 24 from fun w' g =>
        have g2 := grew_trans (grew_alloc (grew_alloc (grew_alloc (grew_refl w3 none) _) _) _) g
        ⟨HX3.out.grew g2 (by simp), HWA3.out.grew g2 (by simp), HWB3.out.grew g2 (by simp)⟩)
      generalize ((w3.alloc (.cells #[.int .i64 a.k, .int .i64 a.s, .int .i64 a.l, .int .i64 a.h, .int .i64 a.t, .slice a.A a.ps.length a.c] 24)).alloc (.cells #[.int .i64 a.k, .int .i64 a.s, .int .i64 a.l, .int .i64 a.h, .int .i64 a.t, .slice a.A a.ps.length a.c, .int .i64 b.k, .int .i64 b.s, .int .i64 b.l, .int .i64 b.h, .int .i64 b.t, .slice b.A b.ps.length b.c] 24)).alloc (.cells #[.int .i64 0, .int .i64 x0, .int .i64 0, .int .i64 0, .int .i64 0, .slice none 0 0, .int .i64 1, .int .i64 x0, .int .i64 x1, .int .i64 x2, .int .i64 1, .slice none 0 0, .int .i64 2, .int .i64 x0, .int .i64 x1, .int .i64 x2, .int .i64 x3, .slice (some ⟨w3.heap.size, 0, none⟩) 1 1, .int .i64 3, .int .i64 0, .int .i64 0, .int .i64 0, .int .i64 0, .slice (some ⟨w3.heap.size + 1, 0, none⟩) 2 2, .int .i64 4, .int .i64 0, .int .i64 x1, .int .i64 x2, .int .i64 0, .slice none 0 0, .int .i64 5, .int .i64 0, .int .i64 x1, .int .i64 0, .int .i64 0, .slice none 0 0] 24) = V at *
      generalize w3.heap.size + 1 + 1 = B3 at *
      generalize w3.heap.size + 1 = B2 at *
      generalize w3.heap.size = B1 at *
      clear HG3 HX3 HWA3 HWB3 a0 a1 a2 a3 a4 a5 b0 b1 b2 b3 b4 b5 x0' x1' x2' x3' hq3 hq4 hq5
      have HAV := Lib.hid (HA.out.grew HGV.out)
      have HBV := Lib.hid (HB.out.grew HGV.out)
      have G0 := Lib.hid (grew_drew (grew_refl V none))
      have k0 := Lib.hid (fun w' (g : Grew V w' none) => (HWV.out w' g).1.cell 0)
      have k1 := Lib.hid (fun w' (g : Grew V w' none) => (HWV.out w' g).1.cell 1)
      have k2 := Lib.hid (fun w' (g : Grew V w' none) => (HWV.out w' g).1.cell 2)
      have k3 := Lib.hid (fun w' (g : Grew V w' none) => (HWV.out w' g).1.cell 3)
      refine act_letterC (fun A0 hA0 => ?_)
      have hA3 : A0.eval (.tmp 3) = .pointer (some ⟨q3, 0, none⟩) := by rw [← hA0]; rfl
      have hA4 : A0.eval (.tmp 4) = .pointer (some ⟨q4, 0, none⟩) := by rw [← hA0]; rfl
      have hA5 : A0.eval (.tmp 5) = .pointer (some ⟨q5, 0, none⟩) := by rw [← hA0]; rfl
      have hsz : A0.tmps.size = 170 := by rw [← hA0]; rfl
      have HA0 := Lib.hid hA0
      clear hA0
      have KA := Lib.hid (fun w' (g : Grew V w' none) => (HWV.out w' g).2.1)
      have KB := Lib.hid (fun w' (g : Grew V w' none) => (HWV.out w' g).2.2)
      refine Code.wp_mono (Q := fun e a' w' => e = .normal ∧ MakeT A0 V q3 x0 x1 x2 x3 a b a' w') (fun e a' W9 h => ?_) (make_wp A0 V q3 q4 q5 x0 x1 x2 x3 a b hA3 hA4 hA5 hsz k0 k1 k2 k3 KA KB HAV HBV)
      obtain ⟨rfl, Bx, AL, cL, AR, cR, B9, rfl, l9, iL, iR, g9⟩ := h
      obtain ⟨ws, gs, hfacts⟩ := make_pack HT.out HAV.out HBV.out l9 iL iR g9
      have hge := grew_trans HGV.out g9
      have HP := Lib.hid hfacts
      have HGE := Lib.hid hge
      clear hfacts hge HGV HT HWV HAV HBV G0 k0 k1 k2 k3 hA3 hA4 hA5 hsz HA HB KA KB l9 iL iR g9
      rw [← HA0.out]
      clear HA0
      unfold reads4
      simp only [Act.put, List.setIfInBounds_toArray, List.set_cons_zero, List.set_cons_succ]
      go_wp2_with fail
      go_loopw [93] (fun i wr => ∃ n : Nat, n ≤ 6 ∧ i = .int .i64 n ∧ Hid (Grew W9 wr none)) (fun i _ => 6 - (intOf i).toNat)
      case atStart => exact ⟨0, Nat.zero_le _, rfl, Lib.hid (grew_refl _ _)⟩
      case round =>
        obtain ⟨n, hn, rfl, R⟩ := hrel
        by_cases hlt : n < 6
        · obtain ⟨h6, h6', l1, l2, tw, i1, i2⟩ := HP.out
          obtain ⟨b', o', p, hB3, hp, hpm, c0, c1, c2, c3, c4, c5⟩ := (l1.grew R.out).at (i := n) (by omega)
          injection hB3 with hB3
          injection hB3 with hb1 hb2 _
          subst hb1 hb2
          obtain ⟨b'', o'', r, hB9, hr, hrm, e0, e1, e2, e3, e4, e5⟩ := (l2.grew R.out).at (i := n) (by omega)
          injection hB9 with hB9
          injection hB9 with hb1 hb2 _
          subst hb1 hb2
          obtain ⟨t1, t2, t3, t4, t5, t6⟩ := tw n p r hp hr
          have hpi := (i1 p hpm).grew R.out
          have hri := (i2 r hrm).grew R.out
          obtain ⟨rk, rs, rl, rh, rt, rA, rc, rps⟩ := r
          simp only [Fo.k, Fo.s, Fo.l, Fo.h, Fo.t, Fo.ps, Fo.A, Fo.c] at t1 t2 t3 t4 t5 t6 e0 e1 e2 e3 e4 e5
          subst t1 t2 t3 t4 t5 t6
          have HI := Lib.hid (show p.In wr ∧ In wr (.mk p.k p.s p.l p.h p.t rA rc p.ps) from ⟨hpi, hri⟩)
          clear h6 h6' l1 l2 tw i1 i2 hp hpm hr hrm hpi hri
          have C := Lib.hid (show ∀ w', Grew wr w' none → w'.cell? ⟨B3, 0 + n * 6, none⟩ = some (.int .i64 p.k) ∧ w'.cell? ⟨B3, 0 + n * 6 + 1, none⟩ = some (.int .i64 p.s) ∧ w'.cell? ⟨B3, 0 + n * 6 + 2, none⟩ = some (.int .i64 p.l) ∧ w'.cell? ⟨B3, 0 + n * 6 + 3, none⟩ = some (.int .i64 p.h) ∧ w'.cell? ⟨B3, 0 + n * 6 + 4, none⟩ = some (.int .i64 p.t) ∧ w'.cell? ⟨B3, 0 + n * 6 + 5, none⟩ = some (.slice p.A p.ps.length p.c) from
            fun w' g => ⟨g.cell c0 (by simp), g.cell c1 (by simp), g.cell c2 (by simp), g.cell c3 (by simp), g.cell c4 (by simp), g.cell c5 (by simp)⟩)
          have D := Lib.hid (show ∀ w', Grew wr w' none → w'.cell? ⟨B9, 0 + n * 6, none⟩ = some (.int .i64 p.k) ∧ w'.cell? ⟨B9, 0 + n * 6 + 1, none⟩ = some (.int .i64 p.s) ∧ w'.cell? ⟨B9, 0 + n * 6 + 2, none⟩ = some (.int .i64 p.l) ∧ w'.cell? ⟨B9, 0 + n * 6 + 3, none⟩ = some (.int .i64 p.h) ∧ w'.cell? ⟨B9, 0 + n * 6 + 4, none⟩ = some (.int .i64 p.t) ∧ w'.cell? ⟨B9, 0 + n * 6 + 5, none⟩ = some (.slice rA p.ps.length rc) from
            fun w' g => ⟨g.cell e0 (by simp), g.cell e1 (by simp), g.cell e2 (by simp), g.cell e3 (by simp), g.cell e4 (by simp), g.cell e5 (by simp)⟩)
          clear c0 c1 c2 c3 c4 c5 e0 e1 e2 e3 e4 e5
          have G0 := Lib.hid (grew_drew (grew_refl wr none))
          go_wp2_with fail
          refine act_letterC (fun A1 hA1 => ?_)
          have hA7 : A1.eval (.tmp 7) = .slice (some ⟨B3, 0, none⟩) 6 6 := by rw [← hA1]; rfl
          have hA8 : A1.eval (.tmp 8) = .slice (some ⟨B9, 0, none⟩) 6 6 := by rw [← hA1]; rfl
          have hA9 : A1.eval (.tmp 9) = .int .i64 n := by rw [← hA1]; rfl
          have hsz : A1.tmps.size = 170 := by rw [← hA1]; rfl
          have HA1 := Lib.hid hA1
          clear hA1
          refine Code.wp_mono (Q := fun e a' w' => e = .normal ∧ TakeT A1 wr B3 B9 n p rA rc a' w') (fun e a' X h => ?_) (take_wp A1 wr B3 B9 n p rA rc hlt hA7 hA8 hA9 hsz C D)
          obtain ⟨rfl, qp, qr, rfl, hx1, hx2, hx3⟩ := h
          have HQ10 := Lib.hid hx1
          have HQ11 := Lib.hid hx2
          have GS2 := Lib.hid hx3
          clear hx1 hx2 hx3 C D G0 hA7 hA8 hA9 hsz
          rw [← HA1.out]
          clear HA1
          simp only [Act.put, List.setIfInBounds_toArray, List.set_cons_zero, List.set_cons_succ]
          obtain ⟨m0, m1, m2, m3, m4, m5⟩ := HQ10.out.six
          have n0 : X.cell? ⟨qr, 0, none⟩ = some (.int .i64 p.k) := HQ11.out.cell 0
          have n1 : X.cell? ⟨qr, 1, none⟩ = some (.int .i64 p.s) := HQ11.out.cell 1
          have n2 : X.cell? ⟨qr, 2, none⟩ = some (.int .i64 p.l) := HQ11.out.cell 2
          have n3 : X.cell? ⟨qr, 3, none⟩ = some (.int .i64 p.h) := HQ11.out.cell 3
          have n4 : X.cell? ⟨qr, 4, none⟩ = some (.int .i64 p.t) := HQ11.out.cell 4
          have n5 : X.cell? ⟨qr, 5, none⟩ = some (.slice rA p.ps.length rc) := HQ11.out.cell 5
          have hlz : p.ps.length ≤ 2199023255552 := by have := HI.out.1; cases this; assumption
          go_wp2_with fail
          go_loopw [149] (fun i wr => ∃ m : Nat, m ≤ p.ps.length ∧ i = .int .i64 m ∧ Hid (Grew X wr none)) (fun i _ => p.ps.length - (intOf i).toNat)
          case atStart => exact ⟨0, Nat.zero_le _, rfl, Lib.hid (grew_refl _ _)⟩
          case round =>
            obtain ⟨m, hm, rfl, T⟩ := hrel
            by_cases hmt : m < p.ps.length
            · have g8 := grew_trans GS2.out T.out
              obtain ⟨b1, o1, u, hA1, hu, hum, hui, c0, c1, c2, c3, c4, c5⟩ := (show In wr (.mk p.k p.s p.l p.h p.t p.A p.c p.ps) by have := HI.out.1.grew g8; obtain ⟨k', s', l', h', t', A', c', ps'⟩ := p; exact this).at hmt
              obtain ⟨b2, o2, u2, hA2, hu2, _, _, e0, e1, e2, e3, e4, e5⟩ := (HI.out.2.grew g8).at hmt
              rw [hu] at hu2
              injection hu2 with hu2
              subst hu2
              subst hA2
              have m5' : wr.cell? ⟨qp, 5, none⟩ = some (.slice p.A p.ps.length p.c) := (HQ10.out.grew T.out (by simp)).cell 5
              have n5' : wr.cell? ⟨qr, 5, none⟩ = some (.slice (some ⟨b2, o2, none⟩) p.ps.length rc) := (HQ11.out.grew T.out (by simp)).cell 5
              rw [hA1] at m5'
              have f0 := fun x => pad_cell c0 x
              have f1 := fun x => pad_cell c1 x
              have f2 := fun x => pad_cell c2 x
              have f3 := fun x => pad_cell c3 x
              have f4 := fun x => pad_cell c4 x
              have f5 := fun x => pad_cell c5 x
              have j0 := fun x => pad_cell e0 x
              have j1 := fun x => pad_cell e1 x
              have j2 := fun x => pad_cell e2 x
              have j3 := fun x => pad_cell e3 x
              have j4 := fun x => pad_cell e4 x
              have j5 := fun x => pad_cell e5 x
              have j6 := fun x => pad_cell m5' x
              have j7 := fun x => pad_cell n5' x
              have HC := Lib.hid (fun x => rsame_any u u (World.pad wr x) (hui.grew (grew_pad wr x)) (hui.grew (grew_pad wr x)))
              rw [same_refl u] at HC
              clear hA1 hu hum hui c0 c1 c2 c3 c4 c5 e0 e1 e2 e3 e4 e5 m0 m1 m2 m3 m4 m5 n0 n1 n2 n3 n4 n5 m5' n5' g8
              go_wp2_with fail
              refine wp_region_pad (by kernel_rfl) (by kernel_rfl) ?_
              repeat (go_big_quiet_step ((go_at_call 11; exact pad_call (HC.out _))))
              refine wpQuiet_nil ?_
              rintro _ ⟨xq, rfl⟩
              have HT2 := Lib.hid (grew_trans T.out (grew_pad wr xq))
              clear f0 f1 f2 f3 f4 f5 j0 j1 j2 j3 j4 j5 j6 j7 HC T
              go_wp2_with fail
              go_roundw
              case rel => exact ⟨m + 1, by omega, by go_num, HT2⟩
              case measure => simp [intOf]; omega
            · have HT2 := Lib.hid (grew_trans R.out (grew_trans GS2.out T.out))
              clear T
              go_wp2_with fail
              go_roundw
              case rel => exact ⟨n + 1, by omega, by go_num, HT2⟩
              case measure => simp [intOf]; omega
        · go_wp2_with fail
          refine (row_any wr none 0 [] (Lie.nil _ _) (fun p hp => by simp at hp) (by simp)).mono ?_
          rintro e w5 ⟨A5, c5, rfl, _, g5, _⟩
          have HG5 := Lib.hid (grew_trans HGE.out (grew_trans R.out g5))
          clear g5
          have hfld := field_none w5 A5 c5
          go_wp2_with fail
          go_ret
          exact ⟨rfl, grew_below HG5.out (Nat.le_refl _) (fun _ h => by cases h)⟩

set_option maxRecDepth 100000 in
theorem formMakes_lifted (os : Os) (started : os.Started) (H : Type) (enc : TypeId × Value → H) :
    ReturnsInHanded {} Try.checked os 4 .any (Rows.formMakesSpec.pre6 enc Try.prog Try.f4 Rows.formMakesRow.domain false) (Rows.formMakesSpec.post enc Try.prog Try.f4 false true false false) := by
  refine returnsInHanded_of_change_sized (C := Try.checked) own started (by kernel_rfl) Try.func4
    (ChangeSpec.witness6 (enc := enc) (C := Try.checked) false ⟨#[], #[.agg #[.int .i64 0, .int .i64 0, .int .i64 0, .int .i64 0], .agg #[.int .i64 0, .int .i64 0, .int .i64 0, .int .i64 0, .int .i64 0, .slice none 0 0], .agg #[.int .i64 0, .int .i64 0, .int .i64 0, .int .i64 0, .int .i64 0, .slice none 0 0]], []⟩ 8 (by kernel_rfl) (by kernel_rfl) (by kernel_rfl) (by kernel_rfl)) ?_
  intro W base args ds gs before hval0 hW hcnd hsz0 _
  have hval : ∀ (j : Nat) t v, Try.f4.params[j]? = some t → args[j]? = some v → Value.okWide Try.prog W .any base t v := hval0
  have hsz : (DataW.weightsEach Try.prog (Try.f4.params.toList ++ Rows.formMakesSpec.plain.varTypes Try.prog) (ds ++ gs)).all (· ≤ reachBytes) = true := hsz0
  have hW' := hW
  obtain ⟨p, q, hA0, hV, rfl, hfz, hnd⟩ := hW
  have hA : DataW.TrodAll enc Try.prog W 0 (fun _ => true) true Try.f4.params.toList args.toList ds p := hA0
  rw [Try.params4] at hA hval hsz
  obtain ⟨v0, vs0, d0, ds0, p0, q0, hargs, rfl, rfl, h0, r0⟩ := trodAll_cons hA
  obtain ⟨v1, vs1, d1, ds1, p1, q1, rfl, rfl, rfl, h1, r1⟩ := trodAll_cons r0
  obtain ⟨v2, vs2, d2, ds2, p2, q2, rfl, rfl, rfl, h2, r2⟩ := trodAll_cons r1
  obtain ⟨rfl, rfl, rfl⟩ := trodAll_nil r2
  obtain rfl : args = #[v0, v1, v2] := by cases args; simp_all
  obtain ⟨rfl, rfl⟩ := trodVars_none hV
  have k0 := h0
  have lt0 : ∀ x ∈ p0, x.block < W.heap.size := by obtain ⟨m, hm⟩ := k0; exact DataW.trod_lt m _ _ _ hm
  obtain ⟨a00, a01, a02, a03, rfl, w00, w01, w02, w03⟩ := arg_int4 (hval 0 28 v0 rfl rfl) h0
  have k1 := h1
  have lt1 : ∀ x ∈ p1, x.block < W.heap.size := by obtain ⟨m, hm⟩ := k1; exact DataW.trod_lt m _ _ _ hm
  obtain ⟨f1, rfl, n1⟩ := arg_form (hval 1 24 v1 rfl rfl) h1 hsz (j := 1) rfl rfl
  have k2 := h2
  have lt2 : ∀ x ∈ p2, x.block < W.heap.size := by obtain ⟨m, hm⟩ := k2; exact DataW.trod_lt m _ _ _ hm
  obtain ⟨f2, rfl, n2⟩ := arg_form (hval 2 24 v2 rfl rfl) h2 hsz (j := 2) rfl rfl
  clear hA0 hval0 hsz0
  refine (formMakes_walk W a00 a01 a02 a03 w00 w01 w02 w03 f1 n1 f2 n2).mono fun e W' ⟨he, bel⟩ => ?_
  subst he
  exact ⟨_, rfl, _, _, _, [], _, [], hW', trodAll_mk1 (shut_bool Try.underlying4 _), (trodAll_cons_mk (Below.trod laidOut (by kernel_rfl) (of_decide_eq_true (by kernel_rfl)) k0 bel lt0) (trodAll_cons_mk (Below.trod laidOut (by kernel_rfl) (of_decide_eq_true (by kernel_rfl)) k1 bel lt1) (trodAll_cons_mk (Below.trod laidOut (by kernel_rfl) (of_decide_eq_true (by kernel_rfl)) k2 bel lt2) trodAll_mk0))), rfl, bel.frame _, fun h => by cases h⟩

theorem formMakes_over : Rows.formMakesRow.holds Try.pinned (OpenSpec.ofChange Rows.formMakesSpec) :=
  OpenClaim.holds_of_wide 4 Try.f4 rfl rfl rfl rfl rfl rfl rfl ⟨rfl, rfl, rfl, rfl, rfl⟩ rfl rfl rfl rfl rfl (by kernel_rfl) Try.func4 (by kernel_rfl)
    (of_decide_eq_true (by kernel_rfl)) (by unfold Func.isWrapper; first | (rw [if_pos (by decide +kernel)]; kernel_rfl) | (rw [if_neg (by decide +kernel)]; exact ⟨rfl, rfl⟩))
    (fun os started H enc _ => formMakes_lifted os started H enc)

theorem formMakes_holds : Rows.FormMakesSaid := formMakes_over
#print axioms formMakes_holds
end Go.Proofs.Ytlehehibfpbhmaa

