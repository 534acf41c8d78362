/- The package's own times: is it a moment? -/
import Derived.Test.YtnjnghbonmdbdaaDoorQ7
import Derived.Test.YtnjnghbonmdbdaaDoorQ3
import Derived.Test.YtnjnghbonmdbdaaDoorRows
import Derived.Test.YtnjnghbonmdbdaaDoorQ1
import Derived.Maps.OwnOps
import Derived.Lib.Hide
import Derived.Laws.EntriesVeiled
import Derived.Laws.Rows
import Derived.Deep.Cut
import Derived.IntWalk
import Derived.RegionTactic
import Derived.Maps.OwnSet
import Derived.Test.YtnjnghbonmdbdaaDoorQ4
import Derived.BigQuiet
import Derived.Deep.QuietTactic
namespace Go.Proofs.YtnjnghbonmdbdaaDoor
open Go.RowKit

theorem below_drewN {w W : World} {q : Nat} (h : Below q w W) (n : Nat) : Below q w (W.drewN n) := ⟨h.os, h.tape, h.output, h.size, h.block⟩

set_option maxRecDepth 100000 in
set_option maxHeartbeats 2000000 in
theorem ismoment_any (w : World) (v0 v1 v2 v3 v4 v5 : Int) (h0 : 0 ≤ v0) :
    Calls Tryd.prog 73 #[.agg #[.int .i64 v0, .int .i64 v1, .int .i64 v2, .int .i64 v3, .int .i64 v4, .int .i64 v5]] w fun e w' =>
      e = .returned (.bool (decide (1 ≤ v1 ∧ v1 ≤ 12 ∧ 1 ≤ v2 ∧ v2 ≤ dys v0 v1 ∧ v3 ≤ 23 ∧ v4 ≤ 59 ∧ v5 ≤ 59))) ∧ Below w.heap.size w w' := by
  obtain ⟨R, hR⟩ : ∃ R, decide (1 ≤ v1 ∧ v1 ≤ 12 ∧ 1 ≤ v2 ∧ v2 ≤ dys v0 v1 ∧ v3 ≤ 23 ∧ v4 ≤ 59 ∧ v5 ≤ 59) = R := ⟨_, rfl⟩
  rw [hR]
  have HD := Lib.hid (show ∀ w, Calls Tryd.prog 74 #[.int .i64 v0, .int .i64 v1] w fun e w' => e = .returned (.int .i64 (dys v0 v1)) ∧ w = w' from fun w => (daysof_any w v0 v1 h0).mono fun _ _ h => ⟨h.1, h.2.symm⟩)
  generalize dys v0 v1 = D at *
  have HR := Lib.hid hR
  clear hR h0
  have HV := Lib.hid (show Whole (w.alloc (.cells #[.int .i64 v0, .int .i64 v1, .int .i64 v2, .int .i64 v3, .int .i64 v4, .int .i64 v5] 91)) w.heap.size #[.int .i64 v0, .int .i64 v1, .int .i64 v2, .int .i64 v3, .int .i64 v4, .int .i64 v5] 91 from Whole.new _ _ _)
  have HG := Lib.hid (show Grew w (w.alloc (.cells #[.int .i64 v0, .int .i64 v1, .int .i64 v2, .int .i64 v3, .int .i64 v4, .int .i64 v5] 91)) none from grew_alloc (grew_refl _ _) _)
  go_enter Tryd.func73, Tryd.ntmps73
  go_upto_region 1 with (fail)
  generalize w.alloc (.cells #[.int .i64 v0, .int .i64 v1, .int .i64 v2, .int .i64 v3, .int .i64 v4, .int .i64 v5] 91) = W at *
  obtain ⟨q, hq⟩ : ∃ q, w.heap.size = q := ⟨_, rfl⟩
  rw [hq] at HV ⊢
  have HB := Lib.hid (show Below w.heap.size w W from grew_below HG.out (Nat.le_refl _) (fun _ h => by cases h))
  clear hq HG
  have c0 : W.cell? ⟨q, 0, none⟩ = some (.int .i64 v0) := HV.out.cell 0
  have c1 : W.cell? ⟨q, 1, none⟩ = some (.int .i64 v1) := HV.out.cell 1
  have c2 : W.cell? ⟨q, 2, none⟩ = some (.int .i64 v2) := HV.out.cell 2
  have c3 : W.cell? ⟨q, 3, none⟩ = some (.int .i64 v3) := HV.out.cell 3
  have c4 : W.cell? ⟨q, 4, none⟩ = some (.int .i64 v4) := HV.out.cell 4
  have c5 : W.cell? ⟨q, 5, none⟩ = some (.int .i64 v5) := HV.out.cell 5
  clear HV
  by_cases q0 : v1 < 1
  · obtain rfl : R = false := by rw [← HR.out]; exact decide_eq_false (by omega)
    have b0 : decide (v1 < 1) = true := decide_eq_true q0
    go_wp2_with fail
    go_ret
    exact ⟨rfl, HB.out⟩
  have b0 : decide (v1 < 1) = false := decide_eq_false q0
  by_cases q1 : 12 < v1
  · obtain rfl : R = false := by rw [← HR.out]; exact decide_eq_false (by omega)
    have b1 : decide (12 < v1) = true := decide_eq_true q1
    go_wp2_with fail
    go_ret
    exact ⟨rfl, HB.out⟩
  have b1 : decide (12 < v1) = false := decide_eq_false q1
  by_cases q2 : v2 < 1
  · obtain rfl : R = false := by rw [← HR.out]; exact decide_eq_false (by omega)
    have b2 : decide (v2 < 1) = true := decide_eq_true q2
    go_upto_region 3 with (fail)
    go_quiet (fail)
    go_wp2_with fail
    go_ret
    exact ⟨rfl, below_drewN HB.out _⟩
  have b2 : decide (v2 < 1) = false := decide_eq_false q2
  by_cases q3 : D < v2
  · obtain rfl : R = false := by rw [← HR.out]; exact decide_eq_false (by omega)
    have b3 : decide (D < v2) = true := decide_eq_true q3
    go_upto_region 3 with (fail)
    go_quiet ((go_at_call 74; exact quiet_same (HD.out _)))
    go_wp2_with fail
    go_ret
    exact ⟨rfl, below_drewN HB.out _⟩
  have b3 : decide (D < v2) = false := decide_eq_false q3
  by_cases q4 : 23 < v3
  · obtain rfl : R = false := by rw [← HR.out]; exact decide_eq_false (by omega)
    have bq4 : decide (v3 ≤ 23) = false := decide_eq_false (by omega)
    go_upto_region 3 with (fail)
    go_quiet ((go_at_call 74; exact quiet_same (HD.out _)))
    go_wp2_with fail
    go_ret
    exact ⟨rfl, below_drewN HB.out _⟩
  have bq4 : decide (v3 ≤ 23) = true := decide_eq_true (by omega)
  by_cases q5 : 59 < v4
  · obtain rfl : R = false := by rw [← HR.out]; exact decide_eq_false (by omega)
    have bq5 : decide (v4 ≤ 59) = false := decide_eq_false (by omega)
    go_upto_region 3 with (fail)
    go_quiet ((go_at_call 74; exact quiet_same (HD.out _)))
    go_wp2_with fail
    go_ret
    exact ⟨rfl, below_drewN HB.out _⟩
  have bq5 : decide (v4 ≤ 59) = true := decide_eq_true (by omega)
  by_cases q6 : 59 < v5
  · obtain rfl : R = false := by rw [← HR.out]; exact decide_eq_false (by omega)
    have bq6 : decide (v5 ≤ 59) = false := decide_eq_false (by omega)
    go_upto_region 3 with (fail)
    go_quiet ((go_at_call 74; exact quiet_same (HD.out _)))
    go_wp2_with fail
    go_ret
    exact ⟨rfl, below_drewN HB.out _⟩
  have bq6 : decide (v5 ≤ 59) = true := decide_eq_true (by omega)
  obtain rfl : R = true := by rw [← HR.out]; exact decide_eq_true (by omega)
  go_upto_region 3 with (fail)
  go_quiet ((go_at_call 74; exact quiet_same (HD.out _)))
  go_wp2_with fail
  go_ret
  exact ⟨rfl, below_drewN HB.out _⟩
end Go.Proofs.YtnjnghbonmdbdaaDoor


/- The rows of tags: the map that the package makes. -/
namespace Go.Proofs.YtnjnghbonmdbdaaDoor
open Go.RowKit Go.Maps

theorem Whole.new_of (w : World) (cs : Array Value) (t : TypeId) {p : Nat} (hp : p = w.heap.size) : Whole (w.alloc (.cells cs t)) p cs t := by subst hp; exact Whole.new w cs t

set_option maxRecDepth 100000 in
theorem timerow_any (w : World) (n : Int) :
    Calls Tryd.prog 68 #[.int .i64 n] w fun e w' => ∃ p, e = .returned (.agg #[.func (.func 69) #[] #[.pointer (some ⟨p, 0, none⟩)], .int .i64 n]) ∧ w.heap.size ≤ p ∧ Whole w' p #[.int .i64 n] 3 ∧ Grew w w' none := by
  have hW : Whole ((w.alloc (.cells #[.int .i64 n] 3)).alloc (.cells #[.nilFunc, .int .i64 0] 109)) (w.heap.size + 1) #[.nilFunc, .int .i64 0] 109 := Whole.new_of _ _ _ (by simp)
  have hV : Whole ((w.alloc (.cells #[.int .i64 n] 3)).alloc (.cells #[.nilFunc, .int .i64 0] 109)) w.heap.size #[.int .i64 n] 3 := (Whole.new w _ _).grew (grew_alloc (grew_refl _ none) _) (by simp)
  have HG := Lib.hid (show Grew w ((w.alloc (.cells #[.int .i64 n] 3)).alloc (.cells #[.nilFunc, .int .i64 0] 109)) none from grew_alloc (grew_alloc (grew_refl _ _) _) _)
  have HW := Lib.hid hW
  have HV := Lib.hid hV
  clear hW hV
  go_enter Tryd.func68, Tryd.ntmps68
  go_upto_region 2 with (fail)
  generalize (w.alloc (.cells #[.int .i64 n] 3)).alloc (.cells #[.nilFunc, .int .i64 0] 109) = W at *
  obtain ⟨q, hq⟩ : ∃ q, w.heap.size + 1 = q := ⟨_, rfl⟩
  rw [hq] at HW ⊢
  obtain ⟨p, hp⟩ : ∃ p, w.heap.size = p := ⟨_, rfl⟩
  rw [hp] at HV ⊢
  have HP := Lib.hid hp
  have HQ := Lib.hid (show w.heap.size ≤ p ∧ p + 1 = q by omega)
  clear hp hq
  have b0 : W.cell? ⟨p, 0, none⟩ = some (.int .i64 n) := HV.out.cell 0
  have c0 : W.cell? ⟨q, 0, none⟩ = some .nilFunc := HW.out.cell 0
  have f0 := HW.out.frozen 0
  have h1 := HW.out.set 0 (.func (.func 69) #[] #[.pointer (some ⟨p, 0, none⟩)])
  have d1 : (W.setCell ⟨q, 0, none⟩ (.func (.func 69) #[] #[.pointer (some ⟨p, 0, none⟩)])).cell? ⟨q, 1, none⟩ = some (.int .i64 0) := h1.cell 1
  have g1 := h1.frozen 1
  have H2 := Lib.hid (h1.set 1 (.int .i64 n))
  clear h1
  go_wp2_with fail
  refine bodyPost_ret (results_cell_row rfl _ _ q _ _ _ _ rfl H2.out Tryd.underlying109 rfl (by kernel_rfl)) rfl ⟨p, rfl, Nat.le_of_eq HP.out, ?_, ?_⟩
  · exact HV.out.grew (grew_set (grew_set (grew_refl W (some q)) _ _ _) _ _ _) (by have := HQ.out; simp; omega)
  · exact grew_own HG.out (grew_set (grew_set (grew_refl W (some q)) _ _ _) _ _ _) (by have := HQ.out; omega)
end Go.Proofs.YtnjnghbonmdbdaaDoor


/- The package's own times: read. -/
namespace Go.Proofs.YtnjnghbonmdbdaaDoor
open Go.RowKit

theorem dgs_lt (xs : List UInt8) : dgs xs < ((10 ^ xs.length : Nat) : Int) := by
  have key : ∀ (k : Nat) (xs : List UInt8) (n m : Nat), xs.length = k → n < 10 ^ m → dgF n xs < ((10 ^ (m + k) : Nat) : Int) := by
    intro k
    induction k with
    | zero => intro xs n m hx hn; obtain rfl := List.eq_nil_of_length_eq_zero hx; simp only [dgF, Nat.add_zero]; omega
    | succ k ih =>
      intro xs n m hx hn
      match xs, hx with
      | x :: r, hx =>
        unfold dgF
        split
        · have : (0 : Int) ≤ ((10 ^ (m + (k + 1)) : Nat) : Int) := Int.natCast_nonneg _
          generalize ((10 ^ (m + (k + 1)) : Nat) : Int) = Y at *
          omega
        · have := ih r (10 * n + (x.toNat - 48)) (m + 1) (by simpa using hx) (by rw [Nat.pow_succ]; omega)
          rw [show m + 1 + k = m + (k + 1) by omega] at this
          exact this
  have h1 := key xs.length xs 0 0 rfl (by decide)
  rw [Nat.zero_add] at h1
  exact h1

/-- Memory while a time is read: the result's block, the block of what is read. -/
structure Tma (w W : World) (q : Nat) (cs : Array Value) : Prop where
  res : Whole W q #[.int .i64 0, .int .i64 0, .int .i64 0, .int .i64 0, .int .i64 0, .int .i64 0] 91
  cur : Whole W (q + 1) cs 91
  bel : Below q w W
theorem Tma.store {w W : World} {q : Nat} {cs : Array Value} (h : Tma w W q cs) (i : Nat) (u : Value) : Tma w (W.setCell ⟨q + 1, i, none⟩ u) q (cs.setIfInBounds i u) :=
  ⟨h.res.grew (grew_set (grew_refl W (some (q + 1))) i none _) (by simp), h.cur.set i u, h.bel.setCell (p := ⟨q + 1, i, none⟩) (by simp) _⟩
theorem Tma.under {w W W' : World} {q : Nat} {cs : Array Value} (h : Tma w W q cs) (hb : Below W.heap.size W W') (hq : q + 1 < W.heap.size) : Tma w W' q cs := by
  refine ⟨?_, ?_, ?_⟩
  · exact (hb.block q (by omega)).trans h.res
  · exact (hb.block (q + 1) (by omega)).trans h.cur
  · exact h.bel.trans (hb.mono (Nat.le_of_lt (Nat.lt_of_succ_lt hq)))
/-- What is read of a time's parts: j of them. -/
def tmc (tag : Int) (xs : List UInt8) (j k : Nat) : Value := .int .i64 (if k < j then tyR tag xs k else 0)
def tmC (tag : Int) (xs : List UInt8) (j : Nat) : Array Value := #[tmc tag xs j 0, tmc tag xs j 1, tmc tag xs j 2, tmc tag xs j 3, tmc tag xs j 4, tmc tag xs j 5]
theorem tmC_next (tag : Int) (xs : List UInt8) (j : Nat) (h : j < 6) : (tmC tag xs j).setIfInBounds j (.int .i64 (tyR tag xs j)) = tmC tag xs (j + 1) := by
  have key : j = 0 ∨ j = 1 ∨ j = 2 ∨ j = 3 ∨ j = 4 ∨ j = 5 := by omega
  rcases key with rfl | rfl | rfl | rfl | rfl | rfl <;> simp [tmC, tmc]
theorem tmC_cell (tag : Int) (xs : List UInt8) (j : Nat) (h : j < 6) : (tmC tag xs j)[j]? = some (.int .i64 0) := by
  have key : j = 0 ∨ j = 1 ∨ j = 2 ∨ j = 3 ∨ j = 4 ∨ j = 5 := by omega
  rcases key with rfl | rfl | rfl | rfl | rfl | rfl <;> simp [tmC, tmc]
/-- Where a part begins. -/
def bgn (n j : Nat) : Nat := if j = 0 then 0 else n + 2 * j - 2
theorem byt_up {w : World} {B B' : Nat} {A : Option Addr} {xs : List UInt8} (h : Byt w B A xs) (hB : B ≤ B') : Byt w B' A xs := by
  intro hn
  obtain ⟨b, o, e, hb, hc⟩ := h hn
  exact ⟨b, o, e, by omega, hc⟩
theorem tyok_neg {tag : Int} {xs : List UInt8} {j : Nat} (hj : j < 6) (h : ¬ 0 ≤ tyR tag xs j) : tyOk tag xs = false := by
  have : ((List.range 6).all fun i => decide (0 ≤ tyR tag xs i)) = false := by
    rw [List.all_eq_false]
    exact ⟨j, List.mem_range.2 hj, by simpa using h⟩
  unfold tyOk
  rw [this, Bool.and_false, Bool.false_and]
theorem tyok_len {tag : Int} {xs : List UInt8} (h : ¬ xs.length = tyN tag + 11) : tyOk tag xs = false := by
  unfold tyOk
  rw [show (xs.length == tyN tag + 11) = false from beq_eq_false_iff_ne.2 h]
  simp
theorem tyok_z {tag : Int} {xs : List UInt8} (h : ¬ (xs.getD (tyN tag + 10) 0).toNat = 90) : tyOk tag xs = false := by
  unfold tyOk
  rw [show ((xs.getD (tyN tag + 10) 0).toNat == 90) = false from beq_eq_false_iff_ne.2 h]
  simp
theorem tyok_eq {tag : Int} {xs : List UInt8} (h1 : xs.length = tyN tag + 11) (h2 : (xs.getD (tyN tag + 10) 0).toNat = 90) (h3 : ∀ k, k < 6 → 0 ≤ tyR tag xs k) :
    tyOk tag xs = decide (1 ≤ tyV tag xs 1 ∧ tyV tag xs 1 ≤ 12 ∧ 1 ≤ tyV tag xs 2 ∧ tyV tag xs 2 ≤ dys (tyV tag xs 0) (tyV tag xs 1) ∧ tyV tag xs 3 ≤ 23 ∧ tyV tag xs 4 ≤ 59 ∧ tyV tag xs 5 ≤ 59) := by
  have : ((List.range 6).all fun i => decide (0 ≤ tyR tag xs i)) = true := by
    rw [List.all_eq_true]
    exact fun i hi => decide_eq_true (h3 i (List.mem_range.1 hi))
  unfold tyOk
  rw [this, h1, h2]
  simp
theorem Tma.cells {w W : World} {q : Nat} {z0 z1 z2 z3 z4 z5 : Int} (h : Tma w W q #[.int .i64 z0, .int .i64 z1, .int .i64 z2, .int .i64 z3, .int .i64 z4, .int .i64 z5]) :
    (W.cell? ⟨q + 1, 0, none⟩ = some (.int .i64 z0) ∧ W.cell? ⟨q + 1, 1, none⟩ = some (.int .i64 z1) ∧ W.cell? ⟨q + 1, 2, none⟩ = some (.int .i64 z2) ∧ W.cell? ⟨q + 1, 3, none⟩ = some (.int .i64 z3) ∧ W.cell? ⟨q + 1, 4, none⟩ = some (.int .i64 z4) ∧ W.cell? ⟨q + 1, 5, none⟩ = some (.int .i64 z5)) ∧
    (∀ i, W.frozen? ⟨q + 1, i, none⟩ = false) :=
  ⟨⟨h.cur.cell 0, h.cur.cell 1, h.cur.cell 2, h.cur.cell 3, h.cur.cell 4, h.cur.cell 5⟩, h.cur.frozen⟩
theorem res_cells {W : World} {q : Nat} (h : Whole W q #[.int .i64 0, .int .i64 0, .int .i64 0, .int .i64 0, .int .i64 0, .int .i64 0] 91) :
    (W.cell? ⟨q, 0, none⟩ = some (.int .i64 0) ∧ W.cell? ⟨q, 1, none⟩ = some (.int .i64 0) ∧ W.cell? ⟨q, 2, none⟩ = some (.int .i64 0) ∧ W.cell? ⟨q, 3, none⟩ = some (.int .i64 0) ∧ W.cell? ⟨q, 4, none⟩ = some (.int .i64 0) ∧ W.cell? ⟨q, 5, none⟩ = some (.int .i64 0)) ∧ (∀ i, W.frozen? ⟨q, i, none⟩ = false) :=
  ⟨⟨h.cell 0, h.cell 1, h.cell 2, h.cell 3, h.cell 4, h.cell 5⟩, h.frozen⟩

set_option maxRecDepth 100000 in
theorem results_rt (tmps : Array Value) (w : World) (q : Nat) (cs : Array Value) (t : TypeId) (hp : tmps.getD 4 undef = .pointer (some ⟨q, 0, none⟩)) (hg : Whole w q cs t) (h6 : cs.size = 6) :
    (results Tryd.f70 tmps).run Tryd.prog w = .ok (.tuple #[.agg cs, tmps.getD 5 undef]) w := by
  have hi : (Tryd.prog.info? 91).map (·.size) = some cs.size := by rw [h6]; kernel_rfl
  have h1 := run_loadVar_row (P := Tryd.prog) w q t 91 cs _ _ hg Tryd.underlying91 rfl hi
  rw [results_cell_tmp (fn := Tryd.f70) rfl tmps Tryd.prog w, hp]
  simp [asAddr, h1, Result.andThen]
/-- It leaves with what lies in its result. -/
theorem rt_leave {w W : World} {q : Nat} (hres : Whole W q #[.int .i64 0, .int .i64 0, .int .i64 0, .int .i64 0, .int .i64 0, .int .i64 0] 91) (hbel : Below q w W) (z0 z1 z2 z3 z4 z5 : Int) (a : Act) (b : Bool)
    (h4 : a.tmps.getD 4 undef = .pointer (some ⟨q, 0, none⟩)) (h5 : a.tmps.getD 5 undef = .bool b) (hd : a.defers = []) {E : Ending → World → Prop}
    (hE : Below q w (put6i W q z0 z1 z2 z3 z4 z5) → E (.returned (.tuple #[agg6 [z0, z1, z2, z3, z4, z5], .bool b])) (put6i W q z0 z1 z2 z3 z4 z5)) :
    bodyPost Tryd.prog Tryd.f70 E Exit.ret a (put6i W q z0 z1 z2 z3 z4 z5) := by
  have hw : Whole (put6i W q z0 z1 z2 z3 z4 z5) q #[.int .i64 z0, .int .i64 z1, .int .i64 z2, .int .i64 z3, .int .i64 z4, .int .i64 z5] 91 := (((((hres.set 0 _).set 1 _).set 2 _).set 3 _).set 4 _).set 5 _
  have hb : Below q w (put6i W q z0 z1 z2 z3 z4 z5) := (((((hbel.setCell (p := ⟨q, 0, none⟩) (Nat.le_refl _) _).setCell (p := ⟨q, 1, none⟩) (Nat.le_refl _) _).setCell (p := ⟨q, 2, none⟩) (Nat.le_refl _) _).setCell (p := ⟨q, 3, none⟩) (Nat.le_refl _) _).setCell (p := ⟨q, 4, none⟩) (Nat.le_refl _) _).setCell (p := ⟨q, 5, none⟩) (Nat.le_refl _) _
  refine bodyPost_ret (results_rt _ _ q _ _ h4 hw rfl) hd ?_
  rw [h5]
  exact hE hb


set_option maxRecDepth 100000 in
set_option maxHeartbeats 4000000 in
theorem readtime23 (w : World) (A : Option Addr) (c : Nat) (xs : List UInt8) (hb : Byt w w.heap.size A xs) (hl : xs.length ≤ c) (hm : xs.length ≤ 140737488351232) :
    Calls Tryd.prog 70 #[.int .i64 2, .slice A xs.length c] w (TimePost w 23 xs) := by
  obtain ⟨L, hL⟩ : ∃ L, xs.length = L := ⟨_, rfl⟩
  rw [hL] at hl hm ⊢
  have HL0 := Lib.hid hL
  have HB := Lib.hid hb
  have HC := Lib.hid hl
  have hLI : (L : Int) ≤ 140737488351232 := by omega
  clear hb hL hl hm
  have HV := Lib.hid (show Whole (w.alloc (.cells #[.int .i64 0, .int .i64 0, .int .i64 0, .int .i64 0, .int .i64 0, .int .i64 0] 91)) w.heap.size #[.int .i64 0, .int .i64 0, .int .i64 0, .int .i64 0, .int .i64 0, .int .i64 0] 91 from Whole.new _ _ _)
  have HG := Lib.hid (show Grew w (w.alloc (.cells #[.int .i64 0, .int .i64 0, .int .i64 0, .int .i64 0, .int .i64 0, .int .i64 0] 91)) none from grew_alloc (grew_refl _ _) _)
  have HZ := Lib.hid (show (w.alloc (.cells #[.int .i64 0, .int .i64 0, .int .i64 0, .int .i64 0, .int .i64 0, .int .i64 0] 91)).heap.size = w.heap.size + 1 by simp)
  go_enter Tryd.func70, Tryd.ntmps70
  go_upto_region 1 with (fail)
  generalize w.alloc (.cells #[.int .i64 0, .int .i64 0, .int .i64 0, .int .i64 0, .int .i64 0, .int .i64 0] 91) = W at *
  obtain ⟨q, hq⟩ : ∃ q, w.heap.size = q := ⟨_, rfl⟩
  rw [hq] at HV HZ ⊢
  have HQ := Lib.hid hq
  have HBL := Lib.hid (show Below q w W from hq ▸ grew_below HG.out (Nat.le_refl _) (fun _ h => by cases h))
  clear hq HG
  by_cases hlen : L = 13
  · subst hlen
    obtain ⟨b, o, rfl, -, -⟩ := HB.out (by rw [HL0.out]; omega)
    have HBY := Lib.hid (show b < q ∧ ∀ W', Below q w W' → ∀ i, i < 13 → W'.cell? ⟨b, o + i, none⟩ = some (.int .u8 ((xs.getD i 0).toNat : Int)) from by
      obtain ⟨b', o', e', hb', hc⟩ := HB.out (by rw [HL0.out]; omega)
      cases e'
      rw [HQ.out] at hb'
      exact ⟨hb', fun W' hW i hi => (hW.cell (p := ⟨b, o + i, none⟩) hb').trans (hc i (by rw [HL0.out]; exact hi))⟩)
    obtain ⟨z, hz⟩ : ∃ z, (xs.getD 12 0).toNat = z := ⟨_, rfl⟩
    have cz : W.cell? ⟨b, o + 12, none⟩ = some (.int .u8 (z : Int)) := by have := HBY.out.2 W HBL.out 12 (by omega); rw [hz] at this; exact this
    by_cases hz90 : z = 90
    · subst hz90
      have HZZ := Lib.hid hz
      have HV2 := Lib.hid (show Tma w (W.alloc (.cells #[.int .i64 0, .int .i64 0, .int .i64 0, .int .i64 0, .int .i64 0, .int .i64 0] 91)) q (tmC 23 xs 0) from
        ⟨HV.out.grew (grew_alloc (grew_refl _ none) _) (by simp), Whole.new_of _ _ _ (HZ.out.symm), HBL.out.trans (grew_below (grew_alloc (grew_refl _ none) _) (by rw [HZ.out]; omega) (fun _ h => by cases h))⟩)
      have HZ2 := Lib.hid (show q + 1 < (W.alloc (.cells #[.int .i64 0, .int .i64 0, .int .i64 0, .int .i64 0, .int .i64 0, .int .i64 0] 91)).heap.size by simp; rw [HZ.out]; omega)
      have hWs : W.heap.size = q + 1 := HZ.out
      clear hz
      go_upto_region 5 with (fail)
      clear hWs cz
      generalize W.alloc (.cells #[.int .i64 0, .int .i64 0, .int .i64 0, .int .i64 0, .int .i64 0, .int .i64 0] 91) = W2 at *
      go_upto_region 7 with (fail)
      clear HV HBL HZ
      go_loopw [8, 9, 29] (fun bb ee i wr => ∃ (j B E : Nat), j ≤ 6 ∧ i = .int .i64 j ∧ bb = .int .i64 B ∧ ee = .int .i64 E ∧ Hid (B = bgn 2 j ∧ E = 2 + 2 * j) ∧ Hid (∀ k, k < j → 0 ≤ tyR 23 xs k) ∧ Hid (Tma w wr q (tmC 23 xs j)) ∧ Hid (q + 1 < wr.heap.size)) (fun _ _ i _ => 6 - (intOf i).toNat)
      case atStart => exact ⟨0, 0, 2, Nat.zero_le _, rfl, rfl, rfl, Lib.hid ⟨rfl, rfl⟩, Lib.hid (fun k h => by omega), HV2, HZ2⟩
      case round =>
        obtain ⟨j, B, E, hj, rfl, rfl, rfl, hBE, hpos, hT, hsz⟩ := hrel
        have hjI : (j : Int) ≤ 6 := by omega
        by_cases hlt : j < 6
        · have hltI : (j : Int) < 6 := by omega
          have hlen2 : B < E ∧ E ≤ 12 ∧ E - B ≤ 4 ∧ 0 < E - B := by
            obtain ⟨e1, e2⟩ := hBE.out
            unfold bgn at e1
            split at e1 <;> omega
          have hty : dgs ((xs.drop B).take (E - B)) = tyR 23 xs j := by
            obtain ⟨e1, e2⟩ := hBE.out
            unfold bgn at e1
            unfold tyR
            split at e1
            · rename_i h0
              rw [if_pos h0, e1, e2, h0]
              rfl
            · rename_i h0
              rw [if_neg h0]
              unfold tyP
              rw [show tyN 23 = 2 from rfl, show 2 + 2 * j - 2 = B from e1.symm, show E - B = 2 by omega]
          have hyl : ((xs.drop B).take (E - B)).length = E - B := by rw [List.length_take, List.length_drop, HL0.out]; omega
          have hsl := slice_at wr b o 13 c B E hlen2.1 (by have := HC.out; omega)
          have hdec := decimal_any wr (some ⟨b, o + B, none⟩) (c - B) ((xs.drop B).take (E - B)) (byt_sub (byt_below HB.out (HQ.out.symm ▸ hT.out.bel) (by rw [HQ.out]; exact Nat.le_refl _)) |> fun h => byt_up h (by rw [HQ.out]; have := hsz.out; omega)) (by rw [hyl]; exact hlen2.2.2.1)
          rw [hyl, hty] at hdec
          have HP := Lib.hid hlen2.2.2.2
          have hEI : (E : Int) ≤ 12 := by omega
          have HBE2 := Lib.hid (show E = bgn 2 (j + 1) ∧ E + 2 = 2 + 2 * (j + 1) by
            obtain ⟨e1, e2⟩ := hBE.out
            unfold bgn
            rw [if_neg (by omega)]
            omega)
          have hc0 := (hT.out.cur.cell j).trans (tmC_cell 23 xs j hlt)
          have hz0 := hT.out.cur.frozen j
          have HN := Lib.hid (tmC_next 23 xs j hlt)
          generalize hR : tyR 23 xs j = R at *
          have hRR := Lib.hid hR
          have HDEC := Lib.hid hdec
          clear hyl hty hlen2 hBE hdec hR
          by_cases hneg : 0 ≤ R
          · rw [if_pos hneg, decide_eq_true hneg] at HDEC
            have HT1 := Lib.hid (hT.out.store j (.int .i64 R))
            rw [HN.out] at HT1
            have hgo : Hid (∀ k, k < j + 1 → 0 ≤ tyR 23 xs k) := Lib.hid (fun k hk => by
              by_cases e : k = j
              · rw [e, hRR.out]; exact hneg
              · exact hpos.out k (by omega))
            have HS1 := Lib.hid (show q + 1 < (wr.setCell ⟨q + 1, j, none⟩ (.int .i64 R)).heap.size by have := hsz.out; simpa [World.setCell] using this)
            clear hneg hpos HN hT
            go_wp2_with fail
            refine HDEC.out.mono ?_
            rintro e w1 ⟨rfl, hw⟩
            obtain rfl : wr = w1 := hw.symm
            clear hw HDEC
            go_wp2_with fail
            go_roundw
            case rel => exact ⟨j + 1, E, E + 2, hlt, rfl, rfl, rfl, HBE2, hgo, HT1, HS1⟩
            case measure => simp [intOf]; omega
          · rw [if_neg hneg, decide_eq_false hneg] at HDEC
            have HNO := Lib.hid (tyok_neg hlt (by rw [hRR.out]; exact hneg))
            obtain ⟨⟨r0, r1, r2, r3, r4, r5⟩, hr0⟩ := res_cells hT.out.res
            clear hneg hpos HN hc0 hz0
            go_wp2_with fail
            refine HDEC.out.mono ?_
            rintro e w1 ⟨rfl, hw⟩
            obtain rfl : wr = w1 := hw.symm
            clear hw HDEC
            go_wp2_with fail
            exact rt_leave hT.out.res hT.out.bel 0 0 0 0 0 0 _ false rfl rfl rfl (fun hb => time_no HNO.out (by rw [HQ.out]; exact hb))
        · obtain rfl : j = 6 := by omega
          have hcur : Tma w wr q #[.int .i64 (tyR 23 xs 0), .int .i64 (tyR 23 xs 1), .int .i64 (tyR 23 xs 2), .int .i64 (tyR 23 xs 3), .int .i64 (tyR 23 xs 4), .int .i64 (tyR 23 xs 5)] := by
            have := hT.out
            simpa [tmC, tmc] using this
          have HOK := Lib.hid (tyok_eq (tag := 23) HL0.out HZZ.out hpos.out)
          clear hBE hj hlt hjI
          have hYB : 0 ≤ tyR 23 xs 0 ∧ tyR 23 xs 0 ≤ 99 := by
            refine ⟨hpos.out 0 (by omega), ?_⟩
            have := dgs_lt (xs.take 2)
            have h2 : (xs.take 2).length = 2 := by rw [List.length_take, HL0.out]; rfl
            rw [h2] at this
            have h3 : dgs (xs.take 2) < 100 := this
            show dgs (xs.take 2) ≤ 99
            omega
          have hwy := wholeyear_any wr (tyR 23 xs 0) hYB.1 hYB.2
          have hY0 : 0 ≤ tyY 23 (tyR 23 xs 0) := by unfold tyY; rw [if_pos rfl]; split <;> omega
          have HT3 := Lib.hid (hcur.store 0 (.int .i64 (tyY 23 (tyR 23 xs 0))))
          have HS3 := Lib.hid (show q + 1 < (wr.setCell ⟨q + 1, 0, none⟩ (.int .i64 (tyY 23 (tyR 23 xs 0)))).heap.size by have := hsz.out; simpa [World.setCell] using this)
          obtain ⟨⟨k0, k1, k2, k3, k4, k5⟩, hz0⟩ := hcur.cells
          have HW := Lib.hid hwy
          have HY0 := Lib.hid hY0
          have HY00 := Lib.hid hYB
          have HVV := Lib.hid (show tyV 23 xs 0 = tyY 23 (tyR 23 xs 0) from rfl)
          clear hcur hpos hT hwy hYB hsz hY0
          generalize tyR 23 xs 0 = v0 at *
          generalize tyY 23 v0 = Y at *
          go_wp2_with fail
          refine HW.out.mono ?_
          rintro e w1 ⟨rfl, hw⟩
          obtain rfl : wr = w1 := hw.symm
          clear hw HW
          go_upto_region 17 with (fail)
          clear k0 k1 k2 k3 k4 k5 hz0
          generalize wr.setCell ⟨q + 1, 0, none⟩ (.int .i64 Y) = W3 at *
          have HT4 := Lib.hid (show Tma w W3 q #[.int .i64 Y, .int .i64 (tyR 23 xs 1), .int .i64 (tyR 23 xs 2), .int .i64 (tyR 23 xs 3), .int .i64 (tyR 23 xs 4), .int .i64 (tyR 23 xs 5)] from HT3.out)
          clear HT3
          have hmo := ismoment_any W3 Y (tyR 23 xs 1) (tyR 23 xs 2) (tyR 23 xs 3) (tyR 23 xs 4) (tyR 23 xs 5) HY0.out
          have hrb : decide (1 ≤ tyR 23 xs 1 ∧ tyR 23 xs 1 ≤ 12 ∧ 1 ≤ tyR 23 xs 2 ∧ tyR 23 xs 2 ≤ dys Y (tyR 23 xs 1) ∧ tyR 23 xs 3 ≤ 23 ∧ tyR 23 xs 4 ≤ 59 ∧ tyR 23 xs 5 ≤ 59) = tyOk 23 xs := by rw [HOK.out, HVV.out]; rfl
          rw [hrb] at hmo
          have hly : tyL 23 xs = [Y, tyR 23 xs 1, tyR 23 xs 2, tyR 23 xs 3, tyR 23 xs 4, tyR 23 xs 5] := by unfold tyL; rw [HVV.out]; rfl
          have HLY := Lib.hid hly
          obtain ⟨⟨k0, k1, k2, k3, k4, k5⟩, hz0⟩ := HT4.out.cells
          have HMO := Lib.hid hmo
          clear hmo hrb hly HVV HOK
          generalize tyR 23 xs 1 = v1 at *
          generalize tyR 23 xs 2 = v2 at *
          generalize tyR 23 xs 3 = v3 at *
          generalize tyR 23 xs 4 = v4 at *
          generalize tyR 23 xs 5 = v5 at *
          obtain ⟨R, hR⟩ : ∃ R, tyOk 23 xs = R := ⟨_, rfl⟩
          rw [hR] at HMO
          have HRR := Lib.hid hR
          clear hR
          go_wp2_with fail
          refine HMO.out.mono ?_
          rintro e W4 ⟨rfl, hB4⟩
          have HT5 := Lib.hid (HT4.out.under hB4 HS3.out)
          clear k0 k1 k2 k3 k4 k5 hz0 HMO hB4 HT4 HS3
          obtain ⟨⟨k0, k1, k2, k3, k4, k5⟩, hz0⟩ := HT5.out.cells
          obtain ⟨⟨r0, r1, r2, r3, r4, r5⟩, hr0⟩ := res_cells HT5.out.res
          cases R with
          | false =>
            go_wp2_with fail
            exact rt_leave HT5.out.res HT5.out.bel 0 0 0 0 0 0 _ false rfl rfl rfl (fun hb => time_no HRR.out (by rw [HQ.out]; exact hb))
          | true =>
            go_wp2_with fail
            exact rt_leave HT5.out.res HT5.out.bel Y v1 v2 v3 v4 v5 _ true rfl rfl rfl (fun hb => ⟨by rw [HRR.out, HLY.out]; rfl, by rw [HQ.out]; exact hb⟩)
    · have hzf : ((z : Int) != 90) = true := bne_iff_ne.2 (by omega)
      have HNO := Lib.hid (tyok_z (tag := 23) (xs := xs) (by rw [show tyN 23 + 10 = 12 from rfl, hz]; exact hz90))
      obtain ⟨⟨r0, r1, r2, r3, r4, r5⟩, hr0⟩ := res_cells HV.out
      clear hz hz90
      go_wp2_with fail
      exact rt_leave HV.out HBL.out 0 0 0 0 0 0 _ false rfl rfl rfl (fun hb => time_no HNO.out (by rw [HQ.out]; exact hb))
  · have hlf : ((L : Int) != 13) = true := bne_iff_ne.2 (by omega)
    have HNO := Lib.hid (tyok_len (tag := 23) (xs := xs) (by rw [HL0.out]; exact hlen))
    obtain ⟨⟨r0, r1, r2, r3, r4, r5⟩, hr0⟩ := res_cells HV.out
    clear hlen
    go_wp2_with fail
    exact rt_leave HV.out HBL.out 0 0 0 0 0 0 _ false rfl rfl rfl (fun hb => time_no HNO.out (by rw [HQ.out]; exact hb))


set_option maxRecDepth 100000 in
set_option maxHeartbeats 4000000 in
theorem readtime24 (w : World) (A : Option Addr) (c : Nat) (xs : List UInt8) (hb : Byt w w.heap.size A xs) (hl : xs.length ≤ c) (hm : xs.length ≤ 140737488351232) :
    Calls Tryd.prog 70 #[.int .i64 4, .slice A xs.length c] w (TimePost w 24 xs) := by
  obtain ⟨L, hL⟩ : ∃ L, xs.length = L := ⟨_, rfl⟩
  rw [hL] at hl hm ⊢
  have HL0 := Lib.hid hL
  have HB := Lib.hid hb
  have HC := Lib.hid hl
  have hLI : (L : Int) ≤ 140737488351232 := by omega
  clear hb hL hl hm
  have HV := Lib.hid (show Whole (w.alloc (.cells #[.int .i64 0, .int .i64 0, .int .i64 0, .int .i64 0, .int .i64 0, .int .i64 0] 91)) w.heap.size #[.int .i64 0, .int .i64 0, .int .i64 0, .int .i64 0, .int .i64 0, .int .i64 0] 91 from Whole.new _ _ _)
  have HG := Lib.hid (show Grew w (w.alloc (.cells #[.int .i64 0, .int .i64 0, .int .i64 0, .int .i64 0, .int .i64 0, .int .i64 0] 91)) none from grew_alloc (grew_refl _ _) _)
  have HZ := Lib.hid (show (w.alloc (.cells #[.int .i64 0, .int .i64 0, .int .i64 0, .int .i64 0, .int .i64 0, .int .i64 0] 91)).heap.size = w.heap.size + 1 by simp)
  go_enter Tryd.func70, Tryd.ntmps70
  go_upto_region 1 with (fail)
  generalize w.alloc (.cells #[.int .i64 0, .int .i64 0, .int .i64 0, .int .i64 0, .int .i64 0, .int .i64 0] 91) = W at *
  obtain ⟨q, hq⟩ : ∃ q, w.heap.size = q := ⟨_, rfl⟩
  rw [hq] at HV HZ ⊢
  have HQ := Lib.hid hq
  have HBL := Lib.hid (show Below q w W from hq ▸ grew_below HG.out (Nat.le_refl _) (fun _ h => by cases h))
  clear hq HG
  by_cases hlen : L = 15
  · subst hlen
    obtain ⟨b, o, rfl, -, -⟩ := HB.out (by rw [HL0.out]; omega)
    have HBY := Lib.hid (show b < q ∧ ∀ W', Below q w W' → ∀ i, i < 15 → W'.cell? ⟨b, o + i, none⟩ = some (.int .u8 ((xs.getD i 0).toNat : Int)) from by
      obtain ⟨b', o', e', hb', hc⟩ := HB.out (by rw [HL0.out]; omega)
      cases e'
      rw [HQ.out] at hb'
      exact ⟨hb', fun W' hW i hi => (hW.cell (p := ⟨b, o + i, none⟩) hb').trans (hc i (by rw [HL0.out]; exact hi))⟩)
    obtain ⟨z, hz⟩ : ∃ z, (xs.getD 14 0).toNat = z := ⟨_, rfl⟩
    have cz : W.cell? ⟨b, o + 14, none⟩ = some (.int .u8 (z : Int)) := by have := HBY.out.2 W HBL.out 14 (by omega); rw [hz] at this; exact this
    by_cases hz90 : z = 90
    · subst hz90
      have HZZ := Lib.hid hz
      have HV2 := Lib.hid (show Tma w (W.alloc (.cells #[.int .i64 0, .int .i64 0, .int .i64 0, .int .i64 0, .int .i64 0, .int .i64 0] 91)) q (tmC 24 xs 0) from
        ⟨HV.out.grew (grew_alloc (grew_refl _ none) _) (by simp), Whole.new_of _ _ _ (HZ.out.symm), HBL.out.trans (grew_below (grew_alloc (grew_refl _ none) _) (by rw [HZ.out]; omega) (fun _ h => by cases h))⟩)
      have HZ2 := Lib.hid (show q + 1 < (W.alloc (.cells #[.int .i64 0, .int .i64 0, .int .i64 0, .int .i64 0, .int .i64 0, .int .i64 0] 91)).heap.size by simp; rw [HZ.out]; omega)
      have hWs : W.heap.size = q + 1 := HZ.out
      clear hz
      go_upto_region 5 with (fail)
      clear hWs cz
      generalize W.alloc (.cells #[.int .i64 0, .int .i64 0, .int .i64 0, .int .i64 0, .int .i64 0, .int .i64 0] 91) = W2 at *
      go_upto_region 7 with (fail)
      clear HV HBL HZ
      go_loopw [8, 9, 29] (fun bb ee i wr => ∃ (j B E : Nat), j ≤ 6 ∧ i = .int .i64 j ∧ bb = .int .i64 B ∧ ee = .int .i64 E ∧ Hid (B = bgn 4 j ∧ E = 4 + 2 * j) ∧ Hid (∀ k, k < j → 0 ≤ tyR 24 xs k) ∧ Hid (Tma w wr q (tmC 24 xs j)) ∧ Hid (q + 1 < wr.heap.size)) (fun _ _ i _ => 6 - (intOf i).toNat)
      case atStart => exact ⟨0, 0, 4, Nat.zero_le _, rfl, rfl, rfl, Lib.hid ⟨rfl, rfl⟩, Lib.hid (fun k h => by omega), HV2, HZ2⟩
      case round =>
        obtain ⟨j, B, E, hj, rfl, rfl, rfl, hBE, hpos, hT, hsz⟩ := hrel
        have hjI : (j : Int) ≤ 6 := by omega
        by_cases hlt : j < 6
        · have hltI : (j : Int) < 6 := by omega
          have hlen2 : B < E ∧ E ≤ 14 ∧ E - B ≤ 4 ∧ 0 < E - B := by
            obtain ⟨e1, e2⟩ := hBE.out
            unfold bgn at e1
            split at e1 <;> omega
          have hty : dgs ((xs.drop B).take (E - B)) = tyR 24 xs j := by
            obtain ⟨e1, e2⟩ := hBE.out
            unfold bgn at e1
            unfold tyR
            split at e1
            · rename_i h0
              rw [if_pos h0, e1, e2, h0]
              rfl
            · rename_i h0
              rw [if_neg h0]
              unfold tyP
              rw [show tyN 24 = 4 from rfl, show 4 + 2 * j - 2 = B from e1.symm, show E - B = 2 by omega]
          have hyl : ((xs.drop B).take (E - B)).length = E - B := by rw [List.length_take, List.length_drop, HL0.out]; omega
          have hsl := slice_at wr b o 15 c B E hlen2.1 (by have := HC.out; omega)
          have hdec := decimal_any wr (some ⟨b, o + B, none⟩) (c - B) ((xs.drop B).take (E - B)) (byt_sub (byt_below HB.out (HQ.out.symm ▸ hT.out.bel) (by rw [HQ.out]; exact Nat.le_refl _)) |> fun h => byt_up h (by rw [HQ.out]; have := hsz.out; omega)) (by rw [hyl]; exact hlen2.2.2.1)
          rw [hyl, hty] at hdec
          have HP := Lib.hid hlen2.2.2.2
          have hEI : (E : Int) ≤ 14 := by omega
          have HBE2 := Lib.hid (show E = bgn 4 (j + 1) ∧ E + 2 = 4 + 2 * (j + 1) by
            obtain ⟨e1, e2⟩ := hBE.out
            unfold bgn
            rw [if_neg (by omega)]
            omega)
          have hc0 := (hT.out.cur.cell j).trans (tmC_cell 24 xs j hlt)
          have hz0 := hT.out.cur.frozen j
          have HN := Lib.hid (tmC_next 24 xs j hlt)
          generalize hR : tyR 24 xs j = R at *
          have hRR := Lib.hid hR
          have HDEC := Lib.hid hdec
          clear hyl hty hlen2 hBE hdec hR
          by_cases hneg : 0 ≤ R
          · rw [if_pos hneg, decide_eq_true hneg] at HDEC
            have HT1 := Lib.hid (hT.out.store j (.int .i64 R))
            rw [HN.out] at HT1
            have hgo : Hid (∀ k, k < j + 1 → 0 ≤ tyR 24 xs k) := Lib.hid (fun k hk => by
              by_cases e : k = j
              · rw [e, hRR.out]; exact hneg
              · exact hpos.out k (by omega))
            have HS1 := Lib.hid (show q + 1 < (wr.setCell ⟨q + 1, j, none⟩ (.int .i64 R)).heap.size by have := hsz.out; simpa [World.setCell] using this)
            clear hneg hpos HN hT
            go_wp2_with fail
            refine HDEC.out.mono ?_
            rintro e w1 ⟨rfl, hw⟩
            obtain rfl : wr = w1 := hw.symm
            clear hw HDEC
            go_wp2_with fail
            go_roundw
            case rel => exact ⟨j + 1, E, E + 2, hlt, rfl, rfl, rfl, HBE2, hgo, HT1, HS1⟩
            case measure => simp [intOf]; omega
          · rw [if_neg hneg, decide_eq_false hneg] at HDEC
            have HNO := Lib.hid (tyok_neg hlt (by rw [hRR.out]; exact hneg))
            obtain ⟨⟨r0, r1, r2, r3, r4, r5⟩, hr0⟩ := res_cells hT.out.res
            clear hneg hpos HN hc0 hz0
            go_wp2_with fail
            refine HDEC.out.mono ?_
            rintro e w1 ⟨rfl, hw⟩
            obtain rfl : wr = w1 := hw.symm
            clear hw HDEC
            go_wp2_with fail
            exact rt_leave hT.out.res hT.out.bel 0 0 0 0 0 0 _ false rfl rfl rfl (fun hb => time_no HNO.out (by rw [HQ.out]; exact hb))
        · obtain rfl : j = 6 := by omega
          have hcur : Tma w wr q #[.int .i64 (tyR 24 xs 0), .int .i64 (tyR 24 xs 1), .int .i64 (tyR 24 xs 2), .int .i64 (tyR 24 xs 3), .int .i64 (tyR 24 xs 4), .int .i64 (tyR 24 xs 5)] := by
            have := hT.out
            simpa [tmC, tmc] using this
          have HOK := Lib.hid (tyok_eq (tag := 24) HL0.out HZZ.out hpos.out)
          clear hBE hj hlt hjI
          have HT4 := Lib.hid hcur
          have HY0 := Lib.hid (hpos.out 0 (by omega))
          have HS3 := Lib.hid hsz.out
          have HVV := Lib.hid (show tyV 24 xs 0 = tyR 24 xs 0 from rfl)
          clear hcur hpos hT hsz
          generalize tyR 24 xs 0 = Y at *
          go_upto_region 17 with (fail)
          obtain ⟨W3, hW3⟩ : ∃ W3, W3 = wr := ⟨_, rfl⟩
          subst hW3
          have hmo := ismoment_any W3 Y (tyR 24 xs 1) (tyR 24 xs 2) (tyR 24 xs 3) (tyR 24 xs 4) (tyR 24 xs 5) HY0.out
          have hrb : decide (1 ≤ tyR 24 xs 1 ∧ tyR 24 xs 1 ≤ 12 ∧ 1 ≤ tyR 24 xs 2 ∧ tyR 24 xs 2 ≤ dys Y (tyR 24 xs 1) ∧ tyR 24 xs 3 ≤ 23 ∧ tyR 24 xs 4 ≤ 59 ∧ tyR 24 xs 5 ≤ 59) = tyOk 24 xs := by rw [HOK.out, HVV.out]; rfl
          rw [hrb] at hmo
          have hly : tyL 24 xs = [Y, tyR 24 xs 1, tyR 24 xs 2, tyR 24 xs 3, tyR 24 xs 4, tyR 24 xs 5] := by unfold tyL; rw [HVV.out]; rfl
          have HLY := Lib.hid hly
          obtain ⟨⟨k0, k1, k2, k3, k4, k5⟩, hz0⟩ := HT4.out.cells
          have HMO := Lib.hid hmo
          clear hmo hrb hly HVV HOK
          generalize tyR 24 xs 1 = v1 at *
          generalize tyR 24 xs 2 = v2 at *
          generalize tyR 24 xs 3 = v3 at *
          generalize tyR 24 xs 4 = v4 at *
          generalize tyR 24 xs 5 = v5 at *
          obtain ⟨R, hR⟩ : ∃ R, tyOk 24 xs = R := ⟨_, rfl⟩
          rw [hR] at HMO
          have HRR := Lib.hid hR
          clear hR
          go_wp2_with fail
          refine HMO.out.mono ?_
          rintro e W4 ⟨rfl, hB4⟩
          have HT5 := Lib.hid (HT4.out.under hB4 HS3.out)
          clear k0 k1 k2 k3 k4 k5 hz0 HMO hB4 HT4 HS3
          obtain ⟨⟨k0, k1, k2, k3, k4, k5⟩, hz0⟩ := HT5.out.cells
          obtain ⟨⟨r0, r1, r2, r3, r4, r5⟩, hr0⟩ := res_cells HT5.out.res
          cases R with
          | false =>
            go_wp2_with fail
            exact rt_leave HT5.out.res HT5.out.bel 0 0 0 0 0 0 _ false rfl rfl rfl (fun hb => time_no HRR.out (by rw [HQ.out]; exact hb))
          | true =>
            go_wp2_with fail
            exact rt_leave HT5.out.res HT5.out.bel Y v1 v2 v3 v4 v5 _ true rfl rfl rfl (fun hb => ⟨by rw [HRR.out, HLY.out]; rfl, by rw [HQ.out]; exact hb⟩)
    · have hzf : ((z : Int) != 90) = true := bne_iff_ne.2 (by omega)
      have HNO := Lib.hid (tyok_z (tag := 24) (xs := xs) (by rw [show tyN 24 + 10 = 14 from rfl, hz]; exact hz90))
      obtain ⟨⟨r0, r1, r2, r3, r4, r5⟩, hr0⟩ := res_cells HV.out
      clear hz hz90
      go_wp2_with fail
      exact rt_leave HV.out HBL.out 0 0 0 0 0 0 _ false rfl rfl rfl (fun hb => time_no HNO.out (by rw [HQ.out]; exact hb))
  · have hlf : ((L : Int) != 15) = true := bne_iff_ne.2 (by omega)
    have HNO := Lib.hid (tyok_len (tag := 24) (xs := xs) (by rw [HL0.out]; exact hlen))
    obtain ⟨⟨r0, r1, r2, r3, r4, r5⟩, hr0⟩ := res_cells HV.out
    clear hlen
    go_wp2_with fail
    exact rt_leave HV.out HBL.out 0 0 0 0 0 0 _ false rfl rfl rfl (fun hb => time_no HNO.out (by rw [HQ.out]; exact hb))

end Go.Proofs.YtnjnghbonmdbdaaDoor


/- A region that draws its order, by an invariant: whatever comes up keeps it. -/
namespace Go.Proofs.YtnjnghbonmdbdaaDoor
open Go.RowKit

section
variable {P : Program} {ops : Array Oper} {Q : Exit → Act → World → Prop}

theorem ready_at {listed : Array Bool} {i : Nat} (h : i ∈ Region.ready .any ops listed) :
    ∃ o, ops[i]? = some o ∧ listed.getD i true = false ∧ ∀ e ∈ o.after, Region.binds .any e = true → listed.getD e.on false = true := by
  unfold Region.ready at h
  rw [List.mem_filter] at h
  obtain ⟨_, h2⟩ := h
  rw [Bool.and_eq_true] at h2
  obtain ⟨h3, h4⟩ := h2
  cases ho : ops[i]? with
  | none => rw [ho] at h4; simp at h4
  | some o =>
    rw [ho] at h4
    refine ⟨o, rfl, by simpa using h3, fun e he hb => ?_⟩
    simp at h4
    obtain ⟨k, hk, rfl⟩ := Array.mem_iff_getElem.1 he
    have := h4 k hk
    rw [hb] at this
    simpa using this

/-- How many have not come up yet. -/
def left (listed : Array Bool) : Nat := listed.toList.count false
theorem left_step {listed : Array Bool} {i : Nat} (h : listed.getD i true = false) : left (listed.setIfInBounds i true) + 1 = left listed := by
  have hi : i < listed.size := by
    rcases Nat.lt_or_ge i listed.size with h1 | h1
    · exact h1
    · rw [Array.getD_eq_getD_getElem?, Array.getElem?_eq_none h1] at h; cases h
  have hv : listed[i] = false := by
    rw [Array.getD_eq_getD_getElem?, Array.getElem?_eq_getElem hi] at h; exact h
  unfold left
  rw [Array.toList_setIfInBounds, List.count_set (by simpa using hi)]
  have h1 : listed.toList[i]'(by simpa using hi) = false := by simpa using hv
  have hm : false ∈ listed.toList := by rw [← h1]; exact List.getElem_mem _
  have := List.count_pos_iff.2 hm
  rw [if_pos (by rw [h1]; rfl), if_neg (by decide)]
  omega
theorem left_none {listed : Array Bool} (h : left listed = 0) (i : Nat) : listed.getD i true = true := by
  unfold left at h
  rw [List.count_eq_zero] at h
  rw [Array.getD_eq_getD_getElem?]
  cases hi : listed[i]? with
  | none => rfl
  | some b =>
    have : b ∈ listed.toList := by
      rw [Array.mem_toList_iff]
      exact Array.mem_of_getElem? hi
    cases b with
    | true => rfl
    | false => exact absurd this h
theorem ready_none {listed : Array Bool} (h : left listed = 0) : Region.ready .any ops listed = [] := by
  rw [List.eq_nil_iff_forall_not_mem]
  intro i hi
  obtain ⟨o, _, h2, _⟩ := ready_at hi
  rw [left_none h] at h2
  cases h2

/-- What waits only for what stands ahead of it: while something is left, something may come up. -/
theorem ready_some {listed : Array Bool} (hs : listed.size = ops.size) (hd : ∀ (i : Nat) (o : Oper), ops[i]? = some o → ∀ e ∈ o.after, e.on < i) (h : left listed ≠ 0) : Region.ready .any ops listed ≠ [] := by
  have hex : ∃ i, listed.getD i true = false := by
    apply Classical.byContradiction
    intro hn
    apply h
    unfold left
    rw [List.count_eq_zero]
    intro hm
    obtain ⟨i, hi, e⟩ := List.mem_iff_getElem.1 hm
    refine hn ⟨i, ?_⟩
    rw [Array.getD_eq_getD_getElem?, Array.getElem?_eq_getElem (by simpa using hi)]
    simpa using e
  have : ∀ n, (∃ i, i < n ∧ listed.getD i true = false) → ∃ i, listed.getD i true = false ∧ ∀ j, j < i → listed.getD j true = true := by
    intro n
    induction n with
    | zero => rintro ⟨i, hi, _⟩; omega
    | succ n ih =>
      rintro ⟨i, hi, hv⟩
      by_cases hl : ∃ i, i < n ∧ listed.getD i true = false
      · exact ih hl
      · refine ⟨i, hv, fun j hj => ?_⟩
        cases hc : listed.getD j true with
        | true => rfl
        | false => exact absurd ⟨j, by omega, hc⟩ hl
  obtain ⟨i0, h0⟩ := hex
  obtain ⟨i, hi, hmin⟩ := this (i0 + 1) ⟨i0, by omega, h0⟩
  have hlt : i < ops.size := by
    rw [← hs]
    rcases Nat.lt_or_ge i listed.size with h1 | h1
    · exact h1
    · rw [Array.getD_eq_getD_getElem?, Array.getElem?_eq_none h1] at hi; cases hi
  have ho : ops[i]? = some ops[i] := Array.getElem?_eq_getElem hlt
  intro hnil
  have hmem : i ∈ Region.ready .any ops listed := by
    unfold Region.ready
    rw [List.mem_filter]
    refine ⟨List.mem_range.2 hlt, ?_⟩
    rw [hi, ho]
    simp only [Bool.not_false, Option.map_some, Option.getD_some, Bool.true_and, Array.all_eq_true']
    intro e he
    have hle := hd i _ ho e he
    have := hmin e.on hle
    have hlt2 : e.on < listed.size := by omega
    rw [Array.getD_eq_getD_getElem?, Array.getElem?_eq_getElem hlt2] at this
    rw [Array.getD_eq_getD_getElem?, Array.getElem?_eq_getElem hlt2]
    simp only [Option.getD_some] at this ⊢
    rw [this]
    simp
  rw [hnil] at hmem
  cases hmem

/-- **A region that draws its order, by an invariant.** -/
theorem wpAny_inv (I : Array Bool → Act → World → Prop) (hd : ∀ (i : Nat) (o : Oper), ops[i]? = some o → ∀ e ∈ o.after, e.on < i)
    (hs : ∀ listed a w, I listed a w → listed.size = ops.size)
    (step : ∀ (listed : Array Bool) (a : Act) (w : World) (i : Nat) (o : Oper), I listed a w → ops[i]? = some o → listed.getD i true = false → (∀ e ∈ o.after, Region.binds .any e = true → listed.getD e.on false = true) →
      ∀ K : Act → World → Prop, (∀ a' w', I (listed.setIfInBounds i true) a' w' → K a' w') → if Region.wanted o (yielded ops a.tmps) = true then Oper.wp P o a w K Q else K (a.put o.dst undef) w)
    (done : ∀ (listed : Array Bool) (a : Act) (w : World), I listed a w → left listed = 0 → Q .normal a w) :
    ∀ (fuel : Nat) (listed : Array Bool) (a : Act) (w : World), left listed = fuel → I listed a w → wpAny P .any ops Q fuel listed a w := by
  intro fuel
  induction fuel with
  | zero => intro listed a w hl hI; exact ⟨ready_none hl, done listed a w hI hl⟩
  | succ fuel ih =>
    intro listed a w hl hI
    refine ⟨fun h => absurd h (ready_some (hs _ _ _ hI) hd (by omega)), fun i hi => ?_⟩
    obtain ⟨o, ho, hn, hd⟩ := ready_at hi
    refine wpOp_step ho fun K hK => step listed a w i o hI ho hn hd K fun a' w' hI' => hK a' w' (ih _ a' w' ?_ hI')
    have := left_step hn
    omega
end

section
variable {P : Program} {ops : Array Oper} {o : Oper} {a : Act} {Q : Exit → Act → World → Prop} {K : Act → World → Prop}
theorem iv_run (hg : o.guard = none) {v : Value} {w w' : World} (hr : (execOp a.eval o).run P w = .ok (.value v) w')
    (h : K (a.put o.dst v) w') : if Region.wanted o (yielded ops a.tmps) = true then Oper.wp P o a w K Q else K (a.put o.dst undef) w := by
  rw [if_pos (by simp [Region.wanted, hg])]
  unfold Oper.wp
  rw [hr]
  exact h
theorem iv_skip (hg : o.guard = none) {w w' : World} (hr : (execOp a.eval o).run P w = .ok .skip w')
    (h : K (a.put o.dst undef) w') : if Region.wanted o (yielded ops a.tmps) = true then Oper.wp P o a w K Q else K (a.put o.dst undef) w := by
  rw [if_pos (by simp [Region.wanted, hg])]
  unfold Oper.wp
  rw [hr]
  exact h
theorem iv_call {f : FuncId} {vs : Array Value} (hg : o.guard = none) {w : World} (hr : (execOp a.eval o).run P w = .ok (.enter f vs) w)
    (h : Calls P f vs w fun e w' => ∃ v, e = .returned v ∧ K (a.put o.dst v) w') : if Region.wanted o (yielded ops a.tmps) = true then Oper.wp P o a w K Q else K (a.put o.dst undef) w := by
  rw [if_pos (by simp [Region.wanted, hg])]
  unfold Oper.wp
  rw [hr]
  exact h.mono fun e w' ⟨v, he, hk⟩ => by subst he; exact hk
end
end Go.Proofs.YtnjnghbonmdbdaaDoor


/- The operations of the region that makes the rows, one by one (laid by tools/rows.py out of the program's print). -/
namespace Go.Proofs.YtnjnghbonmdbdaaDoor
open Go.RowKit Go.Maps

def rowsR_0 : Oper := { dst := some 3, op := Op.makeMap 111 none, type := 111, pos := "row.go:12", after := #[], guard := none }
def rowsR_1 : Oper := { dst := some 4, op := Op.build 109 #[(0, Operand.func 63)], type := 109, pos := "row.go:12", after := #[], guard := none }
def rowsR_2 : Oper := { dst := none, op := Op.insert 111 (Operand.tmp 3) (Operand.const (Value.int IntKind.i64 1)) (Operand.tmp 4), type := 0, pos := "row.go:12", after := #[{ on := 0, ground := Ground.data }, { on := 1, ground := Ground.data }], guard := none }
def rowsR_3 : Oper := { dst := some 5, op := Op.build 109 #[(0, Operand.func 64)], type := 109, pos := "row.go:12", after := #[], guard := none }
def rowsR_4 : Oper := { dst := none, op := Op.insert 111 (Operand.tmp 3) (Operand.const (Value.int IntKind.i64 2)) (Operand.tmp 5), type := 0, pos := "row.go:12", after := #[{ on := 0, ground := Ground.data }, { on := 3, ground := Ground.data }], guard := none }
def rowsR_5 : Oper := { dst := some 6, op := Op.build 109 #[(0, Operand.func 65)], type := 109, pos := "row.go:12", after := #[], guard := none }
def rowsR_6 : Oper := { dst := none, op := Op.insert 111 (Operand.tmp 3) (Operand.const (Value.int IntKind.i64 3)) (Operand.tmp 6), type := 0, pos := "row.go:12", after := #[{ on := 0, ground := Ground.data }, { on := 5, ground := Ground.data }], guard := none }
def rowsR_7 : Oper := { dst := some 7, op := Op.build 109 #[(0, Operand.func 62)], type := 109, pos := "row.go:12", after := #[], guard := none }
def rowsR_8 : Oper := { dst := none, op := Op.insert 111 (Operand.tmp 3) (Operand.const (Value.int IntKind.i64 4)) (Operand.tmp 7), type := 0, pos := "row.go:12", after := #[{ on := 0, ground := Ground.data }, { on := 7, ground := Ground.data }], guard := none }
def rowsR_9 : Oper := { dst := some 8, op := Op.build 109 #[(0, Operand.func 66)], type := 109, pos := "row.go:12", after := #[], guard := none }
def rowsR_10 : Oper := { dst := none, op := Op.insert 111 (Operand.tmp 3) (Operand.const (Value.int IntKind.i64 5)) (Operand.tmp 8), type := 0, pos := "row.go:12", after := #[{ on := 0, ground := Ground.data }, { on := 9, ground := Ground.data }], guard := none }
def rowsR_11 : Oper := { dst := some 9, op := Op.build 109 #[(0, Operand.func 67)], type := 109, pos := "row.go:12", after := #[], guard := none }
def rowsR_12 : Oper := { dst := none, op := Op.insert 111 (Operand.tmp 3) (Operand.const (Value.int IntKind.i64 6)) (Operand.tmp 9), type := 0, pos := "row.go:12", after := #[{ on := 0, ground := Ground.data }, { on := 11, ground := Ground.data }], guard := none }
def rowsR_13 : Oper := { dst := some 10, op := Op.build 109 #[(0, Operand.func 64)], type := 109, pos := "row.go:12", after := #[], guard := none }
def rowsR_14 : Oper := { dst := none, op := Op.insert 111 (Operand.tmp 3) (Operand.const (Value.int IntKind.i64 10)) (Operand.tmp 10), type := 0, pos := "row.go:12", after := #[{ on := 0, ground := Ground.data }, { on := 13, ground := Ground.data }], guard := none }
def rowsR_15 : Oper := { dst := some 11, op := Op.load 109 (Operand.tmp 1), type := 109, pos := "row.go:12", after := #[], guard := none }
def rowsR_16 : Oper := { dst := none, op := Op.insert 111 (Operand.tmp 3) (Operand.const (Value.int IntKind.i64 12)) (Operand.tmp 11), type := 0, pos := "row.go:12", after := #[{ on := 0, ground := Ground.data }, { on := 15, ground := Ground.data }], guard := none }
def rowsR_17 : Oper := { dst := some 12, op := Op.load 109 (Operand.tmp 1), type := 109, pos := "row.go:12", after := #[], guard := none }
def rowsR_18 : Oper := { dst := none, op := Op.insert 111 (Operand.tmp 3) (Operand.const (Value.int IntKind.i64 18)) (Operand.tmp 12), type := 0, pos := "row.go:12", after := #[{ on := 0, ground := Ground.data }, { on := 17, ground := Ground.data }], guard := none }
def rowsR_19 : Oper := { dst := some 13, op := Op.load 109 (Operand.tmp 1), type := 109, pos := "row.go:12", after := #[], guard := none }
def rowsR_20 : Oper := { dst := none, op := Op.insert 111 (Operand.tmp 3) (Operand.const (Value.int IntKind.i64 19)) (Operand.tmp 13), type := 0, pos := "row.go:12", after := #[{ on := 0, ground := Ground.data }, { on := 19, ground := Ground.data }], guard := none }
def rowsR_21 : Oper := { dst := some 14, op := Op.load 109 (Operand.tmp 1), type := 109, pos := "row.go:12", after := #[], guard := none }
def rowsR_22 : Oper := { dst := none, op := Op.insert 111 (Operand.tmp 3) (Operand.const (Value.int IntKind.i64 20)) (Operand.tmp 14), type := 0, pos := "row.go:12", after := #[{ on := 0, ground := Ground.data }, { on := 21, ground := Ground.data }], guard := none }
def rowsR_23 : Oper := { dst := some 15, op := Op.load 109 (Operand.tmp 1), type := 109, pos := "row.go:12", after := #[], guard := none }
def rowsR_24 : Oper := { dst := none, op := Op.insert 111 (Operand.tmp 3) (Operand.const (Value.int IntKind.i64 22)) (Operand.tmp 15), type := 0, pos := "row.go:12", after := #[{ on := 0, ground := Ground.data }, { on := 23, ground := Ground.data }], guard := none }
def rowsR_25 : Oper := { dst := some 16, op := Op.call { callee := Callee.value (Operand.func 68), args := #[Operand.const (Value.int IntKind.i64 2)], argTypes := #[3] }, type := 109, pos := "row.go:25", after := #[], guard := none }
def rowsR_26 : Oper := { dst := none, op := Op.insert 111 (Operand.tmp 3) (Operand.const (Value.int IntKind.i64 23)) (Operand.tmp 16), type := 0, pos := "row.go:12", after := #[{ on := 0, ground := Ground.data }, { on := 25, ground := Ground.data }], guard := none }
def rowsR_27 : Oper := { dst := some 17, op := Op.call { callee := Callee.value (Operand.func 68), args := #[Operand.const (Value.int IntKind.i64 4)], argTypes := #[3] }, type := 109, pos := "row.go:26", after := #[{ on := 25, ground := Ground.chain }], guard := none }
def rowsR_28 : Oper := { dst := none, op := Op.insert 111 (Operand.tmp 3) (Operand.const (Value.int IntKind.i64 24)) (Operand.tmp 17), type := 0, pos := "row.go:12", after := #[{ on := 0, ground := Ground.data }, { on := 27, ground := Ground.data }], guard := none }
def rowsR_29 : Oper := { dst := some 18, op := Op.load 109 (Operand.tmp 1), type := 109, pos := "row.go:12", after := #[], guard := none }
def rowsR_30 : Oper := { dst := none, op := Op.insert 111 (Operand.tmp 3) (Operand.const (Value.int IntKind.i64 26)) (Operand.tmp 18), type := 0, pos := "row.go:12", after := #[{ on := 0, ground := Ground.data }, { on := 29, ground := Ground.data }], guard := none }
def rowsR_31 : Oper := { dst := some 19, op := Op.load 109 (Operand.tmp 1), type := 109, pos := "row.go:12", after := #[], guard := none }
def rowsR_32 : Oper := { dst := none, op := Op.insert 111 (Operand.tmp 3) (Operand.const (Value.int IntKind.i64 28)) (Operand.tmp 19), type := 0, pos := "row.go:12", after := #[{ on := 0, ground := Ground.data }, { on := 31, ground := Ground.data }], guard := none }
def rowsR_33 : Oper := { dst := some 20, op := Op.load 109 (Operand.tmp 1), type := 109, pos := "row.go:12", after := #[], guard := none }
def rowsR_34 : Oper := { dst := none, op := Op.insert 111 (Operand.tmp 3) (Operand.const (Value.int IntKind.i64 30)) (Operand.tmp 20), type := 0, pos := "row.go:12", after := #[{ on := 0, ground := Ground.data }, { on := 33, ground := Ground.data }], guard := none }
def rowsR_35 : Oper := { dst := some 21, op := Op.move (Operand.tmp 3), type := 111, pos := "row.go:12", after := #[{ on := 0, ground := Ground.data }, { on := 1, ground := Ground.data }, { on := 2, ground := Ground.data }, { on := 3, ground := Ground.data }, { on := 4, ground := Ground.data }, { on := 5, ground := Ground.data }, { on := 6, ground := Ground.data }, { on := 7, ground := Ground.data }, { on := 8, ground := Ground.data }, { on := 9, ground := Ground.data }, { on := 10, ground := Ground.data }, { on := 11, ground := Ground.data }, { on := 12, ground := Ground.data }, { on := 13, ground := Ground.data }, { on := 14, ground := Ground.data }, { on := 15, ground := Ground.data }, { on := 16, ground := Ground.data }, { on := 17, ground := Ground.data }, { on := 18, ground := Ground.data }, { on := 19, ground := Ground.data }, { on := 20, ground := Ground.data }, { on := 21, ground := Ground.data }, { on := 22, ground := Ground.data }, { on := 23, ground := Ground.data }, { on := 24, ground := Ground.data }, { on := 25, ground := Ground.data }, { on := 26, ground := Ground.data }, { on := 27, ground := Ground.data }, { on := 28, ground := Ground.data }, { on := 29, ground := Ground.data }, { on := 30, ground := Ground.data }, { on := 31, ground := Ground.data }, { on := 32, ground := Ground.data }, { on := 33, ground := Ground.data }, { on := 34, ground := Ground.data }], guard := none }
def rowsR_36 : Oper := { dst := some 0, op := Op.assign (Operand.tmp 21), type := 111, pos := "row.go:12", after := #[{ on := 35, ground := Ground.data }, { on := 27, ground := Ground.chain }, { on := 0, ground := Ground.phase }, { on := 1, ground := Ground.phase }, { on := 2, ground := Ground.phase }, { on := 3, ground := Ground.phase }, { on := 4, ground := Ground.phase }, { on := 5, ground := Ground.phase }, { on := 6, ground := Ground.phase }, { on := 7, ground := Ground.phase }, { on := 8, ground := Ground.phase }, { on := 9, ground := Ground.phase }, { on := 10, ground := Ground.phase }, { on := 11, ground := Ground.phase }, { on := 12, ground := Ground.phase }, { on := 13, ground := Ground.phase }, { on := 14, ground := Ground.phase }, { on := 15, ground := Ground.phase }, { on := 16, ground := Ground.phase }, { on := 17, ground := Ground.phase }, { on := 18, ground := Ground.phase }, { on := 19, ground := Ground.phase }, { on := 20, ground := Ground.phase }, { on := 21, ground := Ground.phase }, { on := 22, ground := Ground.phase }, { on := 23, ground := Ground.phase }, { on := 24, ground := Ground.phase }, { on := 25, ground := Ground.phase }, { on := 26, ground := Ground.phase }, { on := 27, ground := Ground.phase }, { on := 28, ground := Ground.phase }, { on := 29, ground := Ground.phase }, { on := 30, ground := Ground.phase }, { on := 31, ground := Ground.phase }, { on := 32, ground := Ground.phase }, { on := 33, ground := Ground.phase }, { on := 34, ground := Ground.phase }, { on := 35, ground := Ground.phase }], guard := none }
def rowsR : Array Oper := #[rowsR_0, rowsR_1, rowsR_2, rowsR_3, rowsR_4, rowsR_5, rowsR_6, rowsR_7, rowsR_8, rowsR_9, rowsR_10, rowsR_11, rowsR_12, rowsR_13, rowsR_14, rowsR_15, rowsR_16, rowsR_17, rowsR_18, rowsR_19, rowsR_20, rowsR_21, rowsR_22, rowsR_23, rowsR_24, rowsR_25, rowsR_26, rowsR_27, rowsR_28, rowsR_29, rowsR_30, rowsR_31, rowsR_32, rowsR_33, rowsR_34, rowsR_35, rowsR_36]
end Go.Proofs.YtnjnghbonmdbdaaDoor


/- The rows of tags: the region that makes them, in whatever order. -/
namespace Go.Proofs.YtnjnghbonmdbdaaDoor
open Go.RowKit Go.Maps

/-- The tags; how many digits a tag's year has; what asks its bytes. -/
def tgs : List Int := [1, 2, 3, 4, 5, 6, 10, 12, 18, 19, 20, 22, 23, 24, 26, 28, 30]
def tgA (j : Nat) : Int := tgs.getD j 0
def ydg (t : Int) : Int := if t = 23 then 2 else if t = 24 then 4 else 0
def rwFn (t : Int) : Nat := if t = 1 then 63 else if t = 2 ∨ t = 10 then 64 else if t = 3 then 65 else if t = 5 then 66 else if t = 6 then 67 else 62
theorem tgA_inj {i j : Nat} (hi : i < 17) (hj : j < 17) (h : tgA i = tgA j) : i = j := by
  have : ∀ a : Fin 17, ∀ b : Fin 17, tgA a.1 = tgA b.1 → a.1 = b.1 := by decide +kernel
  exact this ⟨i, hi⟩ ⟨j, hj⟩ h
theorem tgA_mem {t : Int} (h : t ∈ tgs) : ∃ j, j < 17 ∧ tgA j = t := by
  obtain ⟨i, hi, e⟩ := List.mem_iff_getElem.1 h
  exact ⟨i, hi, by unfold tgA; rw [List.getD_eq_getElem?_getD, List.getElem?_eq_getElem hi, ← e]; rfl⟩
theorem mem_tgA {j : Nat} (h : j < 17) : tgA j ∈ tgs := by
  have : ∀ a : Fin 17, tgA a.1 ∈ tgs := by decide +kernel
  exact this ⟨j, h⟩

/-- A tag's row. -/
def RwOf (w : World) (t : Int) (v : Value) : Prop :=
  if t = 23 ∨ t = 24 then ∃ p, v = .agg #[.func (.func 69) #[] #[.pointer (some ⟨p, 0, none⟩)], .int .i64 (ydg t)] ∧ Whole w p #[.int .i64 (ydg t)] 3
  else v = .agg #[.func (.func (rwFn t)) #[] #[], .int .i64 0]
theorem RwOf.grew {w w' : World} {t : Int} {v : Value} (h : RwOf w t v) (g : Grew w w' none) : RwOf w' t v := by
  unfold RwOf at *
  split
  · rename_i ht
    rw [if_pos ht] at h
    obtain ⟨p, hv, hp⟩ := h
    exact ⟨p, hv, hp.grew g (by simp)⟩
  · rename_i ht
    rw [if_neg ht] at h
    exact h
theorem RwOf.own {w w' : World} {t : Int} {v : Value} {q : Nat} {es : Array MapEntry} {k : Nat} (h : RwOf w t v) (hq : w.heap[q]? = some (.map es k)) (g : Grew w w' (some q)) : RwOf w' t v := by
  unfold RwOf at *
  split
  · rename_i ht
    rw [if_pos ht] at h
    obtain ⟨p, hv, hp⟩ := h
    refine ⟨p, hv, hp.grew g (fun e => ?_)⟩
    have e' : p = q := by simpa using e
    have hp' : w.heap[p]? = some (.cells #[.int .i64 (ydg t)] 3 (0, 0)) := hp
    rw [e', hq] at hp'
    cases hp'
  · rename_i ht
    rw [if_neg ht] at h
    exact h

/-- Block q is a map of at most n rows. -/
abbrev RK (w : World) (q n : Nat) (D : DataW Value) : Prop := w.ownsMap (H := Value) Tryd.prog 3 (fun v => some (.held v, [])) q n D
theorem RK.at {w : World} {q n : Nat} {D : DataW Value} (h : RK w q n D) : ∃ es k, w.heap[q]? = some (.map es k) := by
  obtain ⟨es, k, hb, _⟩ := h
  exact ⟨es, k, hb⟩

structure RwI (W0 : World) (q1 : Nat) (listed : Array Bool) (a : Act) (w : World) : Prop where
  grew : Grew W0 w none
  sz : a.tmps.size = 22
  dfr : a.defers = []
  szl : listed.size = 37
  one : a.eval (.tmp 1) = .pointer (some ⟨q1, 0, none⟩)
  vals : ∀ j, j < 17 → listed.getD (2 * j + 1) false = true → RwOf w (tgA j) (a.eval (.tmp (j + 4)))
  map : listed.getD 0 false = true → ∃ q n D, a.eval (.tmp 3) = .map (some q) ∧ W0.heap.size ≤ q ∧ RK w q n D ∧ n + left listed ≤ 37 ∧ (∀ j, j < 17 → Maps.has D (.int .i64 (tgA j)) = listed.getD (2 * j + 2) false) ∧ (∀ t, t ∉ tgs → Maps.has D (.int .i64 t) = false) ∧
    ∀ j, j < 17 → listed.getD (2 * j + 2) false = true → ∃ v, (∀ z, D.atKey (.int .i64 (tgA j)) z = .held v) ∧ RwOf w (tgA j) v
  dep : ∀ j, j < 17 → listed.getD (2 * j + 2) false = true → listed.getD 0 false = true
  mv : listed.getD 35 false = true → listed.getD 0 false = true ∧ a.eval (.tmp 21) = a.eval (.tmp 3)
  asn : listed.getD 36 false = true → listed.getD 35 false = true ∧ a.eval (.tmp 0) = a.eval (.tmp 3)

theorem getD_put_same {listed : Array Bool} {i : Nat} (h : i < listed.size) : (listed.setIfInBounds i true).getD i false = true := by
  rw [Array.getD_eq_getD_getElem?, Array.getElem?_setIfInBounds_self_of_lt h]; rfl
theorem getD_put_ne {listed : Array Bool} {i j : Nat} (h : i ≠ j) (d : Bool) : (listed.setIfInBounds i true).getD j d = listed.getD j d := by
  rw [Array.getD_eq_getD_getElem?, Array.getElem?_setIfInBounds_ne h, ← Array.getD_eq_getD_getElem?]
theorem evs (a : Act) (n : Nat) (v : Value) (h : n < a.tmps.size) : (a.put (some n) v).eval (.tmp n) = v := by simp [Act.put, Act.eval, h]
theorem evn (a : Act) {m n : Nat} (v : Value) (h : m ≠ n) : (a.put (some m) v).eval (.tmp n) = a.eval (.tmp n) := by simp [Act.put, Act.eval, h]
theorem evz (a : Act) (n : Nat) (v : Value) : (a.put (some n) v).tmps.size = a.tmps.size := by simp [Act.put]
theorem unl {listed : Array Bool} {i : Nat} (h : listed.getD i true = false) : i < listed.size ∧ listed.getD i false = false := by
  have hi : i < listed.size := by
    rcases Nat.lt_or_ge i listed.size with h1 | h1
    · exact h1
    · rw [Array.getD_eq_getD_getElem?, Array.getElem?_eq_none h1] at h; cases h
  refine ⟨hi, ?_⟩
  rw [Array.getD_eq_getD_getElem?, Array.getElem?_eq_getElem hi] at h ⊢
  exact h

section
variable {W0 : World} {q1 : Nat} {listed : Array Bool} {a : Act} {w : World}
/-- A row that is worked out. -/
theorem RwI.val (I : RwI W0 q1 listed a w) {j : Nat} (hj : j < 17) (hn : listed.getD (2 * j + 1) true = false) {w' : World} {v : Value} (hv : RwOf w' (tgA j) v) (g : Grew w w' none) :
    RwI W0 q1 (listed.setIfInBounds (2 * j + 1) true) (a.put (some (j + 4)) v) w' := by
  have hl := left_step hn
  obtain ⟨hb, hf⟩ := unl hn
  refine ⟨grew_trans I.grew g, (evz _ _ _).trans I.sz, I.dfr, by simp [I.szl], (evn _ _ (by omega)).trans I.one, fun j' hj' h => ?_, fun h => ?_, ?dep, fun h => ?_, fun h => ?_⟩
  case dep =>
    intro i hi h
    rw [getD_put_ne (by omega)] at h ⊢
    exact I.dep i hi h
  · by_cases e : j' = j
    · subst e
      rw [evs _ _ _ (by rw [I.sz]; omega)]
      exact hv
    · rw [getD_put_ne (by omega)] at h
      rw [evn _ _ (by omega)]
      exact (I.vals j' hj' h).grew g
  · rw [getD_put_ne (by omega)] at h
    obtain ⟨q, n, D, h1, h2, h3, h4, h5, h6, h7⟩ := I.map h
    refine ⟨q, n, D, (evn _ _ (by omega)).trans h1, h2, World.ownsMap.kept h3 g (by simp), by omega, fun i hi => ?_, h6, fun i hi hh => ?_⟩
    · rw [getD_put_ne (by omega)]; exact h5 i hi
    · rw [getD_put_ne (by omega)] at hh
      obtain ⟨u, h8, h9⟩ := h7 i hi hh
      exact ⟨u, h8, h9.grew g⟩
  · rw [getD_put_ne (by omega)] at h
    rw [getD_put_ne (by omega), evn _ _ (by omega), evn _ _ (by omega)]
    exact I.mv h
  · rw [getD_put_ne (by omega)] at h
    rw [getD_put_ne (by omega), evn _ _ (by omega), evn _ _ (by omega)]
    exact I.asn h

/-- The map. -/
theorem RwI.made (I : RwI W0 q1 listed a w) (hn : listed.getD 0 true = false) :
    RwI W0 q1 (listed.setIfInBounds 0 true) (a.put (some 3) (.map (some w.heap.size))) (w.alloc (.map #[] 0)) := by
  have hl := left_step hn
  obtain ⟨hb, hf⟩ := unl hn
  have hu : ∀ j, j < 17 → listed.getD (2 * j + 2) false = false := fun j hj => by
    cases hc : listed.getD (2 * j + 2) false with
    | false => rfl
    | true => rw [I.dep j hj hc] at hf; cases hf
  have g : Grew w (w.alloc (.map #[] 0)) none := grew_alloc (grew_refl _ _) _
  have hle : left listed ≤ 37 := by
    unfold left
    have h1 := List.count_le_length (a := false) (l := listed.toList)
    have h2 := I.szl
    have h3 : listed.toList.length = listed.size := rfl
    omega
  refine ⟨grew_trans I.grew g, (evz _ _ _).trans I.sz, I.dfr, by simp [I.szl], (evn _ _ (by omega)).trans I.one, fun j' hj' h => ?_, fun h => ?_, ?dep, fun h => ?_, fun h => ?_⟩
  case dep => exact fun i hi h => getD_put_same hb
  · rw [getD_put_ne (by omega)] at h
    rw [evn _ _ (by omega)]
    exact (I.vals j' hj' h).grew g
  · refine ⟨w.heap.size, 0, .map [], evs _ _ _ (by rw [I.sz]; omega), I.grew.size, World.ownsMap_made _ _ _ _, by omega, fun i hi => ?_, fun t ht => rfl, fun i hi hh => ?_⟩
    · rw [getD_put_ne (by omega), hu i hi]; rfl
    · rw [getD_put_ne (by omega), hu i hi] at hh; cases hh
  · rw [getD_put_ne (by omega)] at h
    obtain ⟨h1, _⟩ := I.mv h
    rw [hf] at h1
    cases h1
  · rw [getD_put_ne (by omega)] at h
    obtain ⟨h1, _⟩ := I.asn h
    obtain ⟨h2, _⟩ := I.mv h1
    rw [hf] at h2
    cases h2

set_option maxRecDepth 100000 in
theorem int_law : Keyed Tryd.prog 3 := int_keyed Tryd.underlying3
theorem tg_wf {j : Nat} (h : j < 17) : (Lit.int .i64 (tgA j)).wf = true := by
  have : ∀ a : Fin 17, (Lit.int .i64 (tgA a.1)).wf = true := by decide +kernel
  exact this ⟨j, h⟩
theorem isKey (t : Int) : WideAt.IsKeyLit (.int .i64 t) := by
  first | exact trivial | (unfold WideAt.IsKeyLit; simp)

/-- A row that is laid in the map. -/
theorem RwI.ins (I : RwI W0 q1 listed a w) {j : Nat} (hj : j < 17) (hn : listed.getD (2 * j + 2) true = false) (h0 : listed.getD 0 false = true) (h1 : listed.getD (2 * j + 1) false = true) :
    ∃ q w', a.eval (.tmp 3) = .map (some q) ∧ (Instr.mapUpdate 111 (.map (some q)) (.int .i64 (tgA j)) (a.eval (.tmp (j + 4)))).run Tryd.prog w = .ok () w' ∧ RwI W0 q1 (listed.setIfInBounds (2 * j + 2) true) a w' := by
  have hl := left_step hn
  obtain ⟨hb, hf⟩ := unl hn
  obtain ⟨q, n, D, k1, k2, k3, k4, k5, k6, k7⟩ := I.map h0
  obtain ⟨es, ck, hq⟩ := RK.at k3
  obtain ⟨w', hr, ho, g⟩ := World.ownsMap.update k3 int_law Tryd.underlying111 (by unfold maxLen; omega) (key := .int .i64 (tgA j)) (val := a.eval (.tmp (j + 4))) (keyOf_int_mk Tryd.underlying3 (tg_wf hj)) rfl
  have hm := World.ownsMap.isMap k3
  refine ⟨q, w', k1, hr, grew_own I.grew g k2, I.sz, I.dfr, by simp [I.szl], I.one, fun j' hj' h => ?_, fun h => ?_, ?dep, fun h => ?_, fun h => ?_⟩
  case dep => exact fun i hi h => by rw [getD_put_ne (by omega)]; exact h0
  · rw [getD_put_ne (by omega)] at h
    exact (I.vals j' hj' h).own hq g
  · refine ⟨q, n + 1, _, k1, k2, ho, by omega, fun i hi => ?_, fun t ht => ?_, fun i hi hh => ?_⟩
    · by_cases e : i = j
      · subst e
        rw [Maps.has_put_same hm (isKey _), getD_put_same hb]
      · rw [Maps.has_put_other (fun h => by injection h with _ h; exact e (tgA_inj hi hj h)), getD_put_ne (by omega)]
        exact k5 i hi
    · rw [Maps.has_put_other (fun h => by injection h with _ h; exact ht (h ▸ mem_tgA hj))]
      exact k6 t ht
    · by_cases e : i = j
      · subst e
        exact ⟨_, fun z => Maps.atKey_put_same hm (isKey _) _ z, (I.vals i hi h1).own hq g⟩
      · rw [getD_put_ne (by omega)] at hh
        obtain ⟨u, h8, h9⟩ := k7 i hi hh
        exact ⟨u, fun z => (Maps.atKey_put_other (fun h => by injection h with _ h; exact e (tgA_inj hi hj h)) _ z).trans (h8 z), h9.own hq g⟩
  · rw [getD_put_ne (by omega)] at h
    rw [getD_put_ne (by omega)]
    exact I.mv h
  · rw [getD_put_ne (by omega)] at h
    rw [getD_put_ne (by omega)]
    exact I.asn h

theorem RwI.moved (I : RwI W0 q1 listed a w) (hn : listed.getD 35 true = false) (h0 : listed.getD 0 false = true) : RwI W0 q1 (listed.setIfInBounds 35 true) (a.put (some 21) (a.eval (.tmp 3))) w := by
  have hl := left_step hn
  obtain ⟨hb, hf⟩ := unl hn
  refine ⟨I.grew, (evz _ _ _).trans I.sz, I.dfr, by simp [I.szl], (evn _ _ (by omega)).trans I.one, fun j' hj' h => ?_, fun h => ?_, ?dep, fun h => ?_, fun h => ?_⟩
  case dep =>
    intro i hi h
    rw [getD_put_ne (by omega)] at h ⊢
    exact I.dep i hi h
  · rw [getD_put_ne (by omega)] at h
    rw [evn _ _ (by omega)]
    exact I.vals j' hj' h
  · rw [getD_put_ne (by omega)] at h
    obtain ⟨q, n, D, h1, h2, h3, h4, h5, h6, h7⟩ := I.map h
    refine ⟨q, n, D, (evn _ _ (by omega)).trans h1, h2, h3, by omega, fun i hi => ?_, h6, fun i hi hh => ?_⟩
    · rw [getD_put_ne (by omega)]; exact h5 i hi
    · rw [getD_put_ne (by omega)] at hh
      exact h7 i hi hh
  · rw [getD_put_ne (by omega), evs _ _ _ (by rw [I.sz]; omega), evn _ _ (by omega)]
    exact ⟨h0, rfl⟩
  · rw [getD_put_ne (by omega)] at h
    obtain ⟨h1, _⟩ := I.asn h
    rw [hf] at h1
    cases h1
theorem RwI.given (I : RwI W0 q1 listed a w) (hn : listed.getD 36 true = false) (h5 : listed.getD 35 false = true) : RwI W0 q1 (listed.setIfInBounds 36 true) (a.put (some 0) (a.eval (.tmp 21))) w := by
  have hl := left_step hn
  obtain ⟨hb, hf⟩ := unl hn
  refine ⟨I.grew, (evz _ _ _).trans I.sz, I.dfr, by simp [I.szl], (evn _ _ (by omega)).trans I.one, fun j' hj' h => ?_, fun h => ?_, ?dep, fun h => ?_, fun h => ?_⟩
  case dep =>
    intro i hi h
    rw [getD_put_ne (by omega)] at h ⊢
    exact I.dep i hi h
  · rw [getD_put_ne (by omega)] at h
    rw [evn _ _ (by omega)]
    exact I.vals j' hj' h
  · rw [getD_put_ne (by omega)] at h
    obtain ⟨q, n, D, h1, h2, h3, h4, h5, h6, h7⟩ := I.map h
    refine ⟨q, n, D, (evn _ _ (by omega)).trans h1, h2, h3, by omega, fun i hi => ?_, h6, fun i hi hh => ?_⟩
    · rw [getD_put_ne (by omega)]; exact h5 i hi
    · rw [getD_put_ne (by omega)] at hh
      exact h7 i hi hh
  · rw [getD_put_ne (by omega)] at h
    rw [getD_put_ne (by omega), evn _ _ (by omega), evn _ _ (by omega)]
    exact I.mv h
  · rw [getD_put_ne (by omega), evs _ _ _ (by rw [I.sz]; omega), evn _ _ (by omega)]
    exact ⟨h5, (I.mv h5).2⟩
end
end Go.Proofs.YtnjnghbonmdbdaaDoor


/- The rows of tags: the package's own map. -/
namespace Go.Proofs.YtnjnghbonmdbdaaDoor
open Go.RowKit Go.Maps

section
variable {ρ : Operand → Value} {o : Oper}
set_option maxRecDepth 100000 in
theorem run_rowb {f : FuncId} (ho : o.op = .build 109 #[(0, .func f)]) (hf : ρ (.func f) = .func (.func f) #[] #[]) (w : World) : (execOp ρ o).run Tryd.prog w = .ok (.value (.agg #[.func (.func f) #[] #[], .int .i64 0])) w := by
  simp [execOp, ho, hf, go_sem]
set_option maxRecDepth 100000 in
theorem run_rowl {q : Nat} (ho : o.op = .load 109 (.tmp 1)) (h1 : ρ (.tmp 1) = .pointer (some ⟨q, 0, none⟩)) {w : World} (h : Whole w q #[.func (.func 62) #[] #[], .int .i64 0] 109) : (execOp ρ o).run Tryd.prog w = .ok (.value (.agg #[.func (.func 62) #[] #[], .int .i64 0])) w := by
  have c0 : w.cell? ⟨q, 0, none⟩ = some (.func (.func 62) #[] #[]) := h.cell 0
  have c1 : w.cell? ⟨q, 1, none⟩ = some (.int .i64 0) := h.cell 1
  simp [execOp, ho, h1, go_sem, c0, c1]
set_option maxRecDepth 100000 in
theorem run_rowm (ho : o.op = .makeMap 111 none) (w : World) : (execOp ρ o).run Tryd.prog w = .ok (.value (.map (some w.heap.size))) (w.alloc (.map #[] 0)) := by
  simp [execOp, ho, go_sem, run_makeMap]
set_option maxRecDepth 100000 in
theorem run_rowi {t : Int} {x : Operand} {q : Nat} {v : Value} (ho : o.op = .insert 111 (.tmp 3) (.const (.int .i64 t)) x) (h3 : ρ (.tmp 3) = .map (some q)) (hc : ρ (.const (.int .i64 t)) = .int .i64 t) (hx : ρ x = v) {w w' : World}
    (hr : (Instr.mapUpdate 111 (.map (some q)) (.int .i64 t) v).run Tryd.prog w = .ok () w') : (execOp ρ o).run Tryd.prog w = .ok .skip w' := by
  simp [execOp, ho, h3, hc, hx, go_sem, hr, Result.andThen]
set_option maxRecDepth 100000 in
theorem run_rowt {n : Int} (ho : o.op = .call { callee := .value (.func 68), args := #[.const (.int .i64 n)], argTypes := #[3] }) (hf : ρ (.func 68) = .func (.func 68) #[] #[]) (hc : ρ (.const (.int .i64 n)) = .int .i64 n) (w : World) : (execOp ρ o).run Tryd.prog w = .ok (.enter 68 #[.int .i64 n]) w := by
  have hk : ∀ args w, (callFunc 68 args).run Tryd.prog w = .ok (.enter 68 args) w := fun _ _ => by kernel_rfl
  simp [execOp, ho, hf, hc, go_sem, hk]
theorem run_rowv {x : Operand} (ho : o.op = .move x ∨ o.op = .assign x) (w : World) : (execOp ρ o).run Tryd.prog w = .ok (.value (ρ x)) w := by
  rcases ho with ho | ho <;> simp [execOp, ho, go_sem]
end

theorem rows_dag : ∀ (i : Nat) (o : Oper), rowsR[i]? = some o → ∀ e ∈ o.after, e.on < i := by
  have key : ((List.range 37).all fun i => ((rowsR[i]?).map fun o => o.after.all fun e => decide (e.on < i)).getD true) = true := by decide +kernel
  intro i o ho e he
  have hi : i < 37 := by
    rcases Nat.lt_or_ge i 37 with h | h
    · exact h
    · rw [Array.getElem?_eq_none (by exact h)] at ho; cases ho
  have := List.all_eq_true.1 key i (List.mem_range.2 hi)
  rw [ho] at this
  simp only [Option.map_some, Option.getD_some, Array.all_eq_true'] at this
  simpa using this e he

theorem rw_plain {w : World} {t : Int} {f : Nat} (h : ¬ (t = 23 ∨ t = 24)) (hf : rwFn t = f) : RwOf w t (.agg #[.func (.func f) #[] #[], .int .i64 0]) := by
  unfold RwOf
  rw [if_neg h, hf]

set_option maxRecDepth 100000 in
set_option maxHeartbeats 1000000 in
theorem rows_step {W0 : World} {q1 : Nat} (hW : Whole W0 q1 #[.func (.func 62) #[] #[], .int .i64 0] 109) {Q : Exit → Act → World → Prop} (listed : Array Bool) (a : Act) (w : World) (i : Nat) (o : Oper) (I : RwI W0 q1 listed a w) (ho : rowsR[i]? = some o) (hn : listed.getD i true = false)
    (hd : ∀ e ∈ o.after, Region.binds .any e = true → listed.getD e.on false = true) (K : Act → World → Prop) (hK : ∀ a' w', RwI W0 q1 (listed.setIfInBounds i true) a' w' → K a' w') :
    if Region.wanted o (yielded rowsR a.tmps) = true then Oper.wp Tryd.prog o a w K Q else K (a.put o.dst undef) w := by
  have hi : i < 37 := by
    rcases Nat.lt_or_ge i 37 with h | h
    · exact h
    · rw [Array.getElem?_eq_none (by exact h)] at ho; cases ho
  have hw : Whole w q1 #[.func (.func 62) #[] #[], .int .i64 0] 109 := hW.grew I.grew (by simp)
  have key : i = 0 ∨ i = 1 ∨ i = 2 ∨ i = 3 ∨ i = 4 ∨ i = 5 ∨ i = 6 ∨ i = 7 ∨ i = 8 ∨ i = 9 ∨ i = 10 ∨ i = 11 ∨ i = 12 ∨ i = 13 ∨ i = 14 ∨ i = 15 ∨ i = 16 ∨ i = 17 ∨ i = 18 ∨ i = 19 ∨ i = 20 ∨ i = 21 ∨ i = 22 ∨ i = 23 ∨ i = 24 ∨ i = 25 ∨ i = 26 ∨ i = 27 ∨ i = 28 ∨ i = 29 ∨ i = 30 ∨ i = 31 ∨ i = 32 ∨ i = 33 ∨ i = 34 ∨ i = 35 ∨ i = 36 := by omega
  rcases key with rfl | rfl | rfl | rfl | rfl | rfl | rfl | rfl | rfl | rfl | rfl | rfl | rfl | rfl | rfl | rfl | rfl | rfl | rfl | rfl | rfl | rfl | rfl | rfl | rfl | rfl | rfl | rfl | rfl | rfl | rfl | rfl | rfl | rfl | rfl | rfl | rfl
  · obtain rfl : rowsR_0 = o := Option.some.inj ho
    exact iv_run rfl (run_rowm rfl w) (hK _ _ (I.made hn))
  · obtain rfl : rowsR_1 = o := Option.some.inj ho
    exact iv_run rfl (run_rowb rfl rfl w) (hK _ _ (I.val (j := 0) (by omega) hn (rw_plain (by decide) rfl) (grew_refl _ _)))
  · obtain rfl : rowsR_2 = o := Option.some.inj ho
    obtain ⟨q, w1, h1, h2, h3⟩ := I.ins (j := 0) (by omega) hn (hd { on := 0, ground := .data } (by simp [rowsR_2]) rfl) (hd { on := 1, ground := .data } (by simp [rowsR_2]) rfl)
    exact iv_skip rfl (run_rowi rfl h1 rfl rfl h2) (hK _ _ h3)
  · obtain rfl : rowsR_3 = o := Option.some.inj ho
    exact iv_run rfl (run_rowb rfl rfl w) (hK _ _ (I.val (j := 1) (by omega) hn (rw_plain (by decide) rfl) (grew_refl _ _)))
  · obtain rfl : rowsR_4 = o := Option.some.inj ho
    obtain ⟨q, w1, h1, h2, h3⟩ := I.ins (j := 1) (by omega) hn (hd { on := 0, ground := .data } (by simp [rowsR_4]) rfl) (hd { on := 3, ground := .data } (by simp [rowsR_4]) rfl)
    exact iv_skip rfl (run_rowi rfl h1 rfl rfl h2) (hK _ _ h3)
  · obtain rfl : rowsR_5 = o := Option.some.inj ho
    exact iv_run rfl (run_rowb rfl rfl w) (hK _ _ (I.val (j := 2) (by omega) hn (rw_plain (by decide) rfl) (grew_refl _ _)))
  · obtain rfl : rowsR_6 = o := Option.some.inj ho
    obtain ⟨q, w1, h1, h2, h3⟩ := I.ins (j := 2) (by omega) hn (hd { on := 0, ground := .data } (by simp [rowsR_6]) rfl) (hd { on := 5, ground := .data } (by simp [rowsR_6]) rfl)
    exact iv_skip rfl (run_rowi rfl h1 rfl rfl h2) (hK _ _ h3)
  · obtain rfl : rowsR_7 = o := Option.some.inj ho
    exact iv_run rfl (run_rowb rfl rfl w) (hK _ _ (I.val (j := 3) (by omega) hn (rw_plain (by decide) rfl) (grew_refl _ _)))
  · obtain rfl : rowsR_8 = o := Option.some.inj ho
    obtain ⟨q, w1, h1, h2, h3⟩ := I.ins (j := 3) (by omega) hn (hd { on := 0, ground := .data } (by simp [rowsR_8]) rfl) (hd { on := 7, ground := .data } (by simp [rowsR_8]) rfl)
    exact iv_skip rfl (run_rowi rfl h1 rfl rfl h2) (hK _ _ h3)
  · obtain rfl : rowsR_9 = o := Option.some.inj ho
    exact iv_run rfl (run_rowb rfl rfl w) (hK _ _ (I.val (j := 4) (by omega) hn (rw_plain (by decide) rfl) (grew_refl _ _)))
  · obtain rfl : rowsR_10 = o := Option.some.inj ho
    obtain ⟨q, w1, h1, h2, h3⟩ := I.ins (j := 4) (by omega) hn (hd { on := 0, ground := .data } (by simp [rowsR_10]) rfl) (hd { on := 9, ground := .data } (by simp [rowsR_10]) rfl)
    exact iv_skip rfl (run_rowi rfl h1 rfl rfl h2) (hK _ _ h3)
  · obtain rfl : rowsR_11 = o := Option.some.inj ho
    exact iv_run rfl (run_rowb rfl rfl w) (hK _ _ (I.val (j := 5) (by omega) hn (rw_plain (by decide) rfl) (grew_refl _ _)))
  · obtain rfl : rowsR_12 = o := Option.some.inj ho
    obtain ⟨q, w1, h1, h2, h3⟩ := I.ins (j := 5) (by omega) hn (hd { on := 0, ground := .data } (by simp [rowsR_12]) rfl) (hd { on := 11, ground := .data } (by simp [rowsR_12]) rfl)
    exact iv_skip rfl (run_rowi rfl h1 rfl rfl h2) (hK _ _ h3)
  · obtain rfl : rowsR_13 = o := Option.some.inj ho
    exact iv_run rfl (run_rowb rfl rfl w) (hK _ _ (I.val (j := 6) (by omega) hn (rw_plain (by decide) rfl) (grew_refl _ _)))
  · obtain rfl : rowsR_14 = o := Option.some.inj ho
    obtain ⟨q, w1, h1, h2, h3⟩ := I.ins (j := 6) (by omega) hn (hd { on := 0, ground := .data } (by simp [rowsR_14]) rfl) (hd { on := 13, ground := .data } (by simp [rowsR_14]) rfl)
    exact iv_skip rfl (run_rowi rfl h1 rfl rfl h2) (hK _ _ h3)
  · obtain rfl : rowsR_15 = o := Option.some.inj ho
    exact iv_run rfl (run_rowl rfl I.one hw) (hK _ _ (I.val (j := 7) (by omega) hn (rw_plain (by decide) rfl) (grew_refl _ _)))
  · obtain rfl : rowsR_16 = o := Option.some.inj ho
    obtain ⟨q, w1, h1, h2, h3⟩ := I.ins (j := 7) (by omega) hn (hd { on := 0, ground := .data } (by simp [rowsR_16]) rfl) (hd { on := 15, ground := .data } (by simp [rowsR_16]) rfl)
    exact iv_skip rfl (run_rowi rfl h1 rfl rfl h2) (hK _ _ h3)
  · obtain rfl : rowsR_17 = o := Option.some.inj ho
    exact iv_run rfl (run_rowl rfl I.one hw) (hK _ _ (I.val (j := 8) (by omega) hn (rw_plain (by decide) rfl) (grew_refl _ _)))
  · obtain rfl : rowsR_18 = o := Option.some.inj ho
    obtain ⟨q, w1, h1, h2, h3⟩ := I.ins (j := 8) (by omega) hn (hd { on := 0, ground := .data } (by simp [rowsR_18]) rfl) (hd { on := 17, ground := .data } (by simp [rowsR_18]) rfl)
    exact iv_skip rfl (run_rowi rfl h1 rfl rfl h2) (hK _ _ h3)
  · obtain rfl : rowsR_19 = o := Option.some.inj ho
    exact iv_run rfl (run_rowl rfl I.one hw) (hK _ _ (I.val (j := 9) (by omega) hn (rw_plain (by decide) rfl) (grew_refl _ _)))
  · obtain rfl : rowsR_20 = o := Option.some.inj ho
    obtain ⟨q, w1, h1, h2, h3⟩ := I.ins (j := 9) (by omega) hn (hd { on := 0, ground := .data } (by simp [rowsR_20]) rfl) (hd { on := 19, ground := .data } (by simp [rowsR_20]) rfl)
    exact iv_skip rfl (run_rowi rfl h1 rfl rfl h2) (hK _ _ h3)
  · obtain rfl : rowsR_21 = o := Option.some.inj ho
    exact iv_run rfl (run_rowl rfl I.one hw) (hK _ _ (I.val (j := 10) (by omega) hn (rw_plain (by decide) rfl) (grew_refl _ _)))
  · obtain rfl : rowsR_22 = o := Option.some.inj ho
    obtain ⟨q, w1, h1, h2, h3⟩ := I.ins (j := 10) (by omega) hn (hd { on := 0, ground := .data } (by simp [rowsR_22]) rfl) (hd { on := 21, ground := .data } (by simp [rowsR_22]) rfl)
    exact iv_skip rfl (run_rowi rfl h1 rfl rfl h2) (hK _ _ h3)
  · obtain rfl : rowsR_23 = o := Option.some.inj ho
    exact iv_run rfl (run_rowl rfl I.one hw) (hK _ _ (I.val (j := 11) (by omega) hn (rw_plain (by decide) rfl) (grew_refl _ _)))
  · obtain rfl : rowsR_24 = o := Option.some.inj ho
    obtain ⟨q, w1, h1, h2, h3⟩ := I.ins (j := 11) (by omega) hn (hd { on := 0, ground := .data } (by simp [rowsR_24]) rfl) (hd { on := 23, ground := .data } (by simp [rowsR_24]) rfl)
    exact iv_skip rfl (run_rowi rfl h1 rfl rfl h2) (hK _ _ h3)
  · obtain rfl : rowsR_25 = o := Option.some.inj ho
    exact iv_call rfl (run_rowt rfl rfl rfl w) ((timerow_any w 2).mono fun e w1 ⟨p, h1, _, h3, h4⟩ => ⟨_, h1, hK _ _ (I.val (j := 12) (by omega) hn (by unfold RwOf; rw [if_pos (by decide)]; exact ⟨p, rfl, h3⟩) h4)⟩)
  · obtain rfl : rowsR_26 = o := Option.some.inj ho
    obtain ⟨q, w1, h1, h2, h3⟩ := I.ins (j := 12) (by omega) hn (hd { on := 0, ground := .data } (by simp [rowsR_26]) rfl) (hd { on := 25, ground := .data } (by simp [rowsR_26]) rfl)
    exact iv_skip rfl (run_rowi rfl h1 rfl rfl h2) (hK _ _ h3)
  · obtain rfl : rowsR_27 = o := Option.some.inj ho
    exact iv_call rfl (run_rowt rfl rfl rfl w) ((timerow_any w 4).mono fun e w1 ⟨p, h1, _, h3, h4⟩ => ⟨_, h1, hK _ _ (I.val (j := 13) (by omega) hn (by unfold RwOf; rw [if_pos (by decide)]; exact ⟨p, rfl, h3⟩) h4)⟩)
  · obtain rfl : rowsR_28 = o := Option.some.inj ho
    obtain ⟨q, w1, h1, h2, h3⟩ := I.ins (j := 13) (by omega) hn (hd { on := 0, ground := .data } (by simp [rowsR_28]) rfl) (hd { on := 27, ground := .data } (by simp [rowsR_28]) rfl)
    exact iv_skip rfl (run_rowi rfl h1 rfl rfl h2) (hK _ _ h3)
  · obtain rfl : rowsR_29 = o := Option.some.inj ho
    exact iv_run rfl (run_rowl rfl I.one hw) (hK _ _ (I.val (j := 14) (by omega) hn (rw_plain (by decide) rfl) (grew_refl _ _)))
  · obtain rfl : rowsR_30 = o := Option.some.inj ho
    obtain ⟨q, w1, h1, h2, h3⟩ := I.ins (j := 14) (by omega) hn (hd { on := 0, ground := .data } (by simp [rowsR_30]) rfl) (hd { on := 29, ground := .data } (by simp [rowsR_30]) rfl)
    exact iv_skip rfl (run_rowi rfl h1 rfl rfl h2) (hK _ _ h3)
  · obtain rfl : rowsR_31 = o := Option.some.inj ho
    exact iv_run rfl (run_rowl rfl I.one hw) (hK _ _ (I.val (j := 15) (by omega) hn (rw_plain (by decide) rfl) (grew_refl _ _)))
  · obtain rfl : rowsR_32 = o := Option.some.inj ho
    obtain ⟨q, w1, h1, h2, h3⟩ := I.ins (j := 15) (by omega) hn (hd { on := 0, ground := .data } (by simp [rowsR_32]) rfl) (hd { on := 31, ground := .data } (by simp [rowsR_32]) rfl)
    exact iv_skip rfl (run_rowi rfl h1 rfl rfl h2) (hK _ _ h3)
  · obtain rfl : rowsR_33 = o := Option.some.inj ho
    exact iv_run rfl (run_rowl rfl I.one hw) (hK _ _ (I.val (j := 16) (by omega) hn (rw_plain (by decide) rfl) (grew_refl _ _)))
  · obtain rfl : rowsR_34 = o := Option.some.inj ho
    obtain ⟨q, w1, h1, h2, h3⟩ := I.ins (j := 16) (by omega) hn (hd { on := 0, ground := .data } (by simp [rowsR_34]) rfl) (hd { on := 33, ground := .data } (by simp [rowsR_34]) rfl)
    exact iv_skip rfl (run_rowi rfl h1 rfl rfl h2) (hK _ _ h3)
  · obtain rfl : rowsR_35 = o := Option.some.inj ho
    exact iv_run rfl (run_rowv (.inl rfl) w) (hK _ _ (I.moved hn (hd { on := 0, ground := .data } (by simp [rowsR_35]) rfl)))
  · obtain rfl : rowsR_36 = o := Option.some.inj ho
    exact iv_run rfl (run_rowv (.inr rfl) w) (hK _ _ (I.given hn (hd { on := 35, ground := .data } (by simp [rowsR_36]) rfl)))
end Go.Proofs.YtnjnghbonmdbdaaDoor


/- The rows of tags: what the package's map tells. -/
namespace Go.Proofs.YtnjnghbonmdbdaaDoor
open Go.RowKit Go.Maps

/-- Block q is the map of rows. -/
def RowsM (w : World) (q : Nat) : Prop := ∃ n D, RK w q n D ∧ (∀ t, t ∈ tgs → Maps.has D (.int .i64 t) = true ∧ ∃ v, (∀ z, D.atKey (.int .i64 t) z = .held v) ∧ RwOf w t v) ∧ ∀ t, t ∉ tgs → Maps.has D (.int .i64 t) = false

theorem none_yet (n i : Nat) : (Array.replicate n false).getD i false = false := by
  rw [Array.getD_eq_getD_getElem?, Array.getElem?_replicate]
  split <;> rfl
set_option maxRecDepth 100000 in
set_option maxHeartbeats 1000000 in
theorem rows_any (w : World) : Calls Tryd.prog 61 #[] w fun e w' => ∃ q, e = .returned (.map (some q)) ∧ RowsM w' q ∧ Grew w w' none := by
  have hW : Whole (w.alloc (.cells #[.func (.func 62) #[] #[], .int .i64 0] 109)) w.heap.size #[.func (.func 62) #[] #[], .int .i64 0] 109 := Whole.new _ _ _
  go_enter Tryd.func61, Tryd.ntmps61
  go_upto_region 2 with (fail)
  have HG := Lib.hid (show Grew w (w.alloc (.cells #[.func (.func 62) #[] #[], .int .i64 0] 109)) none from grew_alloc (grew_refl _ _) _)
  generalize w.alloc (.cells #[.func (.func 62) #[] #[], .int .i64 0] 109) = W0 at *
  generalize w.heap.size = q1 at *
  have hW2 : Whole W0.drew q1 #[.func (.func 62) #[] #[], .int .i64 0] 109 := hW
  refine Code.wp_mono (Q := fun e a' X => e = .normal ∧ ∃ listed, RwI W0.drew q1 listed a' X ∧ left listed = 0) (fun e a' X h => ?_) ?_
  · obtain ⟨rfl, listed, I, hl⟩ := h
    have all : ∀ i, i < 37 → listed.getD i false = true := fun i hi => by
      have := left_none hl i
      rw [Array.getD_eq_getD_getElem?, Array.getElem?_eq_getElem (by rw [I.szl]; exact hi)] at this ⊢
      exact this
    obtain ⟨q, n, D, h1, h2, h3, h4, h5, h6, h7⟩ := I.map (all 0 (by omega))
    have h0 : a'.tmps.getD 0 undef = .map (some q) := ((I.asn (all 36 (by omega))).2).trans h1
    have HR := Lib.hid (show RowsM X q from ⟨n, D, h3, fun t ht => by
      obtain ⟨j, hj, rfl⟩ := tgA_mem ht
      exact ⟨by rw [h5 j hj, all _ (by omega)], h7 j hj (all _ (by omega))⟩, h6⟩)
    have HX := Lib.hid (show Grew w X none from grew_trans (grew_drew HG.out) I.grew)
    have hd := I.dfr
    obtain ⟨tm, df⟩ := a'
    clear I all h1 h2 h3 h4 h5 h6 h7 hl hW hW2
    go_wp2_with fail
    refine bodyPost_ret (results_tmp rfl _ _ _) rfl ?_
    exact ⟨q, congrArg Ending.returned h0, HR.out, HX.out⟩
  · refine wp_region_any (by kernel_rfl) ?_
    refine wpAny_inv (ops := rowsR) (I := RwI W0.drew q1) rows_dag (fun _ _ _ I => I.szl) (rows_step hW2) (fun listed a w I hl => ⟨rfl, listed, I, hl⟩) _ _ _ _ rfl ?_
    refine ⟨grew_refl _ _, rfl, rfl, rfl, rfl, fun j hj h => ?_, fun h => ?_, fun j hj h => ?_, fun h => ?_, fun h => ?_⟩
    all_goals (rw [none_yet] at h; cases h)

set_option maxRecDepth 100000 in
theorem row_zero (w : World) : (zeroValue 109).run Tryd.prog w = .ok (.agg #[.nilFunc, .int .i64 0]) w := by kernel_rfl
theorem RowsM.look {w : World} {q : Nat} (h : RowsM w q) {t : Int} (ht : t ∈ tgs) :
    ∃ v, (Instr.lookup 111 (.map (some q)) (.int .i64 t) true).run Tryd.prog w = .ok (.tuple #[v, .bool true]) w ∧ (Instr.lookup 111 (.map (some q)) (.int .i64 t) false).run Tryd.prog w = .ok v w ∧ RwOf w t v := by
  obtain ⟨n, D, h1, h2, h3⟩ := h
  obtain ⟨j, hj, rfl⟩ := tgA_mem ht
  obtain ⟨k1, v, k2, k3⟩ := h2 _ ht
  obtain ⟨u, ps, hr, hu⟩ := World.ownsMap.look_ok h1 int_law Tryd.underlying111 (row_zero w) rfl (key := .int .i64 (tgA j)) (keyOf_int_mk Tryd.underlying3 (tg_wf hj))
  obtain ⟨u', ps', hr', hu'⟩ := World.ownsMap.lookup h1 int_law Tryd.underlying111 (row_zero w) rfl (key := .int .i64 (tgA j)) (keyOf_int_mk Tryd.underlying3 (tg_wf hj))
  have e : u = v := by simp [k2] at hu; exact hu.1
  have e' : u' = v := by simp [k2] at hu'; exact hu'.1
  subst e
  subst e'
  exact ⟨_, by rw [hr, k1], hr', k3⟩
theorem RowsM.miss {w : World} {q : Nat} (h : RowsM w q) {t : Int} (ht : t ∉ tgs) (hw : -9223372036854775808 ≤ t ∧ t ≤ 9223372036854775807) :
    (Instr.lookup 111 (.map (some q)) (.int .i64 t) true).run Tryd.prog w = .ok (.tuple #[.agg #[.nilFunc, .int .i64 0], .bool false]) w ∧ (Instr.lookup 111 (.map (some q)) (.int .i64 t) false).run Tryd.prog w = .ok (.agg #[.nilFunc, .int .i64 0]) w := by
  obtain ⟨n, D, h1, h2, h3⟩ := h
  have hk := keyOf_int_mk (P := Tryd.prog) Tryd.underlying3 (WalkArith.wf_i64 (n := t) (by omega))
  obtain ⟨u, ps, hr, hu⟩ := World.ownsMap.look_ok h1 int_law Tryd.underlying111 (row_zero w) rfl (key := .int .i64 t) hk
  obtain ⟨u', ps', hr', hu'⟩ := World.ownsMap.lookup h1 int_law Tryd.underlying111 (row_zero w) rfl (key := .int .i64 t) hk
  rw [Maps.atKey_of_not_has (h3 t ht)] at hu' hu
  have e' : u' = .agg #[.nilFunc, .int .i64 0] := by simp at hu'; exact hu'.1
  have e : u = .agg #[.nilFunc, .int .i64 0] := by simp at hu; exact hu.1
  exact ⟨by rw [hr, h3 t ht, e], by rw [hr', e']⟩
theorem RowsM.grew {w w' : World} {q : Nat} (h : RowsM w q) (g : Grew w w' none) : RowsM w' q := by
  obtain ⟨n, D, h1, h2, h3⟩ := h
  exact ⟨n, D, World.ownsMap.kept h1 g (by simp), fun t ht => ⟨(h2 t ht).1, (h2 t ht).2.imp fun v hv => ⟨hv.1, hv.2.grew g⟩⟩, h3⟩
end Go.Proofs.YtnjnghbonmdbdaaDoor


/- A time's row asks its bytes; Time. -/
namespace Go.Proofs.YtnjnghbonmdbdaaDoor
open Go.RowKit

set_option maxRecDepth 100000 in
theorem readtime_any (w : World) (tag : Int) (ht : tag = 23 ∨ tag = 24) (A : Option Addr) (c : Nat) (xs : List UInt8) (hb : Byt w w.heap.size A xs) (hl : xs.length ≤ c) (hm : xs.length ≤ 140737488351232) :
    Calls Tryd.prog 70 #[.int .i64 (ydg tag), .slice A xs.length c] w (TimePost w tag xs) := by
  rcases ht with rfl | rfl
  · exact readtime23 w A c xs hb hl hm
  · exact readtime24 w A c xs hb hl hm

set_option maxRecDepth 100000 in
set_option maxHeartbeats 1000000 in
theorem asktime_any (w : World) (tag : Int) (ht : tag = 23 ∨ tag = 24) (A : Option Addr) (c : Nat) (xs : List UInt8) (hb : Byt w w.heap.size A xs) (hl : xs.length ≤ c) (hm : xs.length ≤ 140737488351232) (p : Nat) (hp : Whole w p #[.int .i64 (ydg tag)] 3) :
    Calls Tryd.prog 69 #[.slice A xs.length c, .pointer (some ⟨p, 0, none⟩)] w fun e w' => e = .returned (.bool (tyOk tag xs)) ∧ Below w.heap.size w w' := by
  have hrt := readtime_any w tag ht A c xs hb hl hm
  have c0 : w.cell? ⟨p, 0, none⟩ = some (.int .i64 (ydg tag)) := hp.cell 0
  generalize ydg tag = n at *
  obtain ⟨R, hR⟩ : ∃ R, tyOk tag xs = R := ⟨_, rfl⟩
  have HR := Lib.hid hR
  rw [hR]
  obtain ⟨L, hL⟩ : ∃ L, xs.length = L := ⟨_, rfl⟩
  rw [hL] at hrt ⊢
  have HRT := Lib.hid hrt
  clear hb hl hm hp hL hrt ht hR
  go_enter Tryd.func69, Tryd.ntmps69
  go_wp2_with fail
  refine HRT.out.mono ?_
  rintro e w1 ⟨rfl, hB⟩
  obtain ⟨v0, v1, v2, v3, v4, v5, hv⟩ : ∃ v0 v1 v2 v3 v4 v5 : Int, agg6 (if tyOk tag xs then tyL tag xs else [0, 0, 0, 0, 0, 0]) = .agg #[.int .i64 v0, .int .i64 v1, .int .i64 v2, .int .i64 v3, .int .i64 v4, .int .i64 v5] := by
    cases tyOk tag xs
    · exact ⟨0, 0, 0, 0, 0, 0, rfl⟩
    · exact ⟨_, _, _, _, _, _, rfl⟩
  rw [hv]
  have HB := Lib.hid hB
  rw [HR.out]
  clear hv hB c0 HRT
  go_wp2_with fail
  go_ret
  exact ⟨rfl, HB.out.alloc HB.out.size _⟩

theorem tgs_out {tag : Int} (h : ¬ (tag = 23 ∨ tag = 24)) : ydg tag = 0 := by
  unfold ydg
  rw [if_neg (fun e => h (.inl e)), if_neg (fun e => h (.inr e))]
theorem RowsM.year {w : World} {q : Nat} (h : RowsM w q) {tag : Int} (hw : -9223372036854775808 ≤ tag ∧ tag ≤ 9223372036854775807) :
    ∃ F, (Instr.lookup 111 (.map (some q)) (.int .i64 tag) false).run Tryd.prog w = .ok (.agg #[F, .int .i64 (ydg tag)]) w := by
  by_cases ht : tag ∈ tgs
  · obtain ⟨v, _, h2, h3⟩ := h.look ht
    unfold RwOf at h3
    split at h3
    · obtain ⟨p, hv, _⟩ := h3
      exact ⟨_, by rw [h2, hv]⟩
    · rename_i hn
      exact ⟨_, by rw [h2, h3, tgs_out hn]⟩
  · obtain ⟨_, h2⟩ := h.miss ht hw
    have h0 : ydg tag = 0 := tgs_out (fun e => ht (by rcases e with rfl | rfl <;> decide))
    exact ⟨_, by rw [h2, h0]⟩

set_option maxRecDepth 100000 in
theorem field_year (F : Value) (n : Int) (w : World) : (Instr.field 109 (.agg #[F, .int .i64 n]) 1).run Tryd.prog w = .ok (.int .i64 n) w := by kernel_rfl

/-- What Time answers. -/
def TmPost (w : World) (tag : Int) (xs : List UInt8) (e : Ending) (w' : World) : Prop :=
  e = .returned (.tuple #[agg6 (if (tag = 23 ∨ tag = 24) ∧ tyOk tag xs = true then tyL tag xs else [0, 0, 0, 0, 0, 0]), .int .i64 (if tag = 23 ∨ tag = 24 then (if tyOk tag xs then 0 else 13) else 2)]) ∧ Below w.heap.size w w'
theorem tmpost {w w' : World} {tag : Int} {xs : List UInt8} {zs : List Int} {b : Int} (h1 : (if (tag = 23 ∨ tag = 24) ∧ tyOk tag xs = true then tyL tag xs else [0, 0, 0, 0, 0, 0]) = zs)
    (h2 : (if tag = 23 ∨ tag = 24 then (if tyOk tag xs then (0 : Int) else 13) else 2) = b) (hb : Below w.heap.size w w') : TmPost w tag xs (.returned (.tuple #[agg6 zs, .int .i64 b])) w' := ⟨by rw [h1, h2], hb⟩

end Go.Proofs.YtnjnghbonmdbdaaDoor


/- The document's own answers of layer 10: Arcs (of as many bytes as memory may hold the numbers of). -/
namespace Go.Proofs.YtnjnghbonmdbdaaDoor
open Go.RowKit

/-- The cells of numbers. -/
def cells64 (ns : List Nat) : List Value := ns.map fun (n : Nat) => .int .u64 (n : Int)
theorem cells64_length (ns : List Nat) : (cells64 ns).length = ns.length := by simp [cells64]
theorem cells64_append (ns ms : List Nat) : cells64 (ns ++ ms) = cells64 ns ++ cells64 ms := by simp [cells64]
end Go.Proofs.YtnjnghbonmdbdaaDoor


/- What the laws of layer 10 are made of: are they the same numbers; two digits. -/
namespace Go.Proofs.YtnjnghbonmdbdaaDoor
open Go.RowKit

/-- Numbers at a list's memory. -/
def R64 (w : World) (B : Nat) (A : Option Addr) (ns : List Nat) : Prop :=
  0 < ns.length → ∃ b o, A = some ⟨b, o, none⟩ ∧ b < B ∧ ∀ i, i < ns.length → w.cell? ⟨b, o + i, none⟩ = some (.int .u64 ((ns.getD i 0 : Nat) : Int))
theorem R64.below {w w' : World} {B n : Nat} {A : Option Addr} {ns : List Nat} (h : R64 w B A ns) (b : Below n w w') (hn : B ≤ n) : R64 w' B A ns := by
  intro hx
  obtain ⟨p, o, rfl, hp, hc⟩ := h hx
  exact ⟨p, o, rfl, hp, fun i hi => (b.cell (p := ⟨p, o + i, none⟩) (Nat.lt_of_lt_of_le hp hn)).trans (hc i hi)⟩
/-- Two digits. -/
def tw (n : Int) : List UInt8 := [.ofNat (48 + n / 10 % 10).toNat, .ofNat (48 + n % 10).toNat]
end Go.Proofs.YtnjnghbonmdbdaaDoor


/- What the laws of layer 10 are made of: a number's bytes, as few as it needs; a number, seven bits a byte. -/
namespace Go.Proofs.YtnjnghbonmdbdaaDoor
open Go.RowKit

/-- One more byte ahead of those of a row: what 'append([]byte{x}, b...)' makes. -/
theorem app_ahead (w : World) (x : UInt8) {v : Value} {n : Nat} {ys : List UInt8} (own : w.ownsRow 0 5 1 v n (cellsOf ys)) (hn : n ≤ 100) (B : Nat) (hB : B ≤ w.heap.size) :
    ∀ ty, ∃ v' w', (Builtin.append_ #[22, 22] ty #[.slice (some ⟨w.heap.size, 0, none⟩) 1 1, v]).run Tryd.prog (w.alloc (.cells #[.int .u8 (x.toNat : Int)] 5)) = .ok v' w' ∧
      (w'.ownsRow 0 5 1 v' (n + 1) (cellsOf (x :: ys)) ∧ Below B w w' ∧ B ≤ w'.heap.size ∧ ∀ k, v'.ownBlock = some k → B ≤ k) := fun ty => by
  have hl := own.1
  rw [cellsOf_length] at hl
  obtain ⟨A, c, rfl⟩ : ∃ A c, v = .slice A n c := by
    rcases own.2 with ⟨rfl, rfl⟩ | ⟨g, cap, cur, rfl, _⟩
    · exact ⟨none, 0, rfl⟩
    · exact ⟨_, _, rfl⟩
  obtain rfl : n = ys.length := by omega
  have info : (Tryd.prog.info? 5).map (fun i => (i.zero, i.size, i.bytes)) = some (some (.int .u8 0), 1, 1) := by kernel_rfl
  have hw := Whole.new w #[.int .u8 (x.toNat : Int)] 5
  have own1 : (w.alloc (.cells #[.int .u8 (x.toNat : Int)] 5)).ownsRow 0 5 1 (.slice (some ⟨w.heap.size, 0, none⟩) 1 1) 1 (cellsOf [x]) :=
    ⟨rfl, .inr ⟨w.heap.size, 1, _, rfl, Nat.zero_le _, hw, Nat.le_refl _, by unfold maxLen; omega, rfl, rfl⟩⟩
  have own2 := own_by (own_fr own ((Fr.refl w (fun _ => False)).alloc (.cells #[.int .u8 (x.toNat : Int)] 5)) (fun _ _ h => h))
  obtain ⟨v', w', hr, k1, k2, k3⟩ := append_bytes (P := Tryd.prog) _ 22 ty 5 Tryd.underlying22 info own1 own2 c (by omega)
  refine ⟨v', w', hr, by rw [Nat.add_comm]; exact k1, ?_, ?_, ?_⟩
  · exact ((Below.refl B w).alloc hB _).trans (grew_below k2 (by simp; omega) (fun k hk => by simp [Value.ownBlock] at hk; omega))
  · have := k2.size
    simp at this
    omega
  · intro k hk
    rcases k3 with e | e
    · rw [e] at hk; simp [Value.ownBlock] at hk; omega
    · rw [e] at hk; simp at hk; omega
theorem own_one (w : World) (x : UInt8) : (w.alloc (.cells #[.int .u8 (x.toNat : Int)] 5)).ownsRow 0 5 1 (.slice (some ⟨w.heap.size, 0, none⟩) 1 1) 1 (cellsOf [x]) :=
  ⟨rfl, .inr ⟨w.heap.size, 1, _, rfl, Nat.zero_le _, Whole.new w _ _, Nat.le_refl _, by unfold maxLen; omega, rfl, rfl⟩⟩

/-- A number's lowest byte; its bytes, as few as it needs. -/
def lb (x : Int) : UInt8 := .ofNat (x % 256).toNat
theorem lb_int (x : Int) : ((lb x).toNat : Int) = x % 256 := by unfold lb; simp; omega
def btsF : Nat → Int → List UInt8 → List UInt8
  | 0, _, acc => acc
  | k + 1, x, acc => if 127 < x ∨ x < -128 then btsF k (x / 256) (lb (x / 256) :: acc) else acc
def bts (x : Int) : List UInt8 := btsF 8 x [lb x]

end Go.Proofs.YtnjnghbonmdbdaaDoor

