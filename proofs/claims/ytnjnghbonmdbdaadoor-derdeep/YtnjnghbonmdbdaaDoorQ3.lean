/- The document's own answers of layer 10: times. -/
import Derived.Test.YtnjnghbonmdbdaaDoorQ2
import Derived.BigQuiet
import Derived.Deep.QuietTactic
import Derived.Laws.ResultCell
import Derived.Laws.Rows
import Derived.Deep.Cut
namespace Go.Proofs.YtnjnghbonmdbdaaDoor
open Go.RowKit

theorem dgs_le (xs : List UInt8) (h : xs.length ≤ 4) : dgs xs ≤ 9999 := by
  have key : ∀ (k : Nat) (xs : List UInt8) (n m : Nat), xs.length = k → n < 10 ^ m → dgF n xs < ((10 ^ (m + k) : Nat) : Int) := by
    intro k
    induction k with
    | zero => intro xs n m hx hn; obtain rfl := List.eq_nil_of_length_eq_zero hx; simp only [dgF, Nat.add_zero]; omega
    | succ k ih =>
      intro xs n m hx hn
      match xs, hx with
      | x :: r, hx =>
        unfold dgF
        split
        · have : (0 : Int) ≤ ((10 ^ (m + (k + 1)) : Nat) : Int) := Int.natCast_nonneg _
          generalize ((10 ^ (m + (k + 1)) : Nat) : Int) = Y at *
          omega
        · have := ih r (10 * n + (x.toNat - 48)) (m + 1) (by simpa using hx) (by rw [Nat.pow_succ]; omega)
          rw [show m + 1 + k = m + (k + 1) by omega] at this
          exact this
  have h1 := key xs.length xs 0 0 rfl (by decide)
  have h2 : 10 ^ (0 + xs.length) ≤ 10 ^ 4 := Nat.pow_le_pow_right (by omega) (by omega)
  have h3 : (10 : Nat) ^ 4 = 10000 := by decide
  unfold dgs
  omega
set_option maxRecDepth 100000 in
theorem results_time (tmps : Array Value) (w : World) (q : Nat) (cs : Array Value) (t : TypeId) (hp : tmps.getD 4 undef = .pointer (some ⟨q, 0, none⟩)) (hg : Whole w q cs t) (h6 : cs.size = 6) :
    (results Tryd.f49 tmps).run Tryd.prog w = .ok (.tuple #[.agg cs, tmps.getD 5 undef]) w := by
  have hi : (Tryd.prog.info? 91).map (·.size) = some cs.size := by rw [h6]; kernel_rfl
  have h1 := run_loadVar_row (P := Tryd.prog) w q t 91 cs _ _ hg Tryd.underlying91 rfl hi
  rw [results_cell_tmp (fn := Tryd.f49) rfl tmps Tryd.prog w, hp]
  simp [asAddr, h1, Result.andThen]

/-- Memory while a time is read. -/
structure Tim (w W : World) (q : Nat) (z0 z1 z2 z3 z4 z5 : Int) : Prop where
  res : Whole W q #[.int .i64 0, .int .i64 0, .int .i64 0, .int .i64 0, .int .i64 0, .int .i64 0] 91
  cur : Whole W (q + 1) #[.int .i64 z0, .int .i64 z1, .int .i64 z2, .int .i64 z3, .int .i64 z4, .int .i64 z5] 91
  bel : Below q w W
theorem Tim.step {w W : World} {q : Nat} {z0 z1 z2 z3 z4 z5 : Int} (h : Tim w W q z0 z1 z2 z3 z4 z5) (i : Nat) (u : Value) {cs : Array Value} (hcs : (#[.int .i64 z0, .int .i64 z1, .int .i64 z2, .int .i64 z3, .int .i64 z4, .int .i64 z5] : Array Value).setIfInBounds i u = cs) :
    Whole (W.setCell ⟨q + 1, i, none⟩ u) q #[.int .i64 0, .int .i64 0, .int .i64 0, .int .i64 0, .int .i64 0, .int .i64 0] 91 ∧ Whole (W.setCell ⟨q + 1, i, none⟩ u) (q + 1) cs 91 ∧ Below q w (W.setCell ⟨q + 1, i, none⟩ u) := by
  subst hcs
  exact ⟨h.res.grew (grew_set (grew_refl W (some (q + 1))) i none _) (by simp), h.cur.set i u, h.bel.setCell (p := ⟨q + 1, i, none⟩) (by simp) _⟩
theorem Tim.drewN {w W : World} {q : Nat} {z0 z1 z2 z3 z4 z5 : Int} (h : Tim w W q z0 z1 z2 z3 z4 z5) (k : Nat) : Tim w (W.drewN k) q z0 z1 z2 z3 z4 z5 := ⟨h.res, h.cur, ⟨h.bel.os, h.bel.tape, h.bel.output, h.bel.size, h.bel.block⟩⟩
theorem Tim.cells {w W : World} {q : Nat} {z0 z1 z2 z3 z4 z5 : Int} (h : Tim w W q z0 z1 z2 z3 z4 z5) :
    (W.cell? ⟨q + 1, 0, none⟩ = some (.int .i64 z0) ∧ W.cell? ⟨q + 1, 1, none⟩ = some (.int .i64 z1) ∧ W.cell? ⟨q + 1, 2, none⟩ = some (.int .i64 z2) ∧ W.cell? ⟨q + 1, 3, none⟩ = some (.int .i64 z3) ∧ W.cell? ⟨q + 1, 4, none⟩ = some (.int .i64 z4) ∧ W.cell? ⟨q + 1, 5, none⟩ = some (.int .i64 z5)) ∧
    (W.cell? ⟨q, 0, none⟩ = some (.int .i64 0) ∧ W.cell? ⟨q, 1, none⟩ = some (.int .i64 0) ∧ W.cell? ⟨q, 2, none⟩ = some (.int .i64 0) ∧ W.cell? ⟨q, 3, none⟩ = some (.int .i64 0) ∧ W.cell? ⟨q, 4, none⟩ = some (.int .i64 0) ∧ W.cell? ⟨q, 5, none⟩ = some (.int .i64 0)) ∧
    (∀ i, W.frozen? ⟨q, i, none⟩ = false) ∧ (∀ i, W.frozen? ⟨q + 1, i, none⟩ = false) :=
  ⟨⟨h.cur.cell 0, h.cur.cell 1, h.cur.cell 2, h.cur.cell 3, h.cur.cell 4, h.cur.cell 5⟩, ⟨h.res.cell 0, h.res.cell 1, h.res.cell 2, h.res.cell 3, h.res.cell 4, h.res.cell 5⟩, h.res.frozen, h.cur.frozen⟩
/-- Six numbers stored. -/
def put6i (w : World) (q : Nat) (z0 z1 z2 z3 z4 z5 : Int) : World := (((((w.setCell ⟨q, 0, none⟩ (.int .i64 z0)).setCell ⟨q, 1, none⟩ (.int .i64 z1)).setCell ⟨q, 2, none⟩ (.int .i64 z2)).setCell ⟨q, 3, none⟩ (.int .i64 z3)).setCell ⟨q, 4, none⟩ (.int .i64 z4)).setCell ⟨q, 5, none⟩ (.int .i64 z5)
/-- It leaves with what lies in its result. -/
theorem tim_leave {w W : World} {q : Nat} {a0 a1 a2 a3 a4 a5 : Int} (h : Tim w W q a0 a1 a2 a3 a4 a5) (z0 z1 z2 z3 z4 z5 : Int) (a : Act) (b : Bool)
    (h4 : a.tmps.getD 4 undef = .pointer (some ⟨q, 0, none⟩)) (h5 : a.tmps.getD 5 undef = .bool b) (hd : a.defers = []) {E : Ending → World → Prop}
    (hE : Below q w (put6i W q z0 z1 z2 z3 z4 z5) → E (.returned (.tuple #[agg6 [z0, z1, z2, z3, z4, z5], .bool b])) (put6i W q z0 z1 z2 z3 z4 z5)) :
    bodyPost Tryd.prog Tryd.f49 E Exit.ret a (put6i W q z0 z1 z2 z3 z4 z5) := by
  have hw : Whole (put6i W q z0 z1 z2 z3 z4 z5) q #[.int .i64 z0, .int .i64 z1, .int .i64 z2, .int .i64 z3, .int .i64 z4, .int .i64 z5] 91 := (((((h.res.set 0 _).set 1 _).set 2 _).set 3 _).set 4 _).set 5 _
  have hb : Below q w (put6i W q z0 z1 z2 z3 z4 z5) := (((((h.bel.setCell (p := ⟨q, 0, none⟩) (Nat.le_refl _) _).setCell (p := ⟨q, 1, none⟩) (Nat.le_refl _) _).setCell (p := ⟨q, 2, none⟩) (Nat.le_refl _) _).setCell (p := ⟨q, 3, none⟩) (Nat.le_refl _) _).setCell (p := ⟨q, 4, none⟩) (Nat.le_refl _) _).setCell (p := ⟨q, 5, none⟩) (Nat.le_refl _) _
  refine bodyPost_ret (results_time _ _ q _ _ h4 hw rfl) hd ?_
  rw [h5]
  exact hE hb
/-- What Time answers. -/
def TimePost (w : World) (tag : Int) (xs : List UInt8) (e : Ending) (w' : World) : Prop :=
  e = .returned (.tuple #[agg6 (if tyOk tag xs then tyL tag xs else [0, 0, 0, 0, 0, 0]), .bool (tyOk tag xs)]) ∧ Below w.heap.size w w'
theorem time_no {w w' : World} {tag : Int} {xs : List UInt8} (h : tyOk tag xs = false) (hb : Below w.heap.size w w') : TimePost w tag xs (.returned (.tuple #[agg6 [0, 0, 0, 0, 0, 0], .bool false])) w' := ⟨by rw [h]; rfl, hb⟩


set_option maxRecDepth 100000 in
set_option maxHeartbeats 4000000 in
theorem rtime23 (w : World) (A : Option Addr) (c : Nat) (xs : List UInt8) (hb : Byt w w.heap.size A xs) (hl : xs.length ≤ c) :
    Calls Tryd.prog 49 #[.int .i64 23, .slice A xs.length c] w (TimePost w 23 xs) := by
  obtain ⟨q, hq⟩ : ∃ q, w.heap.size = q := ⟨_, rfl⟩
  have HQ := Lib.hid hq
  have g1 := Whole.new w #[.int .i64 0, .int .i64 0, .int .i64 0, .int .i64 0, .int .i64 0, .int .i64 0] 91
  have TIM := Lib.hid (show Tim w ((w.alloc (.cells #[.int .i64 0, .int .i64 0, .int .i64 0, .int .i64 0, .int .i64 0, .int .i64 0] 91)).alloc (.cells #[.int .i64 0, .int .i64 0, .int .i64 0, .int .i64 0, .int .i64 0, .int .i64 0] 91)) q 0 0 0 0 0 0 from by
    rw [hq] at g1
    refine ⟨g1.grew (grew_alloc (grew_refl _ none) _) (by simp), ?_, ?_⟩
    · have := Whole.new (w.alloc (.cells #[.int .i64 0, .int .i64 0, .int .i64 0, .int .i64 0, .int .i64 0, .int .i64 0] 91)) #[.int .i64 0, .int .i64 0, .int .i64 0, .int .i64 0, .int .i64 0, .int .i64 0] 91
      rw [World.size_alloc, hq] at this
      exact this
    · rw [← hq]
      exact ((Below.refl _ w).alloc (Nat.le_refl _) _).alloc (by simp) _)
  obtain ⟨L, hL⟩ : ∃ L, xs.length = L := ⟨_, rfl⟩
  have HL := Lib.hid hL
  have HB := Lib.hid hb
  rw [hL] at hl ⊢
  have HC := Lib.hid hl
  clear g1 hb hL hl
  by_cases hlen : L = 13
  · subst hlen
    obtain ⟨b, o, rfl, -, hc⟩ := HB.out (by rw [HL.out]; omega)
    obtain ⟨z, hz⟩ : ∃ z, (xs.getD 12 0).toNat = z := ⟨_, rfl⟩
    have hz256 : z < 256 := by rw [← hz]; exact UInt8.toNat_lt _
    have c1 : ((w.alloc (.cells #[.int .i64 0, .int .i64 0, .int .i64 0, .int .i64 0, .int .i64 0, .int .i64 0] 91)).alloc (.cells #[.int .i64 0, .int .i64 0, .int .i64 0, .int .i64 0, .int .i64 0, .int .i64 0] 91)).cell? ⟨b, o + 12, none⟩ = some (.int .u8 (z : Int)) := by
      obtain ⟨b', o', e', hb', _⟩ := HB.out (by rw [HL.out]; omega)
      cases e'
      rw [TIM.out.bel.cell (p := ⟨b, o + 12, none⟩) (by show b < q; rw [← hq]; exact hb'), hc 12 (by rw [HL.out]; omega), hz]
    have HZ := Lib.hid hz
    clear hc hz
    by_cases hz90 : z = 90
    · subst hz90
      have hcc := HC.out
      have hs0 : ∀ W : World, (Instr.slice 22 (.slice (some ⟨b, o, none⟩) 13 c) none (some (.int .i64 2)) none).run Tryd.prog W = .ok (.slice (some ⟨b, o, none⟩) 2 c) W := fun W => slice_to W b o 13 c 2 (by omega)
      have HS1 := Lib.hid (show ∀ W : World, (Instr.slice 22 (.slice (some ⟨b, o, none⟩) 13 c) (some (.int .i64 2)) (some (.int .i64 4)) none).run Tryd.prog W = .ok (.slice (some ⟨b, o + 2, none⟩) 2 (c - 2)) W from fun W => slice_at W b o 13 c 2 4 (by omega) (by omega))
      have HD1 := Lib.hid (show ∀ (W : World), Byt W W.heap.size (some ⟨b, o, none⟩) xs → Calls Tryd.prog 57 #[.slice (some ⟨b, o + 2, none⟩) 2 (c - 2)] W fun e w' => e = .returned (.int .i64 (tyR 23 xs 1)) ∧ w' = W from fun W h => by
        have el : ((xs.drop 2).take 2).length = 2 := by rw [List.length_take, List.length_drop, HL.out]; rfl
        have := rdigits_any W (some ⟨b, o + 2, none⟩) (c - 2) ((xs.drop 2).take 2) (byt_sub h) (by omega)
        rw [el] at this
        exact this)
      have HS2 := Lib.hid (show ∀ W : World, (Instr.slice 22 (.slice (some ⟨b, o, none⟩) 13 c) (some (.int .i64 4)) (some (.int .i64 6)) none).run Tryd.prog W = .ok (.slice (some ⟨b, o + 4, none⟩) 2 (c - 4)) W from fun W => slice_at W b o 13 c 4 6 (by omega) (by omega))
      have HD2 := Lib.hid (show ∀ (W : World), Byt W W.heap.size (some ⟨b, o, none⟩) xs → Calls Tryd.prog 57 #[.slice (some ⟨b, o + 4, none⟩) 2 (c - 4)] W fun e w' => e = .returned (.int .i64 (tyR 23 xs 2)) ∧ w' = W from fun W h => by
        have el : ((xs.drop 4).take 2).length = 2 := by rw [List.length_take, List.length_drop, HL.out]; rfl
        have := rdigits_any W (some ⟨b, o + 4, none⟩) (c - 4) ((xs.drop 4).take 2) (byt_sub h) (by omega)
        rw [el] at this
        exact this)
      have HS3 := Lib.hid (show ∀ W : World, (Instr.slice 22 (.slice (some ⟨b, o, none⟩) 13 c) (some (.int .i64 6)) (some (.int .i64 8)) none).run Tryd.prog W = .ok (.slice (some ⟨b, o + 6, none⟩) 2 (c - 6)) W from fun W => slice_at W b o 13 c 6 8 (by omega) (by omega))
      have HD3 := Lib.hid (show ∀ (W : World), Byt W W.heap.size (some ⟨b, o, none⟩) xs → Calls Tryd.prog 57 #[.slice (some ⟨b, o + 6, none⟩) 2 (c - 6)] W fun e w' => e = .returned (.int .i64 (tyR 23 xs 3)) ∧ w' = W from fun W h => by
        have el : ((xs.drop 6).take 2).length = 2 := by rw [List.length_take, List.length_drop, HL.out]; rfl
        have := rdigits_any W (some ⟨b, o + 6, none⟩) (c - 6) ((xs.drop 6).take 2) (byt_sub h) (by omega)
        rw [el] at this
        exact this)
      have HS4 := Lib.hid (show ∀ W : World, (Instr.slice 22 (.slice (some ⟨b, o, none⟩) 13 c) (some (.int .i64 8)) (some (.int .i64 10)) none).run Tryd.prog W = .ok (.slice (some ⟨b, o + 8, none⟩) 2 (c - 8)) W from fun W => slice_at W b o 13 c 8 10 (by omega) (by omega))
      have HD4 := Lib.hid (show ∀ (W : World), Byt W W.heap.size (some ⟨b, o, none⟩) xs → Calls Tryd.prog 57 #[.slice (some ⟨b, o + 8, none⟩) 2 (c - 8)] W fun e w' => e = .returned (.int .i64 (tyR 23 xs 4)) ∧ w' = W from fun W h => by
        have el : ((xs.drop 8).take 2).length = 2 := by rw [List.length_take, List.length_drop, HL.out]; rfl
        have := rdigits_any W (some ⟨b, o + 8, none⟩) (c - 8) ((xs.drop 8).take 2) (byt_sub h) (by omega)
        rw [el] at this
        exact this)
      have HS5 := Lib.hid (show ∀ W : World, (Instr.slice 22 (.slice (some ⟨b, o, none⟩) 13 c) (some (.int .i64 10)) (some (.int .i64 12)) none).run Tryd.prog W = .ok (.slice (some ⟨b, o + 10, none⟩) 2 (c - 10)) W from fun W => slice_at W b o 13 c 10 12 (by omega) (by omega))
      have HD5 := Lib.hid (show ∀ (W : World), Byt W W.heap.size (some ⟨b, o, none⟩) xs → Calls Tryd.prog 57 #[.slice (some ⟨b, o + 10, none⟩) 2 (c - 10)] W fun e w' => e = .returned (.int .i64 (tyR 23 xs 5)) ∧ w' = W from fun W h => by
        have el : ((xs.drop 10).take 2).length = 2 := by rw [List.length_take, List.length_drop, HL.out]; rfl
        have := rdigits_any W (some ⟨b, o + 10, none⟩) (c - 10) ((xs.drop 10).take 2) (byt_sub h) (by omega)
        rw [el] at this
        exact this)
      have hd0 := fun (W : World) (h : Byt W W.heap.size (some ⟨b, o, none⟩) xs) => rdigits_any W (some ⟨b, o, none⟩) c (xs.take 2) (h.take 2) (by rw [List.length_take]; omega)
      have el : (xs.take 2).length = 2 := by rw [List.length_take, HL.out]; rfl
      have er : dgs (xs.take 2) = tyR 23 xs 0 := rfl
      have h9 := dgs_le (xs.take 2) (by rw [el]; omega)
      rw [el, er] at hd0
      rw [er] at h9
      have HB2 := Lib.hid (show ∀ W, Below q w W → Byt W W.heap.size (some ⟨b, o, none⟩) xs from fun W hW => (byt_below HB.out hW (by omega)).more hW.size)
      obtain ⟨y, hy⟩ : ∃ y, tyR 23 xs 0 = y := ⟨_, rfl⟩
      rw [hy] at hd0 h9
      have HD0 := Lib.hid hd0
      have HY := Lib.hid hy
      have H9 := Lib.hid h9
      clear hd0 hy h9 el er hcc
      go_enter Tryd.func49, Tryd.ntmps49
      go_wp2_with fail
      generalize (w.alloc (.cells #[.int .i64 0, .int .i64 0, .int .i64 0, .int .i64 0, .int .i64 0, .int .i64 0] 91)).alloc (.cells #[.int .i64 0, .int .i64 0, .int .i64 0, .int .i64 0, .int .i64 0, .int .i64 0] 91) = X at *
      refine (HD0.out X (HB2.out X TIM.out.bel)).mono ?_
      rintro e W1 ⟨rfl, rfl⟩
      clear c1 hs0 HD0
      obtain ⟨⟨k0, k1, k2, k3, k4, k5⟩, ⟨r0, r1, r2, r3, r4, r5⟩, zq, zp⟩ := TIM.out.cells
      have TIM1 := Lib.hid (show Tim w (W1.setCell ⟨q + 1, 0, none⟩ (.int .i64 y)) q y 0 0 0 0 0 from (fun h => ⟨h.1, h.2.1, h.2.2⟩) (TIM.out.step 0 (.int .i64 y) rfl))
      by_cases hy0 : y < 0
      · have HN := Lib.hid (show tyOk 23 xs = false by unfold tyOk; rw [show ((List.range 6).all fun i => decide (0 ≤ tyR 23 xs i)) = false by rw [List.all_eq_false]; exact ⟨0, by decide, by rw [HY.out]; simpa using hy0⟩]; simp)
        go_wp2_with fail
        exact tim_leave TIM1.out 0 0 0 0 0 0 _ false rfl rfl rfl (fun hb => time_no HN.out (by rw [hq]; exact hb))
      go_upto_region 10 with (fail)
      clear k0 k1 k2 k3 k4 k5 r0 r1 r2 r3 r4 r5 zq zp
      generalize W1.setCell ⟨q + 1, 0, none⟩ (.int .i64 y) = X1 at *
      have h9 := H9.out
      obtain ⟨⟨k0, k1, k2, k3, k4, k5⟩, ⟨r0, r1, r2, r3, r4, r5⟩, zq, zp⟩ := TIM1.out.cells
      by_cases h50 : 50 ≤ y
      · have f1 : wrap64 (y + 1900) = y + 1900 := IntWalk.wrap64_in _ (by omega)
        have TIM2 := Lib.hid (show Tim w (X1.setCell ⟨q + 1, 0, none⟩ (.int .i64 (y + 1900))) q (y + 1900) 0 0 0 0 0 from (fun h => ⟨h.1, h.2.1, h.2.2⟩) (TIM1.out.step 0 (.int .i64 (y + 1900)) rfl))
        have HYV := Lib.hid (show tyV 23 xs 0 = y + 1900 by show tyY 23 (tyR 23 xs 0) = _; rw [HY.out]; unfold tyY; rw [if_pos rfl]; rw [if_pos h50])
        have HPOS := Lib.hid (show 0 ≤ y + 1900 by omega)
        clear h9
        go_upto_region 14 with (fail)
        clear f1 k0 k1 k2 k3 k4 k5 r0 r1 r2 r3 r4 r5 zq zp h50
        generalize X1.setCell ⟨q + 1, 0, none⟩ (.int .i64 (y + 1900)) = X2 at *
        generalize y + 1900 = Y at *
        have HYY := Lib.hid (show 0 ≤ tyR 23 xs 0 by rw [HY.out]; omega)
        clear hy0
        go_wp2_with fail
        go_loopw [8] (fun i wr => ∃ j : Nat, 1 ≤ j ∧ j ≤ 6 ∧ i = .int .i64 j ∧ Hid (Tim w wr q Y (if 1 < j then tyR 23 xs 1 else 0) (if 2 < j then tyR 23 xs 2 else 0) (if 3 < j then tyR 23 xs 3 else 0) (if 4 < j then tyR 23 xs 4 else 0) (if 5 < j then tyR 23 xs 5 else 0)) ∧ Hid (∀ i, 1 ≤ i → i < j → 0 ≤ tyR 23 xs i)) (fun i _ => 6 - (intOf i).toNat)
        case atStart => exact ⟨1, Nat.le_refl _, by omega, rfl, TIM2, Lib.hid (fun i h1 h2 => by omega)⟩
        case round =>
          clear TIM TIM1 TIM2
          obtain ⟨j, hj1, hj6, rfl, hR, hP⟩ := hrel
          by_cases e1 : j = 1
          · subst e1
            replace hR : Hid (Tim w wr q Y 0 0 0 0 0) := hR
            have hs := HS1.out
            have hd := HD1.out wr (HB2.out wr hR.out.bel)
            obtain ⟨u, hu⟩ : ∃ u, tyR 23 xs 1 = u := ⟨_, rfl⟩
            rw [hu] at hd
            have HU := Lib.hid hu
            have HD := Lib.hid hd
            have hT := hR.out.step 1 (.int .i64 u) rfl
            rw [← hu] at hT
            have TN := Lib.hid (show Tim w (wr.setCell ⟨q + 1, 1, none⟩ (.int .i64 u)) q Y (tyR 23 xs 1) 0 0 0 0 from ⟨by have := hT.1; rw [hu] at this; exact this, by have := hT.2.1; rw [hu] at this ⊢; exact this, by have := hT.2.2; rw [hu] at this; exact this⟩)
            obtain ⟨⟨k0, k1, k2, k3, k4, k5⟩, ⟨r0, r1, r2, r3, r4, r5⟩, zq, zp⟩ := hR.out.cells
            clear hu hd hT hR
            go_wp2_with fail
            refine HD.out.mono ?_
            rintro e W2 ⟨rfl, rfl⟩
            clear HD hs
            by_cases hu0 : u < 0
            · have HN := Lib.hid (show tyOk 23 xs = false by unfold tyOk; rw [show ((List.range 6).all fun i => decide (0 ≤ tyR 23 xs i)) = false by rw [List.all_eq_false]; exact ⟨1, by decide, by rw [HU.out]; simpa using hu0⟩]; simp)
              go_wp2_with fail
              exact tim_leave TN.out 0 0 0 0 0 0 _ false rfl rfl rfl (fun hb => time_no HN.out (by rw [HQ.out]; exact hb))
            have HP2 := Lib.hid (show ∀ i, 1 ≤ i → i < 2 → 0 ≤ tyR 23 xs i from fun i h1 h2 => by
              by_cases hi : i = 1
              · rw [hi, HU.out]; omega
              · exact hP.out i h1 (by omega))
            go_wp2_with fail
            go_roundw
            case rel => exact ⟨2, by omega, by omega, rfl, TN, HP2⟩
            case measure => simp [intOf]
          by_cases e2 : j = 2
          · subst e2
            replace hR : Hid (Tim w wr q Y (tyR 23 xs 1) 0 0 0 0) := hR
            have hs := HS2.out
            have hd := HD2.out wr (HB2.out wr hR.out.bel)
            obtain ⟨u, hu⟩ : ∃ u, tyR 23 xs 2 = u := ⟨_, rfl⟩
            rw [hu] at hd
            have HU := Lib.hid hu
            have HD := Lib.hid hd
            have hT := hR.out.step 2 (.int .i64 u) rfl
            rw [← hu] at hT
            have TN := Lib.hid (show Tim w (wr.setCell ⟨q + 1, 2, none⟩ (.int .i64 u)) q Y (tyR 23 xs 1) (tyR 23 xs 2) 0 0 0 from ⟨by have := hT.1; rw [hu] at this; exact this, by have := hT.2.1; rw [hu] at this ⊢; exact this, by have := hT.2.2; rw [hu] at this; exact this⟩)
            obtain ⟨⟨k0, k1, k2, k3, k4, k5⟩, ⟨r0, r1, r2, r3, r4, r5⟩, zq, zp⟩ := hR.out.cells
            clear hu hd hT hR
            go_wp2_with fail
            refine HD.out.mono ?_
            rintro e W2 ⟨rfl, rfl⟩
            clear HD hs
            by_cases hu0 : u < 0
            · have HN := Lib.hid (show tyOk 23 xs = false by unfold tyOk; rw [show ((List.range 6).all fun i => decide (0 ≤ tyR 23 xs i)) = false by rw [List.all_eq_false]; exact ⟨2, by decide, by rw [HU.out]; simpa using hu0⟩]; simp)
              go_wp2_with fail
              exact tim_leave TN.out 0 0 0 0 0 0 _ false rfl rfl rfl (fun hb => time_no HN.out (by rw [HQ.out]; exact hb))
            have HP2 := Lib.hid (show ∀ i, 1 ≤ i → i < 3 → 0 ≤ tyR 23 xs i from fun i h1 h2 => by
              by_cases hi : i = 2
              · rw [hi, HU.out]; omega
              · exact hP.out i h1 (by omega))
            go_wp2_with fail
            go_roundw
            case rel => exact ⟨3, by omega, by omega, rfl, TN, HP2⟩
            case measure => simp [intOf]
          by_cases e3 : j = 3
          · subst e3
            replace hR : Hid (Tim w wr q Y (tyR 23 xs 1) (tyR 23 xs 2) 0 0 0) := hR
            have hs := HS3.out
            have hd := HD3.out wr (HB2.out wr hR.out.bel)
            obtain ⟨u, hu⟩ : ∃ u, tyR 23 xs 3 = u := ⟨_, rfl⟩
            rw [hu] at hd
            have HU := Lib.hid hu
            have HD := Lib.hid hd
            have hT := hR.out.step 3 (.int .i64 u) rfl
            rw [← hu] at hT
            have TN := Lib.hid (show Tim w (wr.setCell ⟨q + 1, 3, none⟩ (.int .i64 u)) q Y (tyR 23 xs 1) (tyR 23 xs 2) (tyR 23 xs 3) 0 0 from ⟨by have := hT.1; rw [hu] at this; exact this, by have := hT.2.1; rw [hu] at this ⊢; exact this, by have := hT.2.2; rw [hu] at this; exact this⟩)
            obtain ⟨⟨k0, k1, k2, k3, k4, k5⟩, ⟨r0, r1, r2, r3, r4, r5⟩, zq, zp⟩ := hR.out.cells
            clear hu hd hT hR
            go_wp2_with fail
            refine HD.out.mono ?_
            rintro e W2 ⟨rfl, rfl⟩
            clear HD hs
            by_cases hu0 : u < 0
            · have HN := Lib.hid (show tyOk 23 xs = false by unfold tyOk; rw [show ((List.range 6).all fun i => decide (0 ≤ tyR 23 xs i)) = false by rw [List.all_eq_false]; exact ⟨3, by decide, by rw [HU.out]; simpa using hu0⟩]; simp)
              go_wp2_with fail
              exact tim_leave TN.out 0 0 0 0 0 0 _ false rfl rfl rfl (fun hb => time_no HN.out (by rw [HQ.out]; exact hb))
            have HP2 := Lib.hid (show ∀ i, 1 ≤ i → i < 4 → 0 ≤ tyR 23 xs i from fun i h1 h2 => by
              by_cases hi : i = 3
              · rw [hi, HU.out]; omega
              · exact hP.out i h1 (by omega))
            go_wp2_with fail
            go_roundw
            case rel => exact ⟨4, by omega, by omega, rfl, TN, HP2⟩
            case measure => simp [intOf]
          by_cases e4 : j = 4
          · subst e4
            replace hR : Hid (Tim w wr q Y (tyR 23 xs 1) (tyR 23 xs 2) (tyR 23 xs 3) 0 0) := hR
            have hs := HS4.out
            have hd := HD4.out wr (HB2.out wr hR.out.bel)
            obtain ⟨u, hu⟩ : ∃ u, tyR 23 xs 4 = u := ⟨_, rfl⟩
            rw [hu] at hd
            have HU := Lib.hid hu
            have HD := Lib.hid hd
            have hT := hR.out.step 4 (.int .i64 u) rfl
            rw [← hu] at hT
            have TN := Lib.hid (show Tim w (wr.setCell ⟨q + 1, 4, none⟩ (.int .i64 u)) q Y (tyR 23 xs 1) (tyR 23 xs 2) (tyR 23 xs 3) (tyR 23 xs 4) 0 from ⟨by have := hT.1; rw [hu] at this; exact this, by have := hT.2.1; rw [hu] at this ⊢; exact this, by have := hT.2.2; rw [hu] at this; exact this⟩)
            obtain ⟨⟨k0, k1, k2, k3, k4, k5⟩, ⟨r0, r1, r2, r3, r4, r5⟩, zq, zp⟩ := hR.out.cells
            clear hu hd hT hR
            go_wp2_with fail
            refine HD.out.mono ?_
            rintro e W2 ⟨rfl, rfl⟩
            clear HD hs
            by_cases hu0 : u < 0
            · have HN := Lib.hid (show tyOk 23 xs = false by unfold tyOk; rw [show ((List.range 6).all fun i => decide (0 ≤ tyR 23 xs i)) = false by rw [List.all_eq_false]; exact ⟨4, by decide, by rw [HU.out]; simpa using hu0⟩]; simp)
              go_wp2_with fail
              exact tim_leave TN.out 0 0 0 0 0 0 _ false rfl rfl rfl (fun hb => time_no HN.out (by rw [HQ.out]; exact hb))
            have HP2 := Lib.hid (show ∀ i, 1 ≤ i → i < 5 → 0 ≤ tyR 23 xs i from fun i h1 h2 => by
              by_cases hi : i = 4
              · rw [hi, HU.out]; omega
              · exact hP.out i h1 (by omega))
            go_wp2_with fail
            go_roundw
            case rel => exact ⟨5, by omega, by omega, rfl, TN, HP2⟩
            case measure => simp [intOf]
          by_cases e5 : j = 5
          · subst e5
            replace hR : Hid (Tim w wr q Y (tyR 23 xs 1) (tyR 23 xs 2) (tyR 23 xs 3) (tyR 23 xs 4) 0) := hR
            have hs := HS5.out
            have hd := HD5.out wr (HB2.out wr hR.out.bel)
            obtain ⟨u, hu⟩ : ∃ u, tyR 23 xs 5 = u := ⟨_, rfl⟩
            rw [hu] at hd
            have HU := Lib.hid hu
            have HD := Lib.hid hd
            have hT := hR.out.step 5 (.int .i64 u) rfl
            rw [← hu] at hT
            have TN := Lib.hid (show Tim w (wr.setCell ⟨q + 1, 5, none⟩ (.int .i64 u)) q Y (tyR 23 xs 1) (tyR 23 xs 2) (tyR 23 xs 3) (tyR 23 xs 4) (tyR 23 xs 5) from ⟨by have := hT.1; rw [hu] at this; exact this, by have := hT.2.1; rw [hu] at this ⊢; exact this, by have := hT.2.2; rw [hu] at this; exact this⟩)
            obtain ⟨⟨k0, k1, k2, k3, k4, k5⟩, ⟨r0, r1, r2, r3, r4, r5⟩, zq, zp⟩ := hR.out.cells
            clear hu hd hT hR
            go_wp2_with fail
            refine HD.out.mono ?_
            rintro e W2 ⟨rfl, rfl⟩
            clear HD hs
            by_cases hu0 : u < 0
            · have HN := Lib.hid (show tyOk 23 xs = false by unfold tyOk; rw [show ((List.range 6).all fun i => decide (0 ≤ tyR 23 xs i)) = false by rw [List.all_eq_false]; exact ⟨5, by decide, by rw [HU.out]; simpa using hu0⟩]; simp)
              go_wp2_with fail
              exact tim_leave TN.out 0 0 0 0 0 0 _ false rfl rfl rfl (fun hb => time_no HN.out (by rw [HQ.out]; exact hb))
            have HP2 := Lib.hid (show ∀ i, 1 ≤ i → i < 6 → 0 ≤ tyR 23 xs i from fun i h1 h2 => by
              by_cases hi : i = 5
              · rw [hi, HU.out]; omega
              · exact hP.out i h1 (by omega))
            go_wp2_with fail
            go_roundw
            case rel => exact ⟨6, by omega, by omega, rfl, TN, HP2⟩
            case measure => simp [intOf]
          obtain rfl : j = 6 := by omega
          replace hR : Hid (Tim w wr q Y (tyR 23 xs 1) (tyR 23 xs 2) (tyR 23 xs 3) (tyR 23 xs 4) (tyR 23 xs 5)) := hR
          have hall : ((List.range 6).all fun i => decide (0 ≤ tyR 23 xs i)) = true := by
            rw [List.all_eq_true]
            intro i hi
            have hi6 := List.mem_range.1 hi
            rw [decide_eq_true_eq]
            by_cases h0 : i = 0
            · rw [h0]; exact HYY.out
            · exact hP.out i (by omega) hi6
          have hok : tyOk 23 xs = decide (1 ≤ tyR 23 xs 1 ∧ tyR 23 xs 1 ≤ 12 ∧ 1 ≤ tyR 23 xs 2 ∧ tyR 23 xs 2 ≤ dys Y (tyR 23 xs 1) ∧ tyR 23 xs 3 ≤ 23 ∧ tyR 23 xs 4 ≤ 59 ∧ tyR 23 xs 5 ≤ 59) := by
            unfold tyOk
            rw [show tyN 23 = 2 from rfl, HL.out, HZ.out, hall, HYV.out]
            rfl
          have hlst : tyL 23 xs = [Y, tyR 23 xs 1, tyR 23 xs 2, tyR 23 xs 3, tyR 23 xs 4, tyR 23 xs 5] := by unfold tyL; rw [HYV.out]; rfl
          clear hP hall e1 e2 e3 e4 e5
          clear HS1 HS2 HS3 HS4 HS5 HD1 HD2 HD3 HD4 HD5 HB2 HL HC HB HZ HY H9 HYV HYY
          generalize tyR 23 xs 1 = v1 at *
          generalize tyR 23 xs 2 = v2 at *
          generalize tyR 23 xs 3 = v3 at *
          generalize tyR 23 xs 4 = v4 at *
          generalize tyR 23 xs 5 = v5 at *
          have hdd := fun k => (rdays_any (wr.drewN k) Y v1 HPOS.out).mono (fun e w2 (h : e = .returned (.int .i64 (dys Y v1)) ∧ w2 = wr.drewN k) => (⟨h.1, h.2.symm⟩ : e = .returned (.int .i64 (dys Y v1)) ∧ wr.drewN k = w2))
          generalize dys Y v1 = D at *
          have HOK := Lib.hid hok
          have HLS := Lib.hid hlst
          have HDD := Lib.hid hdd
          obtain ⟨⟨k0, k1, k2, k3, k4, k5⟩, ⟨r0, r1, r2, r3, r4, r5⟩, zq, zp⟩ := hR.out.cells
          clear hok hlst hdd HPOS
          go_wp2_with fail
          by_cases q0 : v1 < 1
          · have HN := Lib.hid (show tyOk 23 xs = false by rw [HOK.out]; exact decide_eq_false (by omega))
            have b0 : decide (v1 < 1) = true := decide_eq_true q0
            go_quiet (fail)
            go_wp2_with fail
            exact tim_leave (hR.out.drewN _) 0 0 0 0 0 0 _ false rfl rfl rfl (fun hb => time_no HN.out (by rw [HQ.out]; exact hb))
          have b0 : decide (v1 < 1) = false := decide_eq_false q0
          by_cases q1 : 12 < v1
          · have HN := Lib.hid (show tyOk 23 xs = false by rw [HOK.out]; exact decide_eq_false (by omega))
            have b1 : decide (12 < v1) = true := decide_eq_true q1
            go_quiet (fail)
            go_wp2_with fail
            exact tim_leave (hR.out.drewN _) 0 0 0 0 0 0 _ false rfl rfl rfl (fun hb => time_no HN.out (by rw [HQ.out]; exact hb))
          have b1 : decide (12 < v1) = false := decide_eq_false q1
          by_cases q2 : v2 < 1
          · have HN := Lib.hid (show tyOk 23 xs = false by rw [HOK.out]; exact decide_eq_false (by omega))
            have b2 : decide (v2 < 1) = true := decide_eq_true q2
            go_quiet (fail)
            go_wp2_with fail
            exact tim_leave (hR.out.drewN _) 0 0 0 0 0 0 _ false rfl rfl rfl (fun hb => time_no HN.out (by rw [HQ.out]; exact hb))
          have b2 : decide (v2 < 1) = false := decide_eq_false q2
          by_cases q3 : D < v2
          · have HN := Lib.hid (show tyOk 23 xs = false by rw [HOK.out]; exact decide_eq_false (by omega))
            have b3 : decide (D < v2) = true := decide_eq_true q3
            go_quiet ((go_at_call 58; exact quiet_same (HDD.out _)))
            go_wp2_with fail
            exact tim_leave (hR.out.drewN _) 0 0 0 0 0 0 _ false rfl rfl rfl (fun hb => time_no HN.out (by rw [HQ.out]; exact hb))
          have b3 : decide (D < v2) = false := decide_eq_false q3
          by_cases q4 : 23 < v3
          · have HN := Lib.hid (show tyOk 23 xs = false by rw [HOK.out]; exact decide_eq_false (by omega))
            have b4 : decide (23 < v3) = true := decide_eq_true q4
            go_quiet ((go_at_call 58; exact quiet_same (HDD.out _)))
            go_wp2_with fail
            exact tim_leave (hR.out.drewN _) 0 0 0 0 0 0 _ false rfl rfl rfl (fun hb => time_no HN.out (by rw [HQ.out]; exact hb))
          have b4 : decide (23 < v3) = false := decide_eq_false q4
          by_cases q5 : 59 < v4
          · have HN := Lib.hid (show tyOk 23 xs = false by rw [HOK.out]; exact decide_eq_false (by omega))
            have b5 : decide (59 < v4) = true := decide_eq_true q5
            go_quiet ((go_at_call 58; exact quiet_same (HDD.out _)))
            go_wp2_with fail
            exact tim_leave (hR.out.drewN _) 0 0 0 0 0 0 _ false rfl rfl rfl (fun hb => time_no HN.out (by rw [HQ.out]; exact hb))
          have b5 : decide (59 < v4) = false := decide_eq_false q5
          by_cases q6 : 59 < v5
          · have HN := Lib.hid (show tyOk 23 xs = false by rw [HOK.out]; exact decide_eq_false (by omega))
            have b6 : decide (59 < v5) = true := decide_eq_true q6
            go_quiet ((go_at_call 58; exact quiet_same (HDD.out _)))
            go_wp2_with fail
            exact tim_leave (hR.out.drewN _) 0 0 0 0 0 0 _ false rfl rfl rfl (fun hb => time_no HN.out (by rw [HQ.out]; exact hb))
          have b6 : decide (59 < v5) = false := decide_eq_false q6
          have HN := Lib.hid (show tyOk 23 xs = true by rw [HOK.out]; exact decide_eq_true (by omega))
          go_quiet ((go_at_call 58; exact quiet_same (HDD.out _)))
          go_wp2_with fail
          exact tim_leave (hR.out.drewN _) Y v1 v2 v3 v4 v5 _ true rfl rfl rfl (fun hb => ⟨by rw [HN.out, HLS.out]; rfl, by rw [HQ.out]; exact hb⟩)
      · have f1 : wrap64 (y + 2000) = y + 2000 := IntWalk.wrap64_in _ (by omega)
        have TIM2 := Lib.hid (show Tim w (X1.setCell ⟨q + 1, 0, none⟩ (.int .i64 (y + 2000))) q (y + 2000) 0 0 0 0 0 from (fun h => ⟨h.1, h.2.1, h.2.2⟩) (TIM1.out.step 0 (.int .i64 (y + 2000)) rfl))
        have HYV := Lib.hid (show tyV 23 xs 0 = y + 2000 by show tyY 23 (tyR 23 xs 0) = _; rw [HY.out]; unfold tyY; rw [if_pos rfl]; rw [if_neg h50])
        have HPOS := Lib.hid (show 0 ≤ y + 2000 by omega)
        clear h9
        go_upto_region 14 with (fail)
        clear f1 k0 k1 k2 k3 k4 k5 r0 r1 r2 r3 r4 r5 zq zp h50
        generalize X1.setCell ⟨q + 1, 0, none⟩ (.int .i64 (y + 2000)) = X2 at *
        generalize y + 2000 = Y at *
        have HYY := Lib.hid (show 0 ≤ tyR 23 xs 0 by rw [HY.out]; omega)
        clear hy0
        go_wp2_with fail
        go_loopw [8] (fun i wr => ∃ j : Nat, 1 ≤ j ∧ j ≤ 6 ∧ i = .int .i64 j ∧ Hid (Tim w wr q Y (if 1 < j then tyR 23 xs 1 else 0) (if 2 < j then tyR 23 xs 2 else 0) (if 3 < j then tyR 23 xs 3 else 0) (if 4 < j then tyR 23 xs 4 else 0) (if 5 < j then tyR 23 xs 5 else 0)) ∧ Hid (∀ i, 1 ≤ i → i < j → 0 ≤ tyR 23 xs i)) (fun i _ => 6 - (intOf i).toNat)
        case atStart => exact ⟨1, Nat.le_refl _, by omega, rfl, TIM2, Lib.hid (fun i h1 h2 => by omega)⟩
        case round =>
          clear TIM TIM1 TIM2
          obtain ⟨j, hj1, hj6, rfl, hR, hP⟩ := hrel
          by_cases e1 : j = 1
          · subst e1
            replace hR : Hid (Tim w wr q Y 0 0 0 0 0) := hR
            have hs := HS1.out
            have hd := HD1.out wr (HB2.out wr hR.out.bel)
            obtain ⟨u, hu⟩ : ∃ u, tyR 23 xs 1 = u := ⟨_, rfl⟩
            rw [hu] at hd
            have HU := Lib.hid hu
            have HD := Lib.hid hd
            have hT := hR.out.step 1 (.int .i64 u) rfl
            rw [← hu] at hT
            have TN := Lib.hid (show Tim w (wr.setCell ⟨q + 1, 1, none⟩ (.int .i64 u)) q Y (tyR 23 xs 1) 0 0 0 0 from ⟨by have := hT.1; rw [hu] at this; exact this, by have := hT.2.1; rw [hu] at this ⊢; exact this, by have := hT.2.2; rw [hu] at this; exact this⟩)
            obtain ⟨⟨k0, k1, k2, k3, k4, k5⟩, ⟨r0, r1, r2, r3, r4, r5⟩, zq, zp⟩ := hR.out.cells
            clear hu hd hT hR
            go_wp2_with fail
            refine HD.out.mono ?_
            rintro e W2 ⟨rfl, rfl⟩
            clear HD hs
            by_cases hu0 : u < 0
            · have HN := Lib.hid (show tyOk 23 xs = false by unfold tyOk; rw [show ((List.range 6).all fun i => decide (0 ≤ tyR 23 xs i)) = false by rw [List.all_eq_false]; exact ⟨1, by decide, by rw [HU.out]; simpa using hu0⟩]; simp)
              go_wp2_with fail
              exact tim_leave TN.out 0 0 0 0 0 0 _ false rfl rfl rfl (fun hb => time_no HN.out (by rw [HQ.out]; exact hb))
            have HP2 := Lib.hid (show ∀ i, 1 ≤ i → i < 2 → 0 ≤ tyR 23 xs i from fun i h1 h2 => by
              by_cases hi : i = 1
              · rw [hi, HU.out]; omega
              · exact hP.out i h1 (by omega))
            go_wp2_with fail
            go_roundw
            case rel => exact ⟨2, by omega, by omega, rfl, TN, HP2⟩
            case measure => simp [intOf]
          by_cases e2 : j = 2
          · subst e2
            replace hR : Hid (Tim w wr q Y (tyR 23 xs 1) 0 0 0 0) := hR
            have hs := HS2.out
            have hd := HD2.out wr (HB2.out wr hR.out.bel)
            obtain ⟨u, hu⟩ : ∃ u, tyR 23 xs 2 = u := ⟨_, rfl⟩
            rw [hu] at hd
            have HU := Lib.hid hu
            have HD := Lib.hid hd
            have hT := hR.out.step 2 (.int .i64 u) rfl
            rw [← hu] at hT
            have TN := Lib.hid (show Tim w (wr.setCell ⟨q + 1, 2, none⟩ (.int .i64 u)) q Y (tyR 23 xs 1) (tyR 23 xs 2) 0 0 0 from ⟨by have := hT.1; rw [hu] at this; exact this, by have := hT.2.1; rw [hu] at this ⊢; exact this, by have := hT.2.2; rw [hu] at this; exact this⟩)
            obtain ⟨⟨k0, k1, k2, k3, k4, k5⟩, ⟨r0, r1, r2, r3, r4, r5⟩, zq, zp⟩ := hR.out.cells
            clear hu hd hT hR
            go_wp2_with fail
            refine HD.out.mono ?_
            rintro e W2 ⟨rfl, rfl⟩
            clear HD hs
            by_cases hu0 : u < 0
            · have HN := Lib.hid (show tyOk 23 xs = false by unfold tyOk; rw [show ((List.range 6).all fun i => decide (0 ≤ tyR 23 xs i)) = false by rw [List.all_eq_false]; exact ⟨2, by decide, by rw [HU.out]; simpa using hu0⟩]; simp)
              go_wp2_with fail
              exact tim_leave TN.out 0 0 0 0 0 0 _ false rfl rfl rfl (fun hb => time_no HN.out (by rw [HQ.out]; exact hb))
            have HP2 := Lib.hid (show ∀ i, 1 ≤ i → i < 3 → 0 ≤ tyR 23 xs i from fun i h1 h2 => by
              by_cases hi : i = 2
              · rw [hi, HU.out]; omega
              · exact hP.out i h1 (by omega))
            go_wp2_with fail
            go_roundw
            case rel => exact ⟨3, by omega, by omega, rfl, TN, HP2⟩
            case measure => simp [intOf]
          by_cases e3 : j = 3
          · subst e3
            replace hR : Hid (Tim w wr q Y (tyR 23 xs 1) (tyR 23 xs 2) 0 0 0) := hR
            have hs := HS3.out
            have hd := HD3.out wr (HB2.out wr hR.out.bel)
            obtain ⟨u, hu⟩ : ∃ u, tyR 23 xs 3 = u := ⟨_, rfl⟩
            rw [hu] at hd
            have HU := Lib.hid hu
            have HD := Lib.hid hd
            have hT := hR.out.step 3 (.int .i64 u) rfl
            rw [← hu] at hT
            have TN := Lib.hid (show Tim w (wr.setCell ⟨q + 1, 3, none⟩ (.int .i64 u)) q Y (tyR 23 xs 1) (tyR 23 xs 2) (tyR 23 xs 3) 0 0 from ⟨by have := hT.1; rw [hu] at this; exact this, by have := hT.2.1; rw [hu] at this ⊢; exact this, by have := hT.2.2; rw [hu] at this; exact this⟩)
            obtain ⟨⟨k0, k1, k2, k3, k4, k5⟩, ⟨r0, r1, r2, r3, r4, r5⟩, zq, zp⟩ := hR.out.cells
            clear hu hd hT hR
            go_wp2_with fail
            refine HD.out.mono ?_
            rintro e W2 ⟨rfl, rfl⟩
            clear HD hs
            by_cases hu0 : u < 0
            · have HN := Lib.hid (show tyOk 23 xs = false by unfold tyOk; rw [show ((List.range 6).all fun i => decide (0 ≤ tyR 23 xs i)) = false by rw [List.all_eq_false]; exact ⟨3, by decide, by rw [HU.out]; simpa using hu0⟩]; simp)
              go_wp2_with fail
              exact tim_leave TN.out 0 0 0 0 0 0 _ false rfl rfl rfl (fun hb => time_no HN.out (by rw [HQ.out]; exact hb))
            have HP2 := Lib.hid (show ∀ i, 1 ≤ i → i < 4 → 0 ≤ tyR 23 xs i from fun i h1 h2 => by
              by_cases hi : i = 3
              · rw [hi, HU.out]; omega
              · exact hP.out i h1 (by omega))
            go_wp2_with fail
            go_roundw
            case rel => exact ⟨4, by omega, by omega, rfl, TN, HP2⟩
            case measure => simp [intOf]
          by_cases e4 : j = 4
          · subst e4
            replace hR : Hid (Tim w wr q Y (tyR 23 xs 1) (tyR 23 xs 2) (tyR 23 xs 3) 0 0) := hR
            have hs := HS4.out
            have hd := HD4.out wr (HB2.out wr hR.out.bel)
            obtain ⟨u, hu⟩ : ∃ u, tyR 23 xs 4 = u := ⟨_, rfl⟩
            rw [hu] at hd
            have HU := Lib.hid hu
            have HD := Lib.hid hd
            have hT := hR.out.step 4 (.int .i64 u) rfl
            rw [← hu] at hT
            have TN := Lib.hid (show Tim w (wr.setCell ⟨q + 1, 4, none⟩ (.int .i64 u)) q Y (tyR 23 xs 1) (tyR 23 xs 2) (tyR 23 xs 3) (tyR 23 xs 4) 0 from ⟨by have := hT.1; rw [hu] at this; exact this, by have := hT.2.1; rw [hu] at this ⊢; exact this, by have := hT.2.2; rw [hu] at this; exact this⟩)
            obtain ⟨⟨k0, k1, k2, k3, k4, k5⟩, ⟨r0, r1, r2, r3, r4, r5⟩, zq, zp⟩ := hR.out.cells
            clear hu hd hT hR
            go_wp2_with fail
            refine HD.out.mono ?_
            rintro e W2 ⟨rfl, rfl⟩
            clear HD hs
            by_cases hu0 : u < 0
            · have HN := Lib.hid (show tyOk 23 xs = false by unfold tyOk; rw [show ((List.range 6).all fun i => decide (0 ≤ tyR 23 xs i)) = false by rw [List.all_eq_false]; exact ⟨4, by decide, by rw [HU.out]; simpa using hu0⟩]; simp)
              go_wp2_with fail
              exact tim_leave TN.out 0 0 0 0 0 0 _ false rfl rfl rfl (fun hb => time_no HN.out (by rw [HQ.out]; exact hb))
            have HP2 := Lib.hid (show ∀ i, 1 ≤ i → i < 5 → 0 ≤ tyR 23 xs i from fun i h1 h2 => by
              by_cases hi : i = 4
              · rw [hi, HU.out]; omega
              · exact hP.out i h1 (by omega))
            go_wp2_with fail
            go_roundw
            case rel => exact ⟨5, by omega, by omega, rfl, TN, HP2⟩
            case measure => simp [intOf]
          by_cases e5 : j = 5
          · subst e5
            replace hR : Hid (Tim w wr q Y (tyR 23 xs 1) (tyR 23 xs 2) (tyR 23 xs 3) (tyR 23 xs 4) 0) := hR
            have hs := HS5.out
            have hd := HD5.out wr (HB2.out wr hR.out.bel)
            obtain ⟨u, hu⟩ : ∃ u, tyR 23 xs 5 = u := ⟨_, rfl⟩
            rw [hu] at hd
            have HU := Lib.hid hu
            have HD := Lib.hid hd
            have hT := hR.out.step 5 (.int .i64 u) rfl
            rw [← hu] at hT
            have TN := Lib.hid (show Tim w (wr.setCell ⟨q + 1, 5, none⟩ (.int .i64 u)) q Y (tyR 23 xs 1) (tyR 23 xs 2) (tyR 23 xs 3) (tyR 23 xs 4) (tyR 23 xs 5) from ⟨by have := hT.1; rw [hu] at this; exact this, by have := hT.2.1; rw [hu] at this ⊢; exact this, by have := hT.2.2; rw [hu] at this; exact this⟩)
            obtain ⟨⟨k0, k1, k2, k3, k4, k5⟩, ⟨r0, r1, r2, r3, r4, r5⟩, zq, zp⟩ := hR.out.cells
            clear hu hd hT hR
            go_wp2_with fail
            refine HD.out.mono ?_
            rintro e W2 ⟨rfl, rfl⟩
            clear HD hs
            by_cases hu0 : u < 0
            · have HN := Lib.hid (show tyOk 23 xs = false by unfold tyOk; rw [show ((List.range 6).all fun i => decide (0 ≤ tyR 23 xs i)) = false by rw [List.all_eq_false]; exact ⟨5, by decide, by rw [HU.out]; simpa using hu0⟩]; simp)
              go_wp2_with fail
              exact tim_leave TN.out 0 0 0 0 0 0 _ false rfl rfl rfl (fun hb => time_no HN.out (by rw [HQ.out]; exact hb))
            have HP2 := Lib.hid (show ∀ i, 1 ≤ i → i < 6 → 0 ≤ tyR 23 xs i from fun i h1 h2 => by
              by_cases hi : i = 5
              · rw [hi, HU.out]; omega
              · exact hP.out i h1 (by omega))
            go_wp2_with fail
            go_roundw
            case rel => exact ⟨6, by omega, by omega, rfl, TN, HP2⟩
            case measure => simp [intOf]
          obtain rfl : j = 6 := by omega
          replace hR : Hid (Tim w wr q Y (tyR 23 xs 1) (tyR 23 xs 2) (tyR 23 xs 3) (tyR 23 xs 4) (tyR 23 xs 5)) := hR
          have hall : ((List.range 6).all fun i => decide (0 ≤ tyR 23 xs i)) = true := by
            rw [List.all_eq_true]
            intro i hi
            have hi6 := List.mem_range.1 hi
            rw [decide_eq_true_eq]
            by_cases h0 : i = 0
            · rw [h0]; exact HYY.out
            · exact hP.out i (by omega) hi6
          have hok : tyOk 23 xs = decide (1 ≤ tyR 23 xs 1 ∧ tyR 23 xs 1 ≤ 12 ∧ 1 ≤ tyR 23 xs 2 ∧ tyR 23 xs 2 ≤ dys Y (tyR 23 xs 1) ∧ tyR 23 xs 3 ≤ 23 ∧ tyR 23 xs 4 ≤ 59 ∧ tyR 23 xs 5 ≤ 59) := by
            unfold tyOk
            rw [show tyN 23 = 2 from rfl, HL.out, HZ.out, hall, HYV.out]
            rfl
          have hlst : tyL 23 xs = [Y, tyR 23 xs 1, tyR 23 xs 2, tyR 23 xs 3, tyR 23 xs 4, tyR 23 xs 5] := by unfold tyL; rw [HYV.out]; rfl
          clear hP hall e1 e2 e3 e4 e5
          clear HS1 HS2 HS3 HS4 HS5 HD1 HD2 HD3 HD4 HD5 HB2 HL HC HB HZ HY H9 HYV HYY
          generalize tyR 23 xs 1 = v1 at *
          generalize tyR 23 xs 2 = v2 at *
          generalize tyR 23 xs 3 = v3 at *
          generalize tyR 23 xs 4 = v4 at *
          generalize tyR 23 xs 5 = v5 at *
          have hdd := fun k => (rdays_any (wr.drewN k) Y v1 HPOS.out).mono (fun e w2 (h : e = .returned (.int .i64 (dys Y v1)) ∧ w2 = wr.drewN k) => (⟨h.1, h.2.symm⟩ : e = .returned (.int .i64 (dys Y v1)) ∧ wr.drewN k = w2))
          generalize dys Y v1 = D at *
          have HOK := Lib.hid hok
          have HLS := Lib.hid hlst
          have HDD := Lib.hid hdd
          obtain ⟨⟨k0, k1, k2, k3, k4, k5⟩, ⟨r0, r1, r2, r3, r4, r5⟩, zq, zp⟩ := hR.out.cells
          clear hok hlst hdd HPOS
          go_wp2_with fail
          by_cases q0 : v1 < 1
          · have HN := Lib.hid (show tyOk 23 xs = false by rw [HOK.out]; exact decide_eq_false (by omega))
            have b0 : decide (v1 < 1) = true := decide_eq_true q0
            go_quiet (fail)
            go_wp2_with fail
            exact tim_leave (hR.out.drewN _) 0 0 0 0 0 0 _ false rfl rfl rfl (fun hb => time_no HN.out (by rw [HQ.out]; exact hb))
          have b0 : decide (v1 < 1) = false := decide_eq_false q0
          by_cases q1 : 12 < v1
          · have HN := Lib.hid (show tyOk 23 xs = false by rw [HOK.out]; exact decide_eq_false (by omega))
            have b1 : decide (12 < v1) = true := decide_eq_true q1
            go_quiet (fail)
            go_wp2_with fail
            exact tim_leave (hR.out.drewN _) 0 0 0 0 0 0 _ false rfl rfl rfl (fun hb => time_no HN.out (by rw [HQ.out]; exact hb))
          have b1 : decide (12 < v1) = false := decide_eq_false q1
          by_cases q2 : v2 < 1
          · have HN := Lib.hid (show tyOk 23 xs = false by rw [HOK.out]; exact decide_eq_false (by omega))
            have b2 : decide (v2 < 1) = true := decide_eq_true q2
            go_quiet (fail)
            go_wp2_with fail
            exact tim_leave (hR.out.drewN _) 0 0 0 0 0 0 _ false rfl rfl rfl (fun hb => time_no HN.out (by rw [HQ.out]; exact hb))
          have b2 : decide (v2 < 1) = false := decide_eq_false q2
          by_cases q3 : D < v2
          · have HN := Lib.hid (show tyOk 23 xs = false by rw [HOK.out]; exact decide_eq_false (by omega))
            have b3 : decide (D < v2) = true := decide_eq_true q3
            go_quiet ((go_at_call 58; exact quiet_same (HDD.out _)))
            go_wp2_with fail
            exact tim_leave (hR.out.drewN _) 0 0 0 0 0 0 _ false rfl rfl rfl (fun hb => time_no HN.out (by rw [HQ.out]; exact hb))
          have b3 : decide (D < v2) = false := decide_eq_false q3
          by_cases q4 : 23 < v3
          · have HN := Lib.hid (show tyOk 23 xs = false by rw [HOK.out]; exact decide_eq_false (by omega))
            have b4 : decide (23 < v3) = true := decide_eq_true q4
            go_quiet ((go_at_call 58; exact quiet_same (HDD.out _)))
            go_wp2_with fail
            exact tim_leave (hR.out.drewN _) 0 0 0 0 0 0 _ false rfl rfl rfl (fun hb => time_no HN.out (by rw [HQ.out]; exact hb))
          have b4 : decide (23 < v3) = false := decide_eq_false q4
          by_cases q5 : 59 < v4
          · have HN := Lib.hid (show tyOk 23 xs = false by rw [HOK.out]; exact decide_eq_false (by omega))
            have b5 : decide (59 < v4) = true := decide_eq_true q5
            go_quiet ((go_at_call 58; exact quiet_same (HDD.out _)))
            go_wp2_with fail
            exact tim_leave (hR.out.drewN _) 0 0 0 0 0 0 _ false rfl rfl rfl (fun hb => time_no HN.out (by rw [HQ.out]; exact hb))
          have b5 : decide (59 < v4) = false := decide_eq_false q5
          by_cases q6 : 59 < v5
          · have HN := Lib.hid (show tyOk 23 xs = false by rw [HOK.out]; exact decide_eq_false (by omega))
            have b6 : decide (59 < v5) = true := decide_eq_true q6
            go_quiet ((go_at_call 58; exact quiet_same (HDD.out _)))
            go_wp2_with fail
            exact tim_leave (hR.out.drewN _) 0 0 0 0 0 0 _ false rfl rfl rfl (fun hb => time_no HN.out (by rw [HQ.out]; exact hb))
          have b6 : decide (59 < v5) = false := decide_eq_false q6
          have HN := Lib.hid (show tyOk 23 xs = true by rw [HOK.out]; exact decide_eq_true (by omega))
          go_quiet ((go_at_call 58; exact quiet_same (HDD.out _)))
          go_wp2_with fail
          exact tim_leave (hR.out.drewN _) Y v1 v2 v3 v4 v5 _ true rfl rfl rfl (fun hb => ⟨by rw [HN.out, HLS.out]; rfl, by rw [HQ.out]; exact hb⟩)
    · have hzf : ((z : Int) != 90) = true := bne_iff_ne.2 (by omega)
      have HN := Lib.hid (show tyOk 23 xs = false by unfold tyOk; rw [show tyN 23 = 2 from rfl, HL.out, HZ.out]; simp; omega)
      clear hz90
      go_enter Tryd.func49, Tryd.ntmps49
      go_wp2_with fail
      refine bodyPost_ret (results_time _ _ q _ _ rfl TIM.out.res rfl) rfl (time_no HN.out (by rw [hq]; exact TIM.out.bel))
  · have hlf : ((L : Int) != 13) = true := bne_iff_ne.2 (by omega)
    have HN := Lib.hid (show tyOk 23 xs = false by unfold tyOk; rw [show tyN 23 = 2 from rfl, HL.out]; simp; omega)
    clear hlen
    go_enter Tryd.func49, Tryd.ntmps49
    go_wp2_with fail
    refine bodyPost_ret (results_time _ _ q _ _ rfl TIM.out.res rfl) rfl (time_no HN.out (by rw [hq]; exact TIM.out.bel))


set_option maxRecDepth 100000 in
set_option maxHeartbeats 4000000 in
theorem rtime24 (w : World) (A : Option Addr) (c : Nat) (xs : List UInt8) (hb : Byt w w.heap.size A xs) (hl : xs.length ≤ c) :
    Calls Tryd.prog 49 #[.int .i64 24, .slice A xs.length c] w (TimePost w 24 xs) := by
  obtain ⟨q, hq⟩ : ∃ q, w.heap.size = q := ⟨_, rfl⟩
  have HQ := Lib.hid hq
  have g1 := Whole.new w #[.int .i64 0, .int .i64 0, .int .i64 0, .int .i64 0, .int .i64 0, .int .i64 0] 91
  have TIM := Lib.hid (show Tim w ((w.alloc (.cells #[.int .i64 0, .int .i64 0, .int .i64 0, .int .i64 0, .int .i64 0, .int .i64 0] 91)).alloc (.cells #[.int .i64 0, .int .i64 0, .int .i64 0, .int .i64 0, .int .i64 0, .int .i64 0] 91)) q 0 0 0 0 0 0 from by
    rw [hq] at g1
    refine ⟨g1.grew (grew_alloc (grew_refl _ none) _) (by simp), ?_, ?_⟩
    · have := Whole.new (w.alloc (.cells #[.int .i64 0, .int .i64 0, .int .i64 0, .int .i64 0, .int .i64 0, .int .i64 0] 91)) #[.int .i64 0, .int .i64 0, .int .i64 0, .int .i64 0, .int .i64 0, .int .i64 0] 91
      rw [World.size_alloc, hq] at this
      exact this
    · rw [← hq]
      exact ((Below.refl _ w).alloc (Nat.le_refl _) _).alloc (by simp) _)
  obtain ⟨L, hL⟩ : ∃ L, xs.length = L := ⟨_, rfl⟩
  have HL := Lib.hid hL
  have HB := Lib.hid hb
  rw [hL] at hl ⊢
  have HC := Lib.hid hl
  clear g1 hb hL hl
  by_cases hlen : L = 15
  · subst hlen
    obtain ⟨b, o, rfl, -, hc⟩ := HB.out (by rw [HL.out]; omega)
    obtain ⟨z, hz⟩ : ∃ z, (xs.getD 14 0).toNat = z := ⟨_, rfl⟩
    have hz256 : z < 256 := by rw [← hz]; exact UInt8.toNat_lt _
    have c1 : ((w.alloc (.cells #[.int .i64 0, .int .i64 0, .int .i64 0, .int .i64 0, .int .i64 0, .int .i64 0] 91)).alloc (.cells #[.int .i64 0, .int .i64 0, .int .i64 0, .int .i64 0, .int .i64 0, .int .i64 0] 91)).cell? ⟨b, o + 14, none⟩ = some (.int .u8 (z : Int)) := by
      obtain ⟨b', o', e', hb', _⟩ := HB.out (by rw [HL.out]; omega)
      cases e'
      rw [TIM.out.bel.cell (p := ⟨b, o + 14, none⟩) (by show b < q; rw [← hq]; exact hb'), hc 14 (by rw [HL.out]; omega), hz]
    have HZ := Lib.hid hz
    clear hc hz
    by_cases hz90 : z = 90
    · subst hz90
      have hcc := HC.out
      have hs0 : ∀ W : World, (Instr.slice 22 (.slice (some ⟨b, o, none⟩) 15 c) none (some (.int .i64 4)) none).run Tryd.prog W = .ok (.slice (some ⟨b, o, none⟩) 4 c) W := fun W => slice_to W b o 15 c 4 (by omega)
      have HS1 := Lib.hid (show ∀ W : World, (Instr.slice 22 (.slice (some ⟨b, o, none⟩) 15 c) (some (.int .i64 4)) (some (.int .i64 6)) none).run Tryd.prog W = .ok (.slice (some ⟨b, o + 4, none⟩) 2 (c - 4)) W from fun W => slice_at W b o 15 c 4 6 (by omega) (by omega))
      have HD1 := Lib.hid (show ∀ (W : World), Byt W W.heap.size (some ⟨b, o, none⟩) xs → Calls Tryd.prog 57 #[.slice (some ⟨b, o + 4, none⟩) 2 (c - 4)] W fun e w' => e = .returned (.int .i64 (tyR 24 xs 1)) ∧ w' = W from fun W h => by
        have el : ((xs.drop 4).take 2).length = 2 := by rw [List.length_take, List.length_drop, HL.out]; rfl
        have := rdigits_any W (some ⟨b, o + 4, none⟩) (c - 4) ((xs.drop 4).take 2) (byt_sub h) (by omega)
        rw [el] at this
        exact this)
      have HS2 := Lib.hid (show ∀ W : World, (Instr.slice 22 (.slice (some ⟨b, o, none⟩) 15 c) (some (.int .i64 6)) (some (.int .i64 8)) none).run Tryd.prog W = .ok (.slice (some ⟨b, o + 6, none⟩) 2 (c - 6)) W from fun W => slice_at W b o 15 c 6 8 (by omega) (by omega))
      have HD2 := Lib.hid (show ∀ (W : World), Byt W W.heap.size (some ⟨b, o, none⟩) xs → Calls Tryd.prog 57 #[.slice (some ⟨b, o + 6, none⟩) 2 (c - 6)] W fun e w' => e = .returned (.int .i64 (tyR 24 xs 2)) ∧ w' = W from fun W h => by
        have el : ((xs.drop 6).take 2).length = 2 := by rw [List.length_take, List.length_drop, HL.out]; rfl
        have := rdigits_any W (some ⟨b, o + 6, none⟩) (c - 6) ((xs.drop 6).take 2) (byt_sub h) (by omega)
        rw [el] at this
        exact this)
      have HS3 := Lib.hid (show ∀ W : World, (Instr.slice 22 (.slice (some ⟨b, o, none⟩) 15 c) (some (.int .i64 8)) (some (.int .i64 10)) none).run Tryd.prog W = .ok (.slice (some ⟨b, o + 8, none⟩) 2 (c - 8)) W from fun W => slice_at W b o 15 c 8 10 (by omega) (by omega))
      have HD3 := Lib.hid (show ∀ (W : World), Byt W W.heap.size (some ⟨b, o, none⟩) xs → Calls Tryd.prog 57 #[.slice (some ⟨b, o + 8, none⟩) 2 (c - 8)] W fun e w' => e = .returned (.int .i64 (tyR 24 xs 3)) ∧ w' = W from fun W h => by
        have el : ((xs.drop 8).take 2).length = 2 := by rw [List.length_take, List.length_drop, HL.out]; rfl
        have := rdigits_any W (some ⟨b, o + 8, none⟩) (c - 8) ((xs.drop 8).take 2) (byt_sub h) (by omega)
        rw [el] at this
        exact this)
      have HS4 := Lib.hid (show ∀ W : World, (Instr.slice 22 (.slice (some ⟨b, o, none⟩) 15 c) (some (.int .i64 10)) (some (.int .i64 12)) none).run Tryd.prog W = .ok (.slice (some ⟨b, o + 10, none⟩) 2 (c - 10)) W from fun W => slice_at W b o 15 c 10 12 (by omega) (by omega))
      have HD4 := Lib.hid (show ∀ (W : World), Byt W W.heap.size (some ⟨b, o, none⟩) xs → Calls Tryd.prog 57 #[.slice (some ⟨b, o + 10, none⟩) 2 (c - 10)] W fun e w' => e = .returned (.int .i64 (tyR 24 xs 4)) ∧ w' = W from fun W h => by
        have el : ((xs.drop 10).take 2).length = 2 := by rw [List.length_take, List.length_drop, HL.out]; rfl
        have := rdigits_any W (some ⟨b, o + 10, none⟩) (c - 10) ((xs.drop 10).take 2) (byt_sub h) (by omega)
        rw [el] at this
        exact this)
      have HS5 := Lib.hid (show ∀ W : World, (Instr.slice 22 (.slice (some ⟨b, o, none⟩) 15 c) (some (.int .i64 12)) (some (.int .i64 14)) none).run Tryd.prog W = .ok (.slice (some ⟨b, o + 12, none⟩) 2 (c - 12)) W from fun W => slice_at W b o 15 c 12 14 (by omega) (by omega))
      have HD5 := Lib.hid (show ∀ (W : World), Byt W W.heap.size (some ⟨b, o, none⟩) xs → Calls Tryd.prog 57 #[.slice (some ⟨b, o + 12, none⟩) 2 (c - 12)] W fun e w' => e = .returned (.int .i64 (tyR 24 xs 5)) ∧ w' = W from fun W h => by
        have el : ((xs.drop 12).take 2).length = 2 := by rw [List.length_take, List.length_drop, HL.out]; rfl
        have := rdigits_any W (some ⟨b, o + 12, none⟩) (c - 12) ((xs.drop 12).take 2) (byt_sub h) (by omega)
        rw [el] at this
        exact this)
      have hd0 := fun (W : World) (h : Byt W W.heap.size (some ⟨b, o, none⟩) xs) => rdigits_any W (some ⟨b, o, none⟩) c (xs.take 4) (h.take 4) (by rw [List.length_take]; omega)
      have el : (xs.take 4).length = 4 := by rw [List.length_take, HL.out]; rfl
      have er : dgs (xs.take 4) = tyR 24 xs 0 := rfl
      have h9 := dgs_le (xs.take 4) (by rw [el]; omega)
      rw [el, er] at hd0
      rw [er] at h9
      have HB2 := Lib.hid (show ∀ W, Below q w W → Byt W W.heap.size (some ⟨b, o, none⟩) xs from fun W hW => (byt_below HB.out hW (by omega)).more hW.size)
      obtain ⟨y, hy⟩ : ∃ y, tyR 24 xs 0 = y := ⟨_, rfl⟩
      rw [hy] at hd0 h9
      have HD0 := Lib.hid hd0
      have HY := Lib.hid hy
      have H9 := Lib.hid h9
      clear hd0 hy h9 el er hcc
      go_enter Tryd.func49, Tryd.ntmps49
      go_wp2_with fail
      generalize (w.alloc (.cells #[.int .i64 0, .int .i64 0, .int .i64 0, .int .i64 0, .int .i64 0, .int .i64 0] 91)).alloc (.cells #[.int .i64 0, .int .i64 0, .int .i64 0, .int .i64 0, .int .i64 0, .int .i64 0] 91) = X at *
      refine (HD0.out X (HB2.out X TIM.out.bel)).mono ?_
      rintro e W1 ⟨rfl, rfl⟩
      clear c1 hs0 HD0
      obtain ⟨⟨k0, k1, k2, k3, k4, k5⟩, ⟨r0, r1, r2, r3, r4, r5⟩, zq, zp⟩ := TIM.out.cells
      have TIM1 := Lib.hid (show Tim w (W1.setCell ⟨q + 1, 0, none⟩ (.int .i64 y)) q y 0 0 0 0 0 from (fun h => ⟨h.1, h.2.1, h.2.2⟩) (TIM.out.step 0 (.int .i64 y) rfl))
      by_cases hy0 : y < 0
      · have HN := Lib.hid (show tyOk 24 xs = false by unfold tyOk; rw [show ((List.range 6).all fun i => decide (0 ≤ tyR 24 xs i)) = false by rw [List.all_eq_false]; exact ⟨0, by decide, by rw [HY.out]; simpa using hy0⟩]; simp)
        go_wp2_with fail
        exact tim_leave TIM1.out 0 0 0 0 0 0 _ false rfl rfl rfl (fun hb => time_no HN.out (by rw [hq]; exact hb))
      go_upto_region 10 with (fail)
      clear k0 k1 k2 k3 k4 k5 r0 r1 r2 r3 r4 r5 zq zp
      generalize W1.setCell ⟨q + 1, 0, none⟩ (.int .i64 y) = X1 at *
      have h9 := H9.out
      obtain ⟨Y, hY⟩ : ∃ Y, tyV 24 xs 0 = Y := ⟨_, rfl⟩
      obtain rfl : y = Y := by rw [← hY, ← HY.out]; rfl
      have HYV := Lib.hid hY
      have TIM2 := TIM1
      have HPOS := Lib.hid (show 0 ≤ y by omega)
      have X2eq := Lib.hid (show X1 = X1 from rfl)
      clear hY h9
      have HYY := Lib.hid (show 0 ≤ tyR 24 xs 0 by rw [HY.out]; omega)
      clear hy0
      go_wp2_with fail
      go_loopw [8] (fun i wr => ∃ j : Nat, 1 ≤ j ∧ j ≤ 6 ∧ i = .int .i64 j ∧ Hid (Tim w wr q y (if 1 < j then tyR 24 xs 1 else 0) (if 2 < j then tyR 24 xs 2 else 0) (if 3 < j then tyR 24 xs 3 else 0) (if 4 < j then tyR 24 xs 4 else 0) (if 5 < j then tyR 24 xs 5 else 0)) ∧ Hid (∀ i, 1 ≤ i → i < j → 0 ≤ tyR 24 xs i)) (fun i _ => 6 - (intOf i).toNat)
      case atStart => exact ⟨1, Nat.le_refl _, by omega, rfl, TIM2, Lib.hid (fun i h1 h2 => by omega)⟩
      case round =>
        clear TIM TIM1 TIM2
        obtain ⟨j, hj1, hj6, rfl, hR, hP⟩ := hrel
        by_cases e1 : j = 1
        · subst e1
          replace hR : Hid (Tim w wr q y 0 0 0 0 0) := hR
          have hs := HS1.out
          have hd := HD1.out wr (HB2.out wr hR.out.bel)
          obtain ⟨u, hu⟩ : ∃ u, tyR 24 xs 1 = u := ⟨_, rfl⟩
          rw [hu] at hd
          have HU := Lib.hid hu
          have HD := Lib.hid hd
          have hT := hR.out.step 1 (.int .i64 u) rfl
          rw [← hu] at hT
          have TN := Lib.hid (show Tim w (wr.setCell ⟨q + 1, 1, none⟩ (.int .i64 u)) q y (tyR 24 xs 1) 0 0 0 0 from ⟨by have := hT.1; rw [hu] at this; exact this, by have := hT.2.1; rw [hu] at this ⊢; exact this, by have := hT.2.2; rw [hu] at this; exact this⟩)
          obtain ⟨⟨k0, k1, k2, k3, k4, k5⟩, ⟨r0, r1, r2, r3, r4, r5⟩, zq, zp⟩ := hR.out.cells
          clear hu hd hT hR
          go_wp2_with fail
          refine HD.out.mono ?_
          rintro e W2 ⟨rfl, rfl⟩
          clear HD hs
          by_cases hu0 : u < 0
          · have HN := Lib.hid (show tyOk 24 xs = false by unfold tyOk; rw [show ((List.range 6).all fun i => decide (0 ≤ tyR 24 xs i)) = false by rw [List.all_eq_false]; exact ⟨1, by decide, by rw [HU.out]; simpa using hu0⟩]; simp)
            go_wp2_with fail
            exact tim_leave TN.out 0 0 0 0 0 0 _ false rfl rfl rfl (fun hb => time_no HN.out (by rw [HQ.out]; exact hb))
          have HP2 := Lib.hid (show ∀ i, 1 ≤ i → i < 2 → 0 ≤ tyR 24 xs i from fun i h1 h2 => by
            by_cases hi : i = 1
            · rw [hi, HU.out]; omega
            · exact hP.out i h1 (by omega))
          go_wp2_with fail
          go_roundw
          case rel => exact ⟨2, by omega, by omega, rfl, TN, HP2⟩
          case measure => simp [intOf]
        by_cases e2 : j = 2
        · subst e2
          replace hR : Hid (Tim w wr q y (tyR 24 xs 1) 0 0 0 0) := hR
          have hs := HS2.out
          have hd := HD2.out wr (HB2.out wr hR.out.bel)
          obtain ⟨u, hu⟩ : ∃ u, tyR 24 xs 2 = u := ⟨_, rfl⟩
          rw [hu] at hd
          have HU := Lib.hid hu
          have HD := Lib.hid hd
          have hT := hR.out.step 2 (.int .i64 u) rfl
          rw [← hu] at hT
          have TN := Lib.hid (show Tim w (wr.setCell ⟨q + 1, 2, none⟩ (.int .i64 u)) q y (tyR 24 xs 1) (tyR 24 xs 2) 0 0 0 from ⟨by have := hT.1; rw [hu] at this; exact this, by have := hT.2.1; rw [hu] at this ⊢; exact this, by have := hT.2.2; rw [hu] at this; exact this⟩)
          obtain ⟨⟨k0, k1, k2, k3, k4, k5⟩, ⟨r0, r1, r2, r3, r4, r5⟩, zq, zp⟩ := hR.out.cells
          clear hu hd hT hR
          go_wp2_with fail
          refine HD.out.mono ?_
          rintro e W2 ⟨rfl, rfl⟩
          clear HD hs
          by_cases hu0 : u < 0
          · have HN := Lib.hid (show tyOk 24 xs = false by unfold tyOk; rw [show ((List.range 6).all fun i => decide (0 ≤ tyR 24 xs i)) = false by rw [List.all_eq_false]; exact ⟨2, by decide, by rw [HU.out]; simpa using hu0⟩]; simp)
            go_wp2_with fail
            exact tim_leave TN.out 0 0 0 0 0 0 _ false rfl rfl rfl (fun hb => time_no HN.out (by rw [HQ.out]; exact hb))
          have HP2 := Lib.hid (show ∀ i, 1 ≤ i → i < 3 → 0 ≤ tyR 24 xs i from fun i h1 h2 => by
            by_cases hi : i = 2
            · rw [hi, HU.out]; omega
            · exact hP.out i h1 (by omega))
          go_wp2_with fail
          go_roundw
          case rel => exact ⟨3, by omega, by omega, rfl, TN, HP2⟩
          case measure => simp [intOf]
        by_cases e3 : j = 3
        · subst e3
          replace hR : Hid (Tim w wr q y (tyR 24 xs 1) (tyR 24 xs 2) 0 0 0) := hR
          have hs := HS3.out
          have hd := HD3.out wr (HB2.out wr hR.out.bel)
          obtain ⟨u, hu⟩ : ∃ u, tyR 24 xs 3 = u := ⟨_, rfl⟩
          rw [hu] at hd
          have HU := Lib.hid hu
          have HD := Lib.hid hd
          have hT := hR.out.step 3 (.int .i64 u) rfl
          rw [← hu] at hT
          have TN := Lib.hid (show Tim w (wr.setCell ⟨q + 1, 3, none⟩ (.int .i64 u)) q y (tyR 24 xs 1) (tyR 24 xs 2) (tyR 24 xs 3) 0 0 from ⟨by have := hT.1; rw [hu] at this; exact this, by have := hT.2.1; rw [hu] at this ⊢; exact this, by have := hT.2.2; rw [hu] at this; exact this⟩)
          obtain ⟨⟨k0, k1, k2, k3, k4, k5⟩, ⟨r0, r1, r2, r3, r4, r5⟩, zq, zp⟩ := hR.out.cells
          clear hu hd hT hR
          go_wp2_with fail
          refine HD.out.mono ?_
          rintro e W2 ⟨rfl, rfl⟩
          clear HD hs
          by_cases hu0 : u < 0
          · have HN := Lib.hid (show tyOk 24 xs = false by unfold tyOk; rw [show ((List.range 6).all fun i => decide (0 ≤ tyR 24 xs i)) = false by rw [List.all_eq_false]; exact ⟨3, by decide, by rw [HU.out]; simpa using hu0⟩]; simp)
            go_wp2_with fail
            exact tim_leave TN.out 0 0 0 0 0 0 _ false rfl rfl rfl (fun hb => time_no HN.out (by rw [HQ.out]; exact hb))
          have HP2 := Lib.hid (show ∀ i, 1 ≤ i → i < 4 → 0 ≤ tyR 24 xs i from fun i h1 h2 => by
            by_cases hi : i = 3
            · rw [hi, HU.out]; omega
            · exact hP.out i h1 (by omega))
          go_wp2_with fail
          go_roundw
          case rel => exact ⟨4, by omega, by omega, rfl, TN, HP2⟩
          case measure => simp [intOf]
        by_cases e4 : j = 4
        · subst e4
          replace hR : Hid (Tim w wr q y (tyR 24 xs 1) (tyR 24 xs 2) (tyR 24 xs 3) 0 0) := hR
          have hs := HS4.out
          have hd := HD4.out wr (HB2.out wr hR.out.bel)
          obtain ⟨u, hu⟩ : ∃ u, tyR 24 xs 4 = u := ⟨_, rfl⟩
          rw [hu] at hd
          have HU := Lib.hid hu
          have HD := Lib.hid hd
          have hT := hR.out.step 4 (.int .i64 u) rfl
          rw [← hu] at hT
          have TN := Lib.hid (show Tim w (wr.setCell ⟨q + 1, 4, none⟩ (.int .i64 u)) q y (tyR 24 xs 1) (tyR 24 xs 2) (tyR 24 xs 3) (tyR 24 xs 4) 0 from ⟨by have := hT.1; rw [hu] at this; exact this, by have := hT.2.1; rw [hu] at this ⊢; exact this, by have := hT.2.2; rw [hu] at this; exact this⟩)
          obtain ⟨⟨k0, k1, k2, k3, k4, k5⟩, ⟨r0, r1, r2, r3, r4, r5⟩, zq, zp⟩ := hR.out.cells
          clear hu hd hT hR
          go_wp2_with fail
          refine HD.out.mono ?_
          rintro e W2 ⟨rfl, rfl⟩
          clear HD hs
          by_cases hu0 : u < 0
          · have HN := Lib.hid (show tyOk 24 xs = false by unfold tyOk; rw [show ((List.range 6).all fun i => decide (0 ≤ tyR 24 xs i)) = false by rw [List.all_eq_false]; exact ⟨4, by decide, by rw [HU.out]; simpa using hu0⟩]; simp)
            go_wp2_with fail
            exact tim_leave TN.out 0 0 0 0 0 0 _ false rfl rfl rfl (fun hb => time_no HN.out (by rw [HQ.out]; exact hb))
          have HP2 := Lib.hid (show ∀ i, 1 ≤ i → i < 5 → 0 ≤ tyR 24 xs i from fun i h1 h2 => by
            by_cases hi : i = 4
            · rw [hi, HU.out]; omega
            · exact hP.out i h1 (by omega))
          go_wp2_with fail
          go_roundw
          case rel => exact ⟨5, by omega, by omega, rfl, TN, HP2⟩
          case measure => simp [intOf]
        by_cases e5 : j = 5
        · subst e5
          replace hR : Hid (Tim w wr q y (tyR 24 xs 1) (tyR 24 xs 2) (tyR 24 xs 3) (tyR 24 xs 4) 0) := hR
          have hs := HS5.out
          have hd := HD5.out wr (HB2.out wr hR.out.bel)
          obtain ⟨u, hu⟩ : ∃ u, tyR 24 xs 5 = u := ⟨_, rfl⟩
          rw [hu] at hd
          have HU := Lib.hid hu
          have HD := Lib.hid hd
          have hT := hR.out.step 5 (.int .i64 u) rfl
          rw [← hu] at hT
          have TN := Lib.hid (show Tim w (wr.setCell ⟨q + 1, 5, none⟩ (.int .i64 u)) q y (tyR 24 xs 1) (tyR 24 xs 2) (tyR 24 xs 3) (tyR 24 xs 4) (tyR 24 xs 5) from ⟨by have := hT.1; rw [hu] at this; exact this, by have := hT.2.1; rw [hu] at this ⊢; exact this, by have := hT.2.2; rw [hu] at this; exact this⟩)
          obtain ⟨⟨k0, k1, k2, k3, k4, k5⟩, ⟨r0, r1, r2, r3, r4, r5⟩, zq, zp⟩ := hR.out.cells
          clear hu hd hT hR
          go_wp2_with fail
          refine HD.out.mono ?_
          rintro e W2 ⟨rfl, rfl⟩
          clear HD hs
          by_cases hu0 : u < 0
          · have HN := Lib.hid (show tyOk 24 xs = false by unfold tyOk; rw [show ((List.range 6).all fun i => decide (0 ≤ tyR 24 xs i)) = false by rw [List.all_eq_false]; exact ⟨5, by decide, by rw [HU.out]; simpa using hu0⟩]; simp)
            go_wp2_with fail
            exact tim_leave TN.out 0 0 0 0 0 0 _ false rfl rfl rfl (fun hb => time_no HN.out (by rw [HQ.out]; exact hb))
          have HP2 := Lib.hid (show ∀ i, 1 ≤ i → i < 6 → 0 ≤ tyR 24 xs i from fun i h1 h2 => by
            by_cases hi : i = 5
            · rw [hi, HU.out]; omega
            · exact hP.out i h1 (by omega))
          go_wp2_with fail
          go_roundw
          case rel => exact ⟨6, by omega, by omega, rfl, TN, HP2⟩
          case measure => simp [intOf]
        obtain rfl : j = 6 := by omega
        replace hR : Hid (Tim w wr q y (tyR 24 xs 1) (tyR 24 xs 2) (tyR 24 xs 3) (tyR 24 xs 4) (tyR 24 xs 5)) := hR
        have hall : ((List.range 6).all fun i => decide (0 ≤ tyR 24 xs i)) = true := by
          rw [List.all_eq_true]
          intro i hi
          have hi6 := List.mem_range.1 hi
          rw [decide_eq_true_eq]
          by_cases h0 : i = 0
          · rw [h0]; exact HYY.out
          · exact hP.out i (by omega) hi6
        have hok : tyOk 24 xs = decide (1 ≤ tyR 24 xs 1 ∧ tyR 24 xs 1 ≤ 12 ∧ 1 ≤ tyR 24 xs 2 ∧ tyR 24 xs 2 ≤ dys y (tyR 24 xs 1) ∧ tyR 24 xs 3 ≤ 23 ∧ tyR 24 xs 4 ≤ 59 ∧ tyR 24 xs 5 ≤ 59) := by
          unfold tyOk
          rw [show tyN 24 = 4 from rfl, HL.out, HZ.out, hall, HYV.out]
          rfl
        have hlst : tyL 24 xs = [y, tyR 24 xs 1, tyR 24 xs 2, tyR 24 xs 3, tyR 24 xs 4, tyR 24 xs 5] := by unfold tyL; rw [HYV.out]; rfl
        clear hP hall e1 e2 e3 e4 e5
        clear HS1 HS2 HS3 HS4 HS5 HD1 HD2 HD3 HD4 HD5 HB2 HL HC HB HZ HY H9 HYV HYY
        generalize tyR 24 xs 1 = v1 at *
        generalize tyR 24 xs 2 = v2 at *
        generalize tyR 24 xs 3 = v3 at *
        generalize tyR 24 xs 4 = v4 at *
        generalize tyR 24 xs 5 = v5 at *
        have hdd := fun k => (rdays_any (wr.drewN k) y v1 HPOS.out).mono (fun e w2 (h : e = .returned (.int .i64 (dys y v1)) ∧ w2 = wr.drewN k) => (⟨h.1, h.2.symm⟩ : e = .returned (.int .i64 (dys y v1)) ∧ wr.drewN k = w2))
        generalize dys y v1 = D at *
        have HOK := Lib.hid hok
        have HLS := Lib.hid hlst
        have HDD := Lib.hid hdd
        obtain ⟨⟨k0, k1, k2, k3, k4, k5⟩, ⟨r0, r1, r2, r3, r4, r5⟩, zq, zp⟩ := hR.out.cells
        clear hok hlst hdd HPOS
        go_wp2_with fail
        by_cases q0 : v1 < 1
        · have HN := Lib.hid (show tyOk 24 xs = false by rw [HOK.out]; exact decide_eq_false (by omega))
          have b0 : decide (v1 < 1) = true := decide_eq_true q0
          go_quiet (fail)
          go_wp2_with fail
          exact tim_leave (hR.out.drewN _) 0 0 0 0 0 0 _ false rfl rfl rfl (fun hb => time_no HN.out (by rw [HQ.out]; exact hb))
        have b0 : decide (v1 < 1) = false := decide_eq_false q0
        by_cases q1 : 12 < v1
        · have HN := Lib.hid (show tyOk 24 xs = false by rw [HOK.out]; exact decide_eq_false (by omega))
          have b1 : decide (12 < v1) = true := decide_eq_true q1
          go_quiet (fail)
          go_wp2_with fail
          exact tim_leave (hR.out.drewN _) 0 0 0 0 0 0 _ false rfl rfl rfl (fun hb => time_no HN.out (by rw [HQ.out]; exact hb))
        have b1 : decide (12 < v1) = false := decide_eq_false q1
        by_cases q2 : v2 < 1
        · have HN := Lib.hid (show tyOk 24 xs = false by rw [HOK.out]; exact decide_eq_false (by omega))
          have b2 : decide (v2 < 1) = true := decide_eq_true q2
          go_quiet (fail)
          go_wp2_with fail
          exact tim_leave (hR.out.drewN _) 0 0 0 0 0 0 _ false rfl rfl rfl (fun hb => time_no HN.out (by rw [HQ.out]; exact hb))
        have b2 : decide (v2 < 1) = false := decide_eq_false q2
        by_cases q3 : D < v2
        · have HN := Lib.hid (show tyOk 24 xs = false by rw [HOK.out]; exact decide_eq_false (by omega))
          have b3 : decide (D < v2) = true := decide_eq_true q3
          go_quiet ((go_at_call 58; exact quiet_same (HDD.out _)))
          go_wp2_with fail
          exact tim_leave (hR.out.drewN _) 0 0 0 0 0 0 _ false rfl rfl rfl (fun hb => time_no HN.out (by rw [HQ.out]; exact hb))
        have b3 : decide (D < v2) = false := decide_eq_false q3
        by_cases q4 : 23 < v3
        · have HN := Lib.hid (show tyOk 24 xs = false by rw [HOK.out]; exact decide_eq_false (by omega))
          have b4 : decide (23 < v3) = true := decide_eq_true q4
          go_quiet ((go_at_call 58; exact quiet_same (HDD.out _)))
          go_wp2_with fail
          exact tim_leave (hR.out.drewN _) 0 0 0 0 0 0 _ false rfl rfl rfl (fun hb => time_no HN.out (by rw [HQ.out]; exact hb))
        have b4 : decide (23 < v3) = false := decide_eq_false q4
        by_cases q5 : 59 < v4
        · have HN := Lib.hid (show tyOk 24 xs = false by rw [HOK.out]; exact decide_eq_false (by omega))
          have b5 : decide (59 < v4) = true := decide_eq_true q5
          go_quiet ((go_at_call 58; exact quiet_same (HDD.out _)))
          go_wp2_with fail
          exact tim_leave (hR.out.drewN _) 0 0 0 0 0 0 _ false rfl rfl rfl (fun hb => time_no HN.out (by rw [HQ.out]; exact hb))
        have b5 : decide (59 < v4) = false := decide_eq_false q5
        by_cases q6 : 59 < v5
        · have HN := Lib.hid (show tyOk 24 xs = false by rw [HOK.out]; exact decide_eq_false (by omega))
          have b6 : decide (59 < v5) = true := decide_eq_true q6
          go_quiet ((go_at_call 58; exact quiet_same (HDD.out _)))
          go_wp2_with fail
          exact tim_leave (hR.out.drewN _) 0 0 0 0 0 0 _ false rfl rfl rfl (fun hb => time_no HN.out (by rw [HQ.out]; exact hb))
        have b6 : decide (59 < v5) = false := decide_eq_false q6
        have HN := Lib.hid (show tyOk 24 xs = true by rw [HOK.out]; exact decide_eq_true (by omega))
        go_quiet ((go_at_call 58; exact quiet_same (HDD.out _)))
        go_wp2_with fail
        exact tim_leave (hR.out.drewN _) y v1 v2 v3 v4 v5 _ true rfl rfl rfl (fun hb => ⟨by rw [HN.out, HLS.out]; rfl, by rw [HQ.out]; exact hb⟩)
    · have hzf : ((z : Int) != 90) = true := bne_iff_ne.2 (by omega)
      have HN := Lib.hid (show tyOk 24 xs = false by unfold tyOk; rw [show tyN 24 = 4 from rfl, HL.out, HZ.out]; simp; omega)
      clear hz90
      go_enter Tryd.func49, Tryd.ntmps49
      go_wp2_with fail
      refine bodyPost_ret (results_time _ _ q _ _ rfl TIM.out.res rfl) rfl (time_no HN.out (by rw [hq]; exact TIM.out.bel))
  · have hlf : ((L : Int) != 15) = true := bne_iff_ne.2 (by omega)
    have HN := Lib.hid (show tyOk 24 xs = false by unfold tyOk; rw [show tyN 24 = 4 from rfl, HL.out]; simp; omega)
    clear hlen
    go_enter Tryd.func49, Tryd.ntmps49
    go_wp2_with fail
    refine bodyPost_ret (results_time _ _ q _ _ rfl TIM.out.res rfl) rfl (time_no HN.out (by rw [hq]; exact TIM.out.bel))

end Go.Proofs.YtnjnghbonmdbdaaDoor

