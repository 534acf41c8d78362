/- Memory while a head is read, whoever reads it: the result's block, the head's block, the bytes. -/
import Derived.Test.YtbeknillegkidaaDoorPf
import Derived.Test.YtbeknillegkidaaDoorRes
namespace Go.Proofs.YtbeknillegkidaaDoor
open Go.RowKit

/-- The numbers that a first byte tells, as the walk spells them. -/
theorem fb_nums (n : Nat) (h : n < 256) : IntKind.i64.wrap (n : Int) = n ∧ IntKind.i64.wrap ((n : Int) / 64) = (n : Int) / 64 ∧ (n : Int).tmod 32 = (n : Int) % 32 ∧ IntKind.u8.wrap ((n : Int) / 32) = (n : Int) / 32 ∧ (((n : Int) / 32).tmod 2 == 1) = (n / 32 % 2 == 1) := by
  refine ⟨by rw [IntWalk.i64_left, IntWalk.wrap64_in _ (by omega)], ?_, ?_, ?_, ?_⟩
  · rw [IntWalk.i64_left, IntWalk.wrap64_in _ (by omega)]
  · rw [Int.tmod_eq_emod_of_nonneg (by omega)]
  · have : IntKind.u8.wrap ((n : Int) / 32) = ((n : Int) / 32) % 256 := by rfl
    rw [this]; omega
  · rw [Int.tmod_eq_emod_of_nonneg (by omega), Bool.eq_iff_iff, beq_iff_eq, beq_iff_eq]; omega

/-- Memory while a head is read: the result's block, the head's block, the bytes, nothing old has turned. -/
structure Rdg (T : TypeId) (w W : World) (q p B o : Nat) (xs : List UInt8) (c t : Int) (m : Bool) (l : Int) : Prop where
  res : Whole W q #[.int .i64 0, .int .i64 0, .bool false, .int .i64 0] T
  head : Whole W p #[.int .i64 c, .int .i64 t, .bool m, .int .i64 l] T
  byte : ∀ i, i < xs.length → W.cell? ⟨B, o + i, none⟩ = some (.int .u8 ((xs.getD i 0).toNat : Int))
  bel : Below q w W
  lt : B < q
  ne : q < p

/-- A head stored. -/
def put4 (w : World) (q : Nat) (v0 v1 v2 v3 : Value) : World := (((w.setCell ⟨q, 0, none⟩ v0).setCell ⟨q, 1, none⟩ v1).setCell ⟨q, 2, none⟩ v2).setCell ⟨q, 3, none⟩ v3
theorem Whole.put4 {w : World} {q : Nat} {a0 a1 a2 a3 : Value} {t : TypeId} (h : Whole w q #[a0, a1, a2, a3] t) (v0 v1 v2 v3 : Value) : Whole (put4 w q v0 v1 v2 v3) q #[v0, v1, v2, v3] t := (((h.set 0 v0).set 1 v1).set 2 v2).set 3 v3
theorem below_put4 {w W : World} {n q : Nat} (h : Below n w W) (hq : n ≤ q) (v0 v1 v2 v3 : Value) : Below n w (put4 W q v0 v1 v2 v3) :=
  (((h.setCell (p := ⟨q, 0, none⟩) hq v0).setCell (p := ⟨q, 1, none⟩) hq v1).setCell (p := ⟨q, 2, none⟩) hq v2).setCell (p := ⟨q, 3, none⟩) hq v3

theorem Rdg.below {T : TypeId} {w W W' : World} {q p B o n : Nat} {xs : List UInt8} {c t : Int} {m : Bool} {l : Int} (h : Rdg T w W q p B o xs c t m l) (b : Below n W W') (hn : p < n) : Rdg T w W' q p B o xs c t m l :=
  ⟨(b.block q (Nat.lt_trans h.ne hn)).trans h.res, (b.block p hn).trans h.head, fun i hi => (b.cell (p := ⟨B, o + i, none⟩) (Nat.lt_trans h.lt (Nat.lt_trans h.ne hn))).trans (h.byte i hi), h.bel.trans (b.mono (Nat.le_of_lt (Nat.lt_trans h.ne hn))), h.lt, h.ne⟩
theorem Rdg.set3 {T : TypeId} {w W : World} {q p B o : Nat} {xs : List UInt8} {c t : Int} {m : Bool} {l : Int} (h : Rdg T w W q p B o xs c t m l) (l' : Int) : Rdg T w (W.setCell ⟨p, 3, none⟩ (.int .i64 l')) q p B o xs c t m l' :=
  ⟨h.res.grew (grew_set (grew_refl W (some p)) 3 none _) (by have := h.ne; simp; omega), h.head.set 3 _, fun i hi => by rw [(grew_set (grew_refl W (some p)) 3 none (.int .i64 l')).cell (h.byte i hi) (by have := h.lt; have := h.ne; simp; omega)], h.bel.setCell (p := ⟨p, 3, none⟩) (Nat.le_of_lt h.ne) _, h.lt, h.ne⟩
theorem Rdg.drew {T : TypeId} {w W : World} {q p B o : Nat} {xs : List UInt8} {c t : Int} {m : Bool} {l : Int} (h : Rdg T w W q p B o xs c t m l) : Rdg T w W.drew q p B o xs c t m l := ⟨h.res, h.head, h.byte, h.bel.drew, h.lt, h.ne⟩

theorem Rdg.drewN {T : TypeId} {w W : World} {q p B o : Nat} {xs : List UInt8} {c t : Int} {m : Bool} {l : Int} (h : Rdg T w W q p B o xs c t m l) (k : Nat) : Rdg T w (W.drewN k) q p B o xs c t m l :=
  ⟨h.res, h.head, h.byte, ⟨h.bel.os, h.bel.tape, h.bel.output, h.bel.size, h.bel.block⟩, h.lt, h.ne⟩

theorem own_slice {w : World} {e : TypeId} {n : Nat} {v : Value} {xs : List UInt8} (h : w.ownsRow 0 e 1 v n (cellsOf xs)) (hn : 0 < n) : ∃ b cap, v = .slice (some ⟨b, 0, none⟩) n cap ∧ n = xs.length ∧ ∀ i, i < xs.length → w.cell? ⟨b, i, none⟩ = some (.int .u8 ((xs.getD i 0).toNat : Int)) := by
  have hl := h.1
  rw [cellsOf_length] at hl
  obtain ⟨A, cc, rfl⟩ : ∃ A cc, v = .slice A n cc := by
    rcases h.2 with ⟨rfl, h0⟩ | ⟨b, cap, cur, rfl, _⟩
    · omega
    · exact ⟨_, _, rfl⟩
  obtain rfl : n = xs.length := by omega
  have hb := own_by h
  rcases h.2 with ⟨h0, h1⟩ | ⟨b, cap, cur, h1, _⟩
  · omega
  · injection h1 with h1 _ _
    subst h1
    refine ⟨b, cc, rfl, rfl, fun i hi => ?_⟩
    obtain ⟨b', o', e', _, hc⟩ := hb (by omega)
    cases e'
    simpa using hc i hi

/-- The document's Read leaves with what lies in its result. -/
theorem rd_leave {w W : World} {q p B o : Nat} {xs : List UInt8} {c t : Int} {m : Bool} {l : Int} (h : Rdg 28 w W q p B o xs c t m l) (x : Hd) (a : Act) (k : Nat) (e : Int)
    (h2 : a.tmps.getD 2 undef = .pointer (some ⟨q, 0, none⟩)) (h3 : a.tmps.getD 3 undef = .int .i64 k) (h4 : a.tmps.getD 4 undef = .int .i64 e) (hd : a.defers = []) {E : Ending → World → Prop}
    (hE : E (.returned (.tuple #[x.agg, .int .i64 k, .int .i64 e])) (put4 W q (.int .i64 x.c) (.int .i64 x.t) (.bool x.m) (.int .i64 x.l))) :
    bodyPost Tryd.prog Tryd.f10 E Exit.ret a (put4 W q (.int .i64 x.c) (.int .i64 x.t) (.bool x.m) (.int .i64 x.l)) := by
  refine bodyPost_ret (results_cell_tmps rfl _ _ q _ _ _ _ h2 (h.res.put4 _ _ _ _) Tryd.underlying28 rfl (by kernel_rfl)) hd ?_
  rw [h3, h4]
  exact hE

/-- The program's Read leaves with what lies in its result. -/
theorem rp_leave {w W : World} {q p B o : Nat} {xs : List UInt8} {c t : Int} {m : Bool} {l : Int} (h : Rdg 24 w W q p B o xs c t m l) (x : Hd) (a : Act) (k : Nat) (e : Int)
    (h2 : a.tmps.getD 2 undef = .pointer (some ⟨q, 0, none⟩)) (h3 : a.tmps.getD 3 undef = .int .i64 k) (h4 : a.tmps.getD 4 undef = .int .i64 e) (hd : a.defers = []) {E : Ending → World → Prop}
    (hE : E (.returned (.tuple #[x.agg, .int .i64 k, .int .i64 e])) (put4 W q (.int .i64 x.c) (.int .i64 x.t) (.bool x.m) (.int .i64 x.l))) :
    bodyPost Tryd.prog Tryd.f9 E Exit.ret a (put4 W q (.int .i64 x.c) (.int .i64 x.t) (.bool x.m) (.int .i64 x.l)) := by
  refine bodyPost_ret (results_cell_tmps rfl _ _ q _ _ _ _ h2 (h.res.put4 _ _ _ _) Tryd.underlying24 rfl (by kernel_rfl)) hd ?_
  rw [h3, h4]
  exact hE

end Go.Proofs.YtbeknillegkidaaDoor

