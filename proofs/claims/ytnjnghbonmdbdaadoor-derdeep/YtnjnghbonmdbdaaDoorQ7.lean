/- The document's own answers of layer 11: one thing that is read: memory, what it leaves. -/
import Derived.Test.YtnjnghbonmdbdaaDoorQ5
import Derived.Test.YtnjnghbonmdbdaaDoorQ2
import Derived.Test.YtnjnghbonmdbdaaDoorQ6
import Derived.Test.YtnjnghbonmdbdaaDoorQ1
import Derived.BigQuiet
import Derived.Deep.QuietTactic
import Derived.Laws.Strings
namespace Go.Proofs.YtnjnghbonmdbdaaDoor
open Go.RowKit Nd

set_option maxRecDepth 100000 in
/-- Results out of a cell and three slots. -/
theorem results_cell_tmps3 {P : Program} {fn : Func} {p r s u : Tmp} {ty : TypeId} (h : fn.results = #[.cell p ty, .tmp r, .tmp s, .tmp u]) (tmps : Array Value) (w : World) (g : Nat) (t : TypeId) (cs : Array Value) (fr : Nat × Nat) (d : TypeDesc)
    (hp : tmps.getD p undef = .pointer (some ⟨g, 0, none⟩)) (hg : w.heap[g]? = some (.cells cs t fr))
    (hu : P.underlying ty = some d) (hd : (match d with | .struct _ | .array _ _ => true | _ => false) = true) (hi : (P.info? ty).map (·.size) = some cs.size) :
    (results fn tmps).run P w = .ok (.tuple #[.agg cs, tmps.getD r undef, tmps.getD s undef, tmps.getD u undef]) w := by
  have hp' : tmps[p]?.getD undef = .pointer (some ⟨g, 0, none⟩) := by simpa using hp
  simp [results, h, hp', asAddr, run_loadVar_row w g t ty cs fr d hg hu hd hi]

/-- A thing stored. -/
def put5 (w : World) (q : Nat) (v0 v1 v2 v3 v4 : Value) : World := ((((w.setCell ⟨q, 0, none⟩ v0).setCell ⟨q, 1, none⟩ v1).setCell ⟨q, 2, none⟩ v2).setCell ⟨q, 3, none⟩ v3).setCell ⟨q, 4, none⟩ v4
theorem Whole.put5 {w : World} {q : Nat} {a0 a1 a2 a3 a4 : Value} {t : TypeId} (h : Whole w q #[a0, a1, a2, a3, a4] t) (v0 v1 v2 v3 v4 : Value) : Whole (put5 w q v0 v1 v2 v3 v4) q #[v0, v1, v2, v3, v4] t := ((((h.set 0 v0).set 1 v1).set 2 v2).set 3 v3).set 4 v4
theorem below_put5 {w W : World} {n q : Nat} (h : Below n w W) (hq : n ≤ q) (v0 v1 v2 v3 v4 : Value) : Below n w (put5 W q v0 v1 v2 v3 v4) :=
  ((((h.setCell (p := ⟨q, 0, none⟩) hq v0).setCell (p := ⟨q, 1, none⟩) hq v1).setCell (p := ⟨q, 2, none⟩) hq v2).setCell (p := ⟨q, 3, none⟩) hq v3).setCell (p := ⟨q, 4, none⟩) hq v4
theorem fr_put5 (w : World) (q : Nat) (v0 v1 v2 v3 v4 : Value) : Fr w (Go.Proofs.YtnjnghbonmdbdaaDoor.put5 w q v0 v1 v2 v3 v4) (fun i => i = q) :=
  (((((Fr.refl w (fun i => i = q)).set (.inl rfl) 0 none v0).set (.inl rfl) 1 none v1).set (.inl rfl) 2 none v2).set (.inl rfl) 3 none v3).set (.inl rfl) 4 none v4

namespace Nd
/-- What is there of it lies in no block of F. -/
inductive Off (F : Nat → Prop) : Nd → Prop
  | mk {k t : Int} {m : Bool} {B : Option Addr} {d : Nat} {bs : List UInt8} {A : Option Addr} {c : Nat} {ls : List Nd} (hB : 0 < bs.length → ∀ a, B = some a → ¬ F a.block) (hA : 0 < ls.length → ∀ a, A = some a → ¬ F a.block) (hp : ∀ p ∈ ls, Off F p) : Off F (.mk k t m B d bs A c ls)
theorem Off.mono {F G : Nat → Prop} {v : Nd} (h : Off G v) (hs : ∀ i, F i → G i) : Off F v := by
  induction h with
  | mk hB hA _ ih => exact .mk (fun h a e f => hB h a e (hs _ f)) (fun h a e f => hA h a e (hs _ f)) ih
theorem Off.or {F G : Nat → Prop} {v : Nd} (h : Off F v) : Off G v → Off (fun i => F i ∨ G i) v := by
  induction h with
  | mk hB hA _ ih =>
    intro k
    cases k with
    | mk kB kA kp => exact .mk (fun h a e f => f.elim (hB h a e) (kB h a e)) (fun h a e f => f.elim (hA h a e) (kA h a e)) (fun p hp => ih p hp (kp p hp))
theorem In.fr2 {w w' : World} {F : Nat → Prop} {v : Nd} (h : In w v) (g : Fr w w' F) (ho : Off F v) : In w' v := by
  induction h with
  | mk hn hb hd hc hz ha _ ih =>
    cases ho with
    | mk h1 h2 h3 =>
      refine .mk hn (fun h0 => ?_) hd hc hz (fun h0 => ?_) (fun p hp => ih p hp (h3 p hp))
      · obtain ⟨b, o, e, hlt, hcell⟩ := hb h0
        exact ⟨b, o, e, Nat.lt_of_lt_of_le hlt g.size, fun i hi => g.cell (hcell i hi) (h1 h0 ⟨b, o, none⟩ e)⟩
      · obtain ⟨b, o, e, hcell⟩ := ha h0
        exact ⟨b, o, e, fun i p hi j v hv => g.cell (hcell i p hi j v hv) (h2 h0 ⟨b, o, none⟩ e)⟩
theorem In.off {w : World} {v : Nd} (h : In w v) : Off (fun i => w.heap.size ≤ i) v := by
  induction h with
  | @mk k t m B d bs A c ls hn hb hd hc hz ha _ ih =>
    refine .mk (fun h0 a e => ?_) (fun h0 a e => ?_) ih
    · obtain ⟨b, o, e', hlt, hcell⟩ := hb h0
      rw [e] at e'; cases e'; simp; omega
    · obtain ⟨b, o, e', hcell⟩ := ha h0
      rw [e] at e'; cases e'
      obtain ⟨p, hp⟩ : ∃ p, ls[0]? = some p := ⟨ls[0], List.getElem?_eq_getElem h0⟩
      have := World.block_lt_of_cell? w _ (hcell 0 p hp 0 _ rfl)
      simp at this ⊢; omega
end Nd

set_option maxRecDepth 100000 in
theorem info_node : (Tryd.prog.info? 27).map (fun i => (i.zero, i.size, i.bytes)) = some (some (.agg #[.int .i64 0, .int .i64 0, .bool false, .slice none 0 0, .slice none 0 0]), 5, 72) := by kernel_rfl
set_option maxRecDepth 100000 in
/-- 'append(v, l...)': v owns a row of things. -/
theorem append_nodes (w : World) (ty : TypeId) {v : Value} {n : Nat} {xs : List Nd} (hown : w.ownsRow 0 27 5 v n (flat xs)) {A : Option Addr} {ps : List Nd} (hb : Nd.Lie w A ps) (c : Nat) (hm : n + ps.length ≤ 1954687338268) :
    ∃ v' w', (Builtin.append_ #[25, 25] ty #[v, .slice A ps.length c]).run Tryd.prog w = .ok v' w' ∧ AppLeft w 27 5 v (n + ps.length) (flat (xs ++ ps)) v' w' := by
  obtain ⟨i, hi, hz⟩ := Option.map_eq_some_iff.1 info_node
  simp only [Prod.mk.injEq] at hz
  obtain ⟨hz0, hz1, hz2⟩ := hz
  cases A with
  | none =>
    have e0 : ps = [] := by
      rcases Nat.eq_zero_or_pos ps.length with h | h
      · exact List.eq_nil_of_length_eq_zero h
      · obtain ⟨_, _, h, _⟩ := hb h
        cases h
    subst e0
    exact ⟨v, w, append_none w Tryd.underlying25 hi hown c, by simpa using hown, grew_refl _ _, .inl rfl⟩
  | some a =>
    have hn : ∀ j u, (flat ps)[j]? = some u → w.cell? (a.add j) = some u := by
      intro j u hu
      have hj : j < (flat ps).length := by
        rcases Nat.lt_or_ge j (flat ps).length with h | h
        · exact h
        · rw [List.getElem?_eq_none h] at hu; cases hu
      obtain ⟨p, hp, hc⟩ := flat_lt hj
      rw [flat_length] at hj
      obtain ⟨b, o, e, hcell⟩ := hb (by omega)
      cases e
      rw [addr_add]
      have := hcell _ p hp _ u (hc.trans hu)
      rw [← this]
      congr 2
      omega
    obtain ⟨v', w', hr, h2, h3, _, h5⟩ := run_append_own_at (P := Tryd.prog) w 0 25 ty 27 i _ 5 72 Tryd.underlying25 hi hz0 hz1 hz2 rfl (by omega) v n (flat xs) hown a ps.length c (flat ps) (flat_length _) hn (flat_one _)
      (by unfold maxLen; omega) (by omega) (Nat.zero_le _)
    exact ⟨v', w', hr, by rw [flat_append]; exact h2, h3, h5⟩

/-- What is left where a thing is read: from place i on. -/
def OneP (w : World) (i : Nat) (R : Rn) (e : Ending) (w' : World) : Prop :=
  ∃ v : Nd, e = .returned (.tuple #[v.val, .int .i64 (if R.e = 0 then ((i + R.n : Nat) : Int) else 0), .int .i64 (if R.e = 0 then 0 else ((i + R.n : Nat) : Int)), .int .i64 R.e]) ∧ v.nf = R.v ∧ (v.In w' ∧ v.Off (· < w.heap.size)) ∧ Below w.heap.size w w'

/-- The document's 'one' leaves with what lies in its result. -/
theorem one_leave {W : World} {q : Nat} {a0 a1 a2 a3 a4 : Value} (h : Whole W q #[a0, a1, a2, a3, a4] 27) (v0 v1 v2 v3 v4 : Value) (a : Act) (x y e : Value)
    (h8 : a.tmps.getD 8 undef = .pointer (some ⟨q, 0, none⟩)) (h9 : a.tmps.getD 9 undef = x) (h10 : a.tmps.getD 10 undef = y) (h11 : a.tmps.getD 11 undef = e) (hd : a.defers = []) {E : Ending → World → Prop}
    (hE : E (.returned (.tuple #[.agg #[v0, v1, v2, v3, v4], x, y, e])) (put5 W q v0 v1 v2 v3 v4)) :
    bodyPost Tryd.prog Tryd.f22 E Exit.ret a (put5 W q v0 v1 v2 v3 v4) := by
  refine bodyPost_ret (results_cell_tmps3 rfl _ _ q _ _ _ _ h8 (h.put5 _ _ _ _ _) Tryd.underlying27 rfl (by kernel_rfl)) hd ?_
  rw [h9, h10, h11]
  exact hE
theorem one_leave0 {W : World} {q : Nat} {v0 v1 v2 v3 v4 : Value} (h : Whole W q #[v0, v1, v2, v3, v4] 27) (a : Act) (x y e : Value)
    (h8 : a.tmps.getD 8 undef = .pointer (some ⟨q, 0, none⟩)) (h9 : a.tmps.getD 9 undef = x) (h10 : a.tmps.getD 10 undef = y) (h11 : a.tmps.getD 11 undef = e) (hd : a.defers = []) {E : Ending → World → Prop}
    (hE : E (.returned (.tuple #[.agg #[v0, v1, v2, v3, v4], x, y, e])) W) :
    bodyPost Tryd.prog Tryd.f22 E Exit.ret a W := by
  refine bodyPost_ret (results_cell_tmps3 rfl _ _ q _ _ _ _ h8 h Tryd.underlying27 rfl (by kernel_rfl)) hd ?_
  rw [h9, h10, h11]
  exact hE
theorem z_in (w : World) : Nd.In w .z := .mk (by omega) (fun h => by simp at h) (by simp) (by simp) (by simp) (Lie.nil _ _) (fun p hp => by simp at hp)
/-- An error. -/
theorem OneP.err {w w' : World} {i : Nat} {R : Rn} {E : Int} {n : Nat} (h : R = ⟨E, n, .z⟩) (hE : E ≠ 0) (b : Below w.heap.size w w') : OneP w i R (.returned (.tuple #[.agg #[.int .i64 0, .int .i64 0, .bool false, .slice none 0 0, .slice none 0 0], .int .i64 0, .int .i64 ((i + n : Nat) : Int), .int .i64 E])) w' := by
  subst h
  refine ⟨.z, ?_, rfl, ⟨z_in _, .mk (fun h => by simp at h) (fun h => by simp at h) (fun p hp => by simp at hp)⟩, b⟩
  dsimp only
  rw [if_neg hE, if_neg hE]
  rfl
/-- Without an error; with one. -/
theorem OneP.ok {w w' : World} {i : Nat} {R : Rn} {e : Ending} (h : OneP w i R e w') (hE : R.e = 0) : ∃ v : Nd, e = .returned (.tuple #[.agg #[.int .i64 v.k, .int .i64 v.t, .bool v.m, .slice v.B v.bs.length v.d, .slice v.A v.ls.length v.c], .int .i64 ((i + R.n : Nat) : Int), .int .i64 0, .int .i64 0]) ∧ v.nf = R.v ∧ v.In w' ∧ v.Off (· < w.heap.size) ∧ Below w.heap.size w w' := by
  obtain ⟨v, he, h1, h2, h3⟩ := h
  rw [if_pos hE, if_pos hE, hE] at he
  exact ⟨v, he, h1, h2.1, h2.2, h3⟩
theorem OneP.no {w w' : World} {i : Nat} {R : Rn} {e : Ending} (h : OneP w i R e w') (hE : R.e ≠ 0) : ∃ v : Nd, e = .returned (.tuple #[.agg #[.int .i64 v.k, .int .i64 v.t, .bool v.m, .slice v.B v.bs.length v.d, .slice v.A v.ls.length v.c], .int .i64 0, .int .i64 ((i + R.n : Nat) : Int), .int .i64 R.e]) ∧ Below w.heap.size w w' := by
  obtain ⟨v, he, h1, h2, h3⟩ := h
  rw [if_neg hE, if_neg hE] at he
  exact ⟨v, he, h3⟩

/-- Memory while the things in a thing are read. -/
structure OneI (w wr : World) (q u : Nat) (k t : Int) (vL : Value) (ps : List Nd) : Prop where
  res : Whole wr q #[.int .i64 0, .int .i64 0, .bool false, .slice none 0 0, .slice none 0 0] 27
  box : Whole wr u #[.int .i64 k, .int .i64 t, .bool true, .slice none 0 0, vL] 27
  own : wr.ownsRow 0 27 5 vL ps.length (flat ps)
  ups : ∀ b, vL.ownBlock = some b → u < b
  ins : ∀ p ∈ ps, p.In wr
  off : ∀ p ∈ ps, p.Off (fun i => i ≤ u ∨ vL.ownBlock = some i)
  bel : Below w.heap.size w wr
  ord : w.heap.size = q ∧ q < u ∧ u < wr.heap.size
theorem OneI.grew {w wr w2 : World} {q u : Nat} {k t : Int} {vL : Value} {ps : List Nd} (h : OneI w wr q u k t vL ps) (g : Grew wr w2 none) : OneI w w2 q u k t vL ps :=
  ⟨h.res.grew g (by simp), h.box.grew g (by simp), own_fr h.own (Fr.of_grew g) (fun _ _ e => by cases e), h.ups, fun p hp => (h.ins p hp).grew g, h.off, h.bel.trans (grew_below g h.bel.size (fun _ e => by cases e)), h.ord.1, h.ord.2.1, Nat.lt_of_lt_of_le h.ord.2.2 g.size⟩
theorem OneI.box4 {w w3 w4 : World} {q u : Nat} {k t : Int} {vL vL' : Value} {ps : List Nd} (h : OneI w w3 q u k t vL ps) {n : Nat} {cs : List Value} (hA : AppLeft w3 27 5 vL n cs vL' w4) : Whole w4 u #[.int .i64 k, .int .i64 t, .bool true, .slice none 0 0, vL] 27 :=
  h.box.grew hA.2.1 (fun e => by have := h.ups u e.symm; omega)
theorem OneI.app {w w3 w4 : World} {q u : Nat} {k t : Int} {vL vL' : Value} {ps : List Nd} (h : OneI w w3 q u k t vL ps) {v : Nd} (hv : v.In w3) (ho : v.Off (fun i => i ≤ u ∨ vL.ownBlock = some i)) (hA : AppLeft w3 27 5 vL (ps.length + 1) (flat (ps ++ [v])) vL' w4) :
    OneI w (w4.setCell ⟨u, 4, none⟩ vL') q u k t vL' (ps ++ [v]) := by
  have hu : ∀ b, vL'.ownBlock = some b → u < b := by
    intro b hb
    rcases hA.2.2 with e | e
    · exact h.ups b (by rw [← e]; exact hb)
    · rw [hb] at e; simp at e; have := h.ord.2.2; omega
  have f1 : Fr w4 (w4.setCell ⟨u, 4, none⟩ vL') (fun i => i = u) := (Fr.refl w4 (fun i => i = u)).set (.inl rfl) 4 none _
  have f0 : Fr w3 (w4.setCell ⟨u, 4, none⟩ vL') (fun i => i = u ∨ vL.ownBlock = some i) :=
    (Fr.of_grew' hA.2.1 (F := fun i => i = u ∨ vL.ownBlock = some i) (fun i e => .inr e)).trans f1 (fun i _ e => .inl e)
  have hin : ∀ p ∈ ps ++ [v], p.In w3 ∧ p.Off (fun i => i ≤ u ∨ vL.ownBlock = some i) := by
    intro p hp
    rcases List.mem_append.1 hp with hp | hp
    · exact ⟨h.ins p hp, h.off p hp⟩
    · rw [List.mem_singleton.1 hp]; exact ⟨hv, ho⟩
  refine ⟨h.res.fr f0 ?_, (h.box4 hA).set 4 _, ?_, hu, fun p hp => ?_, fun p hp => ?_, ?_, h.ord.1, h.ord.2.1, ?_⟩
  · rintro (e | e)
    · have := h.ord.2.1; omega
    · have := h.ups q e; have := h.ord.2.1; omega
  · have := own_fr hA.1 f1 (fun k hk e => by have := hu k hk; omega)
    rw [List.length_append]; exact this
  · exact (hin p hp).1.fr2 f0 ((hin p hp).2.mono (fun i e => e.elim (fun e => .inl (by omega)) .inr))
  · rcases hA.2.2 with e | e
    · rw [e]; exact (hin p hp).2
    · refine ((hin p hp).2.or (hin p hp).1.off).mono (fun i hi => ?_)
      rcases hi with hi | hi
      · exact .inl (.inl hi)
      · rw [e] at hi; simp at hi; exact .inr (by omega)
  · refine (h.bel.trans (grew_below hA.2.1 h.bel.size (fun b e => ?_))).setCell (p := ⟨u, 4, none⟩) ?_ _
    · have := h.ups b e; have := h.ord; omega
    · have := h.ord; show w.heap.size ≤ u; omega
  · have := hA.2.1.size; have := h.ord.2.2; simp [World.setCell]; omega

/-- 'b[l:h]' of any list. -/
theorem slice_cut (w : World) (A : Option Addr) (n c l h : Nat) (hl : l ≤ h) (hh : h ≤ c) :
    (Instr.slice 22 (.slice A n c) (some (.int .i64 (l : Int))) (some (.int .i64 (h : Int))) none).run Tryd.prog w = .ok (.slice (cutAt A c l) (h - l) (c - l)) w := by
  rw [run_slice_lh w 22 A n c under_bytes .i64 .i64 _ _ (by omega) (by omega) (by omega), elem_u8, size_of_u8]
  simp [Result.andThen, sliced, cutAt]
end Go.Proofs.YtnjnghbonmdbdaaDoor


/- The document's own answers of layer 11: one thing that is read. -/
namespace Go.Proofs.YtnjnghbonmdbdaaDoor
open Go.RowKit Nd

/-- What 'one' answers, so many things deep. -/
def OneC (n : Nat) : Prop := ∀ (D : Nat), n + D = 9 → ∀ (w : World) (A : Option Addr) (c : Nat) (xs : List UInt8) (i j : Nat), Byt w w.heap.size A xs → xs.length ≤ c → xs.length ≤ 1099511627776 → i ≤ j → j ≤ xs.length →
    Calls Tryd.prog 22 #[.slice A xs.length c, .int .i64 (i : Int), .int .i64 (j : Int), .int .i64 (D : Int)] w (OneP w i (rn n ((xs.drop i).take (j - i))))

set_option maxRecDepth 100000 in
set_option maxHeartbeats 800000 in
theorem rone_succ (n : Nat) (ih : OneC n) : OneC (n + 1) := by
  intro D hD w A c xs i j hb hc hl hij hj
  obtain ⟨ys, hys⟩ : ∃ ys, (xs.drop i).take (j - i) = ys := ⟨_, rfl⟩
  have hyl : ys.length = j - i := by rw [← hys, List.length_take, List.length_drop]; omega
  have hbs : Byt w w.heap.size (cutAt A c i) ys := by rw [← hys]; exact (hb.drop hc).take _
  rw [hys]
  obtain ⟨R, hR⟩ : ∃ R, rn (n + 1) ys = R := ⟨_, rfl⟩
  rw [hR]
  have hR2 := hR.symm
  rw [rn] at hR2
  have HR := Lib.hid hR2
  have HYS := Lib.hid hys
  have HYL := Lib.hid hyl
  have HB := Lib.hid hb
  have HBS := Lib.hid hbs
  have HC := Lib.hid hc
  have HIH := Lib.hid ih
  obtain ⟨L, hL⟩ : ∃ L, xs.length = L := ⟨_, rfl⟩
  have HL := Lib.hid hL
  rw [hL] at hl hj ⊢
  have hDI : (D : Int) ≤ 8 := by omega
  have hLI : (L : Int) ≤ 1099511627776 := by omega
  have hiI : (i : Int) ≤ 1099511627776 := by omega
  have hjI : (j : Int) ≤ 1099511627776 := by omega
  have HIJ := Lib.hid (And.intro hij hj)
  obtain ⟨q, hq⟩ : ∃ q, w.heap.size = q := ⟨_, rfl⟩
  obtain ⟨w1, hw1⟩ : ∃ w1, w.alloc (.cells #[.int .i64 0, .int .i64 0, .bool false, .slice none 0 0, .slice none 0 0] 27) = w1 := ⟨_, rfl⟩
  have HQ := Lib.hid hq
  have HW1 := Lib.hid (show Whole w1 q #[.int .i64 0, .int .i64 0, .bool false, .slice none 0 0, .slice none 0 0] 27 by rw [← hw1, ← hq]; exact Whole.new _ _ _)
  have B1 := Lib.hid (show Below w.heap.size w w1 ∧ w1.heap.size = q + 1 from ⟨by rw [← hw1]; exact (Below.refl _ w).alloc (Nat.le_refl _) _, by rw [← hw1, World.size_alloc, hq]⟩)
  have hs1 : (Instr.slice 22 (.slice A L c) (some (.int .i64 (i : Int))) (some (.int .i64 (j : Int))) none).run Tryd.prog w1 = .ok (.slice (cutAt A c i) (j - i) (c - i)) w1 := slice_cut w1 A L c i j hij (by omega)
  have GOOD := Lib.hid (rdH_good ys)
  have HRD := Lib.hid (rread_any w1 (cutAt A c i) (c - i) ys ((byt_below hbs B1.out.1 (Nat.le_refl _)).more B1.out.1.size) (by rw [hyl]; omega))
  rw [hyl] at HRD
  obtain ⟨r, hr⟩ : ∃ r, rdH ys = r := ⟨_, rfl⟩
  rw [hr] at HRD GOOD HR
  obtain ⟨⟨k, t, m, l⟩, z, e0⟩ := r
  clear hr
  clear hb hc hl hij hj hL hys hyl hbs hR hR2 ih
  go_enter Tryd.func22, Tryd.ntmps22
  go_wp2_with fail
  refine HRD.out.mono ?_
  change ∀ (e : Ending) (w' : World), e = .returned (.tuple #[.agg #[.int .i64 k, .int .i64 t, .bool m, .int .i64 l], .int .i64 (z : Int), .int .i64 e0]) ∧ Below w1.heap.size w1 w' → _
  rintro e w2 ⟨rfl, b2⟩
  have B2 := Lib.hid (show Below w.heap.size w w2 ∧ q + 1 ≤ w2.heap.size from ⟨B1.out.1.trans (b2.mono (by have := B1.out.1.size; omega)), by have := b2.size; have := B1.out.2; omega⟩)
  have HW2 := Lib.hid (HW1.out.below b2 HW1.out.lt)
  clear b2 HRD hs1
  go_upto_region 4 with (fail)
  obtain ⟨p, hp⟩ : ∃ p, w2.heap.size = p := ⟨_, rfl⟩
  rw [hp]
  obtain ⟨w3, hw3⟩ : ∃ w3, w2.alloc (.cells #[.int .i64 k, .int .i64 t, .bool m, .int .i64 l] 69) = w3 := ⟨_, rfl⟩
  rw [hw3]
  have G3 : Grew w2 w3 none := by rw [← hw3]; exact grew_alloc (grew_refl _ _) _
  have HP3 := Lib.hid (show Whole w3 p #[.int .i64 k, .int .i64 t, .bool m, .int .i64 l] 69 by rw [← hw3, ← hp]; exact Whole.new _ _ _)
  have HW3 := Lib.hid (HW2.out.grew G3 (by simp))
  have B3 := Lib.hid (show Below w.heap.size w w3 ∧ q < p ∧ w3.heap.size = p + 1 from ⟨B2.out.1.trans (grew_below G3 B2.out.1.size (fun _ e => by cases e)), by have := B2.out.2; omega, by rw [← hw3, World.size_alloc, hp]⟩)
  clear G3 hp hw3 HW2 B2 HW1 B1 hw1 hq w2 w1
  have hzl : z ≤ ys.length := by
    rcases GOOD.out with h | h
    · exact h.2.2
    · rw [h.2.2.2.1]; exact h.2.2.2.2.length_le
  have hzI : (z : Int) ≤ 1099511627776 := by have := HYL.out; have := HIJ.out; omega
  have HZL := Lib.hid hzl
  clear hzl
  have zf := HW3.out.frozen
  have zc := fun i => HW3.out.cell i
  rcases (Decidable.em (e0 = 0)).symm with g0 | g0
  · have g0' : (e0 != 0) = true := bne_iff_ne.2 g0
    have HE := Lib.hid (show R = ⟨e0, z, .z⟩ by rw [HR.out, if_pos g0])
    have HG0 := Lib.hid g0
    clear g0 HR
    go_wp2_with fail
    refine one_leave HW3.out _ _ _ _ _ _ _ (.int .i64 ((i + z : Nat) : Int)) _ rfl rfl rfl rfl rfl ?_
    exact OneP.err HE.out HG0.out (below_put5 B3.out.1 (by rw [HQ.out]; exact Nat.le_refl _) _ _ _ _ _)
  subst g0
  have HR1 := Lib.hid HR.out
  rw [if_neg (by simp)] at HR1
  obtain ⟨hk, ⟨hl0, hl1⟩, hz⟩ : kd k t m = true ∧ (0 ≤ l ∧ l ≤ 16777215) ∧ 2 ≤ z := by
    rcases GOOD.out with h | h
    · exact absurd rfl h.1
    · exact ⟨h.2.1, h.2.2.1, by rw [h.2.2.2.1]; exact putH_ge2 _⟩
  obtain ⟨N, rfl⟩ := Int.eq_ofNat_of_zero_le hl0
  rw [show ((N : Int)).toNat = N from rfl] at HR1
  clear HR GOOD hl0
  obtain ⟨F, hF⟩ : ∃ F, i + z = F := ⟨_, rfl⟩
  have hFI : (i : Int) + (z : Int) = (F : Int) := by omega
  have HK := Lib.hid hk
  have HZ := Lib.hid (And.intro hz hF)
  have hFb : (F : Int) ≤ 1099511627776 := by have := HYL.out; have := HIJ.out; have := HZL.out; omega
  have hFj : F ≤ j := by have := HYL.out; have := HIJ.out; have := HZL.out; omega
  have HFJ := Lib.hid hFj
  have m0 : w3.cell? ⟨p, 0, none⟩ = some (.int .i64 k) := HP3.out.cell 0
  have m1 : w3.cell? ⟨p, 1, none⟩ = some (.int .i64 t) := HP3.out.cell 1
  have m2 : w3.cell? ⟨p, 2, none⟩ = some (.bool m) := HP3.out.cell 2
  have m3 : w3.cell? ⟨p, 3, none⟩ = some (.int .i64 (N : Int)) := HP3.out.cell 3
  clear hk hz
  rcases Decidable.em (j < F + N) with g1 | g1
  · have g1' : (j : Int) - (F : Int) < (N : Int) := by omega
    have HE := Lib.hid (show R = ⟨4, ys.length, .z⟩ by rw [HR1.out, if_pos (by have := HYL.out; omega)])
    have HIY := Lib.hid (show i + ys.length = j by have := HYL.out; have := HIJ.out; omega)
    clear g1 HR1 hF hFj
    go_wp2_with fail
    refine one_leave HW3.out _ _ _ _ _ _ _ (.int .i64 ((i + ys.length : Nat) : Int)) _ rfl rfl (by rw [HIY.out]; rfl) rfl rfl ?_
    exact OneP.err HE.out (by omega) (below_put5 B3.out.1 (by rw [HQ.out]; exact Nat.le_refl _) _ _ _ _ _)
  have g1' : ¬ (j : Int) - (F : Int) < (N : Int) := by omega
  have HR2 := Lib.hid HR1.out
  rw [if_neg (by have := HYL.out; omega)] at HR2
  obtain ⟨T, hT⟩ : ∃ T, F + N = T := ⟨_, rfl⟩
  have hTI : (F : Int) + (N : Int) = (T : Int) := by omega
  have HT := Lib.hid (show F + N = T ∧ T ≤ j from ⟨hT, by omega⟩)
  have hTb : (T : Int) ≤ 1099511627776 := by have := HIJ.out; omega
  obtain ⟨zs, hzs⟩ : ∃ zs, (ys.drop z).take N = zs := ⟨_, rfl⟩
  rw [hzs] at HR2
  have HZS := Lib.hid (show (xs.drop F).take (T - F) = zs ∧ zs.length = N by
    have e : (xs.drop F).take (T - F) = zs := by
      rw [← hzs, ← HYS.out, List.drop_take, List.drop_drop, List.take_take, hF, show min N (j - i - z) = T - F by have := HT.out; omega]
    refine ⟨e, ?_⟩
    rw [← e, List.length_take, List.length_drop]
    have := HT.out; have := HIJ.out; have := HL.out; omega)
  clear hT g1 HR1 hzs hF hFj
  have hs2 : ∀ w' : World, (Instr.slice 22 (.slice A L c) (some (.int .i64 (F : Int))) (some (.int .i64 (T : Int))) none).run Tryd.prog w' = .ok (.slice (cutAt A c F) (T - F) (c - F)) w' := fun w' => slice_cut w' A L c F T (by have := HT.out; omega) (by have := HT.out; have := HIJ.out; have := HC.out; have := HL.out; omega)
  go_upto_region 10 with (fail)
  obtain ⟨u, hu⟩ : ∃ u, w3.heap.size = u := ⟨_, rfl⟩
  rw [hu]
  obtain ⟨w4, hw4⟩ : ∃ w4, w3.alloc (.cells #[.int .i64 k, .int .i64 t, .bool m, .slice none 0 0, .slice none 0 0] 27) = w4 := ⟨_, rfl⟩
  rw [hw4]
  have G4 : Grew w3 w4 none := by rw [← hw4]; exact grew_alloc (grew_refl _ _) _
  have HX4 := Lib.hid (show Whole w4 u #[.int .i64 k, .int .i64 t, .bool m, .slice none 0 0, .slice none 0 0] 27 by rw [← hw4, ← hu]; exact Whole.new _ _ _)
  have HP4 := Lib.hid (HP3.out.grew G4 (by simp))
  have HW4 := Lib.hid (HW3.out.grew G4 (by simp))
  have B4 := Lib.hid (show Below w.heap.size w w4 ∧ q < p ∧ p < u ∧ w4.heap.size = u + 1 from ⟨B3.out.1.trans (grew_below G4 B3.out.1.size (fun _ e => by cases e)), B3.out.2.1, by have := B3.out.2.2; omega, by rw [← hw4, World.size_alloc, hu]⟩)
  clear G4 hu hw4 HW3 B3 HP3 m0 m1 m2 m3 zf zc w3 g1'
  have m0 : w4.cell? ⟨p, 0, none⟩ = some (.int .i64 k) := HP4.out.cell 0
  have m1 : w4.cell? ⟨p, 1, none⟩ = some (.int .i64 t) := HP4.out.cell 1
  have m2 : w4.cell? ⟨p, 2, none⟩ = some (.bool m) := HP4.out.cell 2
  have m3 : w4.cell? ⟨p, 3, none⟩ = some (.int .i64 (N : Int)) := HP4.out.cell 3
  cases m with
  | false =>
    have HR3 := Lib.hid HR2.out
    rw [if_pos rfl] at HR3
    clear HR2
    have HKB := Lib.hid (kd_bounds HK.out)
    go_upto_region 12 with (fail)
    have hbz : Byt w4 w4.heap.size (cutAt A c F) zs := by
      rw [← HZS.out.1]
      exact ((byt_below HB.out B4.out.1 (Nat.le_refl _)).more B4.out.1.size).drop HC.out |>.take _
    have a12 := Lib.hid (fun ty => app_more (own8_none w4.heap.size w4 w4 (Below.refl _ _) (Nat.le_refl _)) (A := cutAt A c F) (bs := zs) ((hbz.grew (grew_alloc (grew_refl _ none) _) (fun _ e => by cases e)).more (by simp)) (c - F) (by have := HZS.out.2; simp; omega) ty)
    rw [HZS.out.2, show N = T - F by have := HT.out; omega] at a12
    clear hbz
    go_upto_region 13 with (at_builtin; refine wpList_append_run _ rfl (.tmp 68) (.tmp 72) 22 rfl rfl rfl a12.out ?_; rintro v1 w5 a1; rw [List.nil_append] at a1; have A1 := Lib.hid a1; clear a1 a12; obtain ⟨A5, d5, rfl, hd5, hb5⟩ := A1.out.form; have HB5 := Lib.hid (And.intro hd5 hb5); clear hd5 hb5; have HX5 := Lib.hid (HX4.out.below A1.out.bel HX4.out.lt); have xf := HX5.out.frozen; have xc := fun i => HX5.out.cell i; clear m0 m1 m2 m3)
    clear xf xc
    have F6 : Fr w5 (w5.setCell ⟨u, 3, none⟩ (.slice A5 zs.length d5)) (fun i => i = u) := (Fr.refl w5 (fun i => i = u)).set (.inl rfl) 3 none _
    have HX6 := Lib.hid (show Whole (w5.setCell ⟨u, 3, none⟩ (.slice A5 zs.length d5)) u #[.int .i64 k, .int .i64 t, .bool false, .slice A5 zs.length d5, .slice none 0 0] 27 from HX5.out.set 3 _)
    have HP6 := Lib.hid ((HP4.out.below A1.out.bel HP4.out.lt).fr F6 (by have := B4.out; omega))
    have HW6 := Lib.hid ((HW4.out.below A1.out.bel HW4.out.lt).fr F6 (by have := B4.out; omega))
    have HBY6 := Lib.hid (show ByF (w5.setCell ⟨u, 3, none⟩ (.slice A5 zs.length d5)) (fun i => u < i) A5 zs from ((own_by A1.out.own).mono (fun i hi => (by have := A1.out.blk i hi; have := B4.out.2.2.2; omega : u < i))).fr F6 (fun i hi e => by omega))
    have B6 := Lib.hid (show Below w.heap.size w (w5.setCell ⟨u, 3, none⟩ (.slice A5 zs.length d5)) ∧ u < w5.heap.size from ⟨(B4.out.1.trans (A1.out.bel.mono B4.out.1.size)).setCell (p := ⟨u, 3, none⟩) (by rw [HQ.out]; have := B4.out; show q ≤ u; omega) _, HX5.out.lt⟩)
    have HSZ := Lib.hid (show (w5.setCell ⟨u, 3, none⟩ (.slice A5 zs.length d5)).heap.size = w5.heap.size by simp [World.setCell])
    clear F6 HX5 A1 HX4 HW4 HP4
    generalize w5.setCell ⟨u, 3, none⟩ (.slice A5 zs.length d5) = w6 at *
    have n0 : w6.cell? ⟨p, 0, none⟩ = some (.int .i64 k) := HP6.out.cell 0
    have n1 : w6.cell? ⟨p, 1, none⟩ = some (.int .i64 t) := HP6.out.cell 1
    have x3 : w6.cell? ⟨u, 3, none⟩ = some (.slice A5 zs.length d5) := HX6.out.cell 3
    rcases Decidable.em (k = 0) with g2 | g2
    · have g2' : (k == 0) = true := beq_iff_eq.2 g2
      have HCK := Lib.hid (rcheck_any w6 t A5 d5 zs HBY6.out.byt HB5.out.1 (by have := HZS.out.2; omega))
      rcases (Decidable.em (ckE t zs = 0)).symm with g3 | g3
      · have g3' : (ckE t zs != 0) = true := bne_iff_ne.2 g3
        have HE := Lib.hid (show R = ⟨13, z, .z⟩ by rw [HR3.out, if_pos ⟨g2, g3⟩])
        generalize ckE t zs = C at *
        clear g2 g3 HR3
        go_wp2_with fail
        refine HCK.out.mono ?_
        rintro e w7 ⟨rfl, b7⟩
        have HW7 := Lib.hid (HW6.out.below b7 HW6.out.lt)
        have B7 := Lib.hid (B6.out.1.trans (b7.mono B6.out.1.size))
        have zf := HW7.out.frozen
        have zc := fun i => HW7.out.cell i
        clear b7 HCK n0 n1 x3
        go_wp2_with fail
        refine one_leave HW7.out _ _ _ _ _ _ _ (.int .i64 ((i + z : Nat) : Int)) _ rfl rfl (by rw [HZ.out.2]; rfl) rfl rfl ?_
        exact OneP.err HE.out (by omega) (below_put5 B7.out (by rw [HQ.out]; exact Nat.le_refl _) _ _ _ _ _)
      · have g3' : (ckE t zs != 0) = false := by rw [g3]; rfl
        have HE := Lib.hid (show R = ⟨0, z + N, .mk k t false none 0 zs none 0 []⟩ by rw [HR3.out, if_neg (fun h => h.2 g3)])
        generalize ckE t zs = C at *
        clear g2 g3 HR3
        go_wp2_with fail
        refine HCK.out.mono ?_
        rintro e w7 ⟨rfl, b7⟩
        have HW7 := Lib.hid (HW6.out.below b7 HW6.out.lt)
        have HX7 := Lib.hid (HX6.out.below b7 HX6.out.lt)
        have HBY7 := Lib.hid (HBY6.out.fr (Fr.of_grew (grew_of_below b7)) (fun _ _ e => by cases e))
        have B7 := Lib.hid (B6.out.1.trans (b7.mono B6.out.1.size))
        have zf := HW7.out.frozen
        have zc := fun i => HW7.out.cell i
        have xc := fun i => HX7.out.cell i
        clear b7 HCK n0 n1 x3
        go_wp2_with fail
        refine one_leave HW7.out _ _ _ _ _ _ (.int .i64 (T : Int)) _ _ rfl rfl rfl rfl rfl ?_
        refine ⟨.mk k t false A5 d5 zs none 0 [], ?_, by rw [HE.out]; rfl, ⟨.mk (by have := HKB.out; omega) ?_ ⟨HB5.out.1, by have := HZS.out.2; omega⟩ (by simp) (by simp) (Lie.nil _ _) (fun p hp => by simp at hp), .mk (fun h a e f => ?_) (fun h => by simp at h) (fun p hp => by simp at hp)⟩, below_put5 B7.out (by rw [HQ.out]; exact Nat.le_refl _) _ _ _ _ _⟩
        · rw [HE.out]
          dsimp only
          rw [if_pos rfl, if_pos rfl, show i + (z + N) = T by have := HT.out; have := HZ.out; omega]
          rfl
        · exact (HBY7.out.fr (fr_put5 _ _ _ _ _ _ _) (fun i hi e => by have := B4.out; omega)).byt
        · obtain ⟨b, o, e', hbu, _⟩ := HBY7.out h
          rw [e'] at e; cases e; have := B4.out; have := HQ.out; simp at f; omega
    · have g2' : (k == 0) = false := beq_eq_false_iff_ne.2 g2
      have HE := Lib.hid (show R = ⟨0, z + N, .mk k t false none 0 zs none 0 []⟩ by rw [HR3.out, if_neg (fun h => g2 h.1)])
      clear g2 HR3
      have HW7 := Lib.hid HW6.out
      have HBY7 := Lib.hid HBY6.out
      have B7 := Lib.hid B6.out.1
      have zf := HW6.out.frozen
      have zc := fun i => HW6.out.cell i
      have xc := fun i => HX6.out.cell i
      clear x3
      go_wp2_with fail
      refine one_leave HW7.out _ _ _ _ _ _ (.int .i64 (T : Int)) _ _ rfl rfl rfl rfl rfl ?_
      refine ⟨.mk k t false A5 d5 zs none 0 [], ?_, by rw [HE.out]; rfl, ⟨.mk (by have := HKB.out; omega) ?_ ⟨HB5.out.1, by have := HZS.out.2; omega⟩ (by simp) (by simp) (Lie.nil _ _) (fun p hp => by simp at hp), .mk (fun h a e f => ?_) (fun h => by simp at h) (fun p hp => by simp at hp)⟩, below_put5 B7.out (by rw [HQ.out]; exact Nat.le_refl _) _ _ _ _ _⟩
      · rw [HE.out]
        dsimp only
        rw [if_pos rfl, if_pos rfl, show i + (z + N) = T by have := HT.out; have := HZ.out; omega]
        rfl
      · exact (HBY7.out.fr (fr_put5 _ _ _ _ _ _ _) (fun i hi e => by have := B4.out; omega)).byt
      · obtain ⟨b, o, e', hbu, _⟩ := HBY7.out h
        rw [e'] at e; cases e; have := B4.out; have := HQ.out; simp at f; omega
  | true =>
    have HR3 := Lib.hid HR2.out
    rw [if_neg (by simp)] at HR3
    clear HR2
    have HKB := Lib.hid (kd_bounds HK.out)
    go_upto_region 17 with (fail)
    clear m0 m1 m2 m3 hs2
    have HI0 := Lib.hid (show OneI w w4 q u k t (.slice none 0 0) [] from ⟨HW4.out, HX4.out, ⟨rfl, .inl ⟨rfl, rfl⟩⟩, (fun b e => by cases e), (fun p hp => by simp at hp), (fun p hp => by simp at hp), B4.out.1, HQ.out, by have := B4.out; omega, by have := B4.out; omega⟩)
    clear HW4 HX4 B4 HP4
    have HS0 := Lib.hid (show lstN (rn n) N [] z zs = lstN (rn n) N (nfs []) (F - i) ((xs.drop F).take (T - F)) by rw [HZS.out.1, show F - i = z by have := HZ.out; omega]; rfl)
    go_loopw [18] (fun at_ wr => ∃ (a : Nat) (ps : List Nd) (vL : Value) (kf : Nat), F ≤ a ∧ a ≤ T ∧ at_ = .int .i64 (a : Int) ∧ Hid (OneI w wr q u k t vL ps) ∧ Hid (ps.length ≤ a - F ∧ T - a ≤ kf ∧ lstN (rn n) N [] z zs = lstN (rn n) kf (nfs ps) (a - i) ((xs.drop a).take (T - a)))) (fun at_ _ => T - (intOf at_).toNat)
    case atStart => exact ⟨F, [], .slice none 0 0, N, Nat.le_refl _, by have := HT.out; omega, rfl, HI0, Lib.hid ⟨Nat.zero_le _, by have := HT.out; omega, HS0.out⟩⟩
    case round =>
      clear HI0 HS0
      obtain ⟨a, ps, vL, kf, hFa, haT, rfl, HI, HS⟩ := hrel
      have haI : (a : Int) ≤ 1099511627776 := by omega
      by_cases hlt : a < T
      · have hltI : (a : Int) < (T : Int) := by omega
        obtain ⟨r, hr⟩ : ∃ r, rn n ((xs.drop a).take (T - a)) = r := ⟨_, rfl⟩
        have hal : ((xs.drop a).take (T - a)).length = T - a := by rw [List.length_take, List.length_drop]; have := HT.out; have := HIJ.out; have := HL.out; omega
        have HC1 := Lib.hid (HIH.out (D + 1) (by omega) wr A c xs a T ((byt_below HB.out HI.out.bel (Nat.le_refl _)).more HI.out.bel.size) HC.out (by have := HL.out; omega) (by omega) (by have := HT.out; have := HIJ.out; have := HL.out; omega))
        rw [hr, HL.out, show ((D + 1 : Nat) : Int) = (D : Int) + 1 by omega] at HC1
        have HRG := Lib.hid (rn_good n ((xs.drop a).take (T - a)))
        rw [hr, hal] at HRG
        obtain ⟨kg, hkg⟩ : ∃ kg, kf = kg + 1 := ⟨kf - 1, by have := HS.out.2.1; omega⟩
        subst hkg
        have hne : ((xs.drop a).take (T - a)).length ≠ 0 := by rw [hal]; omega
        rcases Decidable.em (r.e = 0) with g3 | g3
        · have HS2 := Lib.hid (lstN_step (g := rn n) (k := kg) (acc := nfs ps) (o := a - i) hne (by rw [hr]; exact g3))
          rw [hr] at HS2
          have HSN := Lib.hid (show ∀ v : Nd, v.nf = r.v → (ps ++ [v]).length ≤ a + r.n - F ∧ T - (a + r.n) ≤ kg ∧ lstN (rn n) N [] z zs = lstN (rn n) kg (nfs (ps ++ [v])) (a + r.n - i) ((xs.drop (a + r.n)).take (T - (a + r.n))) by
            intro v hv
            have h1 := HS.out
            have h2 := HRG.out.2.1 g3
            refine ⟨by rw [List.length_append]; simp; omega, by omega, ?_⟩
            rw [h1.2.2, HS2.out, List.drop_take, List.drop_drop, nfs_append, show nfs [v] = [r.v] by rw [nfs, nfs, hv], show a - i + r.n = a + r.n - i by have := HZ.out; omega, show T - a - r.n = T - (a + r.n) by omega])
          have HRB := Lib.hid (show r.n ≤ T - a ∧ 2 ≤ r.n from ⟨HRG.out.1, HRG.out.2.1 g3⟩)
          have HPN := Lib.hid (show ps.length ≤ 1099511627776 by have := HS.out.1; omega)
          have hrI : (r.n : Int) ≤ 1099511627776 := by have := HRG.out.1; omega
          have HG3 := Lib.hid g3
          clear g3 HS HS2 HRG hal hne hr HIH
          go_wp2_with fail
          refine HC1.out.mono ?_
          intro e w2 he
          obtain ⟨v, rfl, hnf, hvi, hvo, b2⟩ := he.ok HG3.out
          have HI2 := Lib.hid (HI.out.grew (grew_of_below b2))
          have HV := Lib.hid (show v.In w2 ∧ v.Off (fun i => i ≤ u ∨ vL.ownBlock = some i) ∧ v.nf = r.v from ⟨hvi, hvo.mono (fun i e => e.elim (fun e => by have := HI.out.ord.2.2; omega) (fun e => own_lt HI.out.own i e)), hnf⟩)
          clear he b2 HC1 HI hnf hvi hvo
          obtain ⟨A6, c6, rfl, hc6, hl6⟩ := Lie.of_own HI2.out.own
          clear hc6 hl6
          go_upto_region 19 with (fail)
          obtain ⟨g, hg⟩ : ∃ g, w2.heap.size = g := ⟨_, rfl⟩
          rw [hg]
          have HN3 := Lib.hid (show Whole (w2.alloc (.cells #[.int .i64 v.k, .int .i64 v.t, .bool v.m, .slice v.B v.bs.length v.d, .slice v.A v.ls.length v.c] 27)) g #[.int .i64 v.k, .int .i64 v.t, .bool v.m, .slice v.B v.bs.length v.d, .slice v.A v.ls.length v.c] 27 by rw [← hg]; exact Whole.new _ _ _)
          have HI3 := Lib.hid (HI2.out.grew (grew_alloc (grew_refl w2 none) (.cells #[.int .i64 v.k, .int .i64 v.t, .bool v.m, .slice v.B v.bs.length v.d, .slice v.A v.ls.length v.c] 27)))
          have HV3 := Lib.hid (HV.out.1.grew (grew_alloc (grew_refl w2 none) (.cells #[.int .i64 v.k, .int .i64 v.t, .bool v.m, .slice v.B v.bs.length v.d, .slice v.A v.ls.length v.c] 27)))
          generalize w2.alloc (.cells #[.int .i64 v.k, .int .i64 v.t, .bool v.m, .slice v.B v.bs.length v.d, .slice v.A v.ls.length v.c] 27) = w3 at *
          clear HI2 hg
          have x4 : w3.cell? ⟨u, 4, none⟩ = some (.slice A6 ps.length c6) := HI3.out.box.cell 4
          have y0 : w3.cell? ⟨g, 0, none⟩ = some (.int .i64 v.k) := HN3.out.cell 0
          have y1 : w3.cell? ⟨g, 1, none⟩ = some (.int .i64 v.t) := HN3.out.cell 1
          have y2 : w3.cell? ⟨g, 2, none⟩ = some (.bool v.m) := HN3.out.cell 2
          have y3 : w3.cell? ⟨g, 3, none⟩ = some (.slice v.B v.bs.length v.d) := HN3.out.cell 3
          have y4 : w3.cell? ⟨g, 4, none⟩ = some (.slice v.A v.ls.length v.c) := HN3.out.cell 4
          have HI4 := Lib.hid (HI3.out.grew (grew_alloc (grew_refl w3 none) (.cells #[.int .i64 v.k, .int .i64 v.t, .bool v.m, .slice v.B v.bs.length v.d, .slice v.A v.ls.length v.c] 27)))
          have HV4 := Lib.hid (HV3.out.grew (grew_alloc (grew_refl w3 none) (.cells #[.int .i64 v.k, .int .i64 v.t, .bool v.m, .slice v.B v.bs.length v.d, .slice v.A v.ls.length v.c] 27)))
          have HA := Lib.hid (fun ty => append_nodes (w3.alloc (.cells #[.int .i64 v.k, .int .i64 v.t, .bool v.m, .slice v.B v.bs.length v.d, .slice v.A v.ls.length v.c] 27)) ty HI4.out.own (ps := [v]) (Lie.whole (Whole.new _ _ _) rfl) 1 (by have := HPN.out; simp; omega))
          go_upto_region 22 with (at_builtin; refine wpList_append_run _ rfl (.tmp 111) (.tmp 113) 25 rfl rfl rfl HA.out ?_; rintro vN w5 aL; obtain ⟨A7, c7, rfl, hc7, hl7⟩ := Lie.of_own aL.1; clear hc7 hl7; have AL := Lib.hid aL; clear aL HA; have HB4 := Lib.hid (HI4.out.box4 AL.out); have xf := HB4.out.frozen; have xc := fun i => HB4.out.cell i; clear x4 y0 y1 y2 y3 y4)
          have HI5 := Lib.hid (HI4.out.app HV4.out HV.out.2.1 AL.out)
          have HSM := Lib.hid (HSN.out v HV.out.2.2)
          rw [show (ps ++ [v]).length = ps.length + 1 by simp] at HI5
          generalize w5.setCell ⟨u, 4, none⟩ (.slice A7 (ps.length + 1) c7) = w6 at *
          clear xf xc HB4 AL HI4 HV4 HI3 HV3 HN3 HV HSN
          go_wp2_with fail
          go_roundw
          case rel => exact ⟨a + r.n, ps ++ [v], .slice A7 (ps.length + 1) c7, kg, by omega, by have := HRB.out; omega, by go_num, HI5, HSM⟩
          case measure => have := HRB.out; simp [intOf]; omega
        · have HS2 := Lib.hid (lstN_stop (g := rn n) (k := kg) (acc := nfs ps) (o := a - i) hne (by rw [hr]; exact g3))
          rw [hr] at HS2
          have HE := Lib.hid (show R = ⟨r.e, a - i + r.n, .z⟩ by rw [HR3.out, HS.out.2.2, HS2.out]; dsimp only; rw [if_neg g3])
          have HPL := Lib.hid (show i + (a - i + r.n) = a + r.n by have := HZ.out; omega)
          have HG3 := Lib.hid g3
          have g3' : (r.e != 0) = true := bne_iff_ne.2 g3
          have hrI : (r.n : Int) ≤ 1099511627776 := by have := HRG.out.1; omega
          clear g3 HS HS2 HRG hal hne hr HIH
          go_wp2_with fail
          refine HC1.out.mono ?_
          intro e w2 he
          obtain ⟨v, rfl, b2⟩ := he.no HG3.out
          have HI2 := Lib.hid (HI.out.grew (grew_of_below b2))
          clear he b2 HC1 HI
          go_upto_region 19 with (fail)
          have HI3 := Lib.hid (HI2.out.grew (grew_alloc (grew_refl w2 none) (.cells #[.int .i64 v.k, .int .i64 v.t, .bool v.m, .slice v.B v.bs.length v.d, .slice v.A v.ls.length v.c] 27)))
          generalize w2.alloc (.cells #[.int .i64 v.k, .int .i64 v.t, .bool v.m, .slice v.B v.bs.length v.d, .slice v.A v.ls.length v.c] 27) = w3 at *
          clear HI2
          have zf := HI3.out.res.frozen
          have zc := fun i => HI3.out.res.cell i
          go_wp2_with fail
          refine one_leave HI3.out.res _ _ _ _ _ _ _ (.int .i64 ((i + (a - i + r.n) : Nat) : Int)) _ rfl rfl (by rw [HPL.out]; rfl) rfl rfl ?_
          exact OneP.err HE.out HG3.out (below_put5 HI3.out.bel (by rw [HQ.out]; exact Nat.le_refl _) _ _ _ _ _)
      · obtain rfl : a = T := by omega
        have HE := Lib.hid (show R = ⟨0, z + N, .mk k t true none 0 [] none 0 (nfs ps)⟩ by rw [HR3.out, HS.out.2.2, Nat.sub_self, List.take_zero, lstN_end]; rfl)
        have HPN := Lib.hid (show ps.length ≤ 1099511627776 by have := HS.out.1; omega)
        obtain ⟨A6, c6, rfl, hc6, hl6⟩ := Lie.of_own HI.out.own
        have HL6 := Lib.hid (And.intro hc6 hl6)
        clear hc6 hl6 HS HR3
        have zf := HI.out.res.frozen
        have zc := fun i => HI.out.res.cell i
        have xc := fun i => HI.out.box.cell i
        go_wp2_with fail
        refine one_leave HI.out.res _ _ _ _ _ _ (.int .i64 (a : Int)) _ _ rfl rfl rfl rfl rfl ?_
        have FQ := fr_put5 wr q (.int .i64 k) (.int .i64 t) (.bool true) (.slice none 0 0) (.slice A6 ps.length c6)
        refine ⟨.mk k t true none 0 [] A6 c6 ps, ?_, by rw [HE.out]; rfl, ⟨.mk (by have := HKB.out; omega) (fun h => by simp at h) (by simp) HL6.out.1 (by have := HPN.out; omega) ?_ ?_, .mk (fun h => by simp at h) (fun _ b e => ?_) (fun p hp => ?_)⟩, below_put5 HI.out.bel (by rw [HQ.out]; exact Nat.le_refl _) _ _ _ _ _⟩
        · rw [HE.out]
          dsimp only
          rw [if_pos rfl, if_pos rfl, show i + (z + N) = a by have := HT.out; have := HZ.out; omega]
          rfl
        · refine HL6.out.2.fr FQ (fun b e => ?_)
          have := HI.out.ups b.block (by rw [e]; simp [Value.ownBlock])
          have := HI.out.ord
          omega
        · intro p hp
          exact (HI.out.ins p hp).fr2 FQ ((HI.out.off p hp).mono (fun i e => .inl (by have := HI.out.ord; omega)))
        · have := HI.out.ups b.block (by rw [e]; simp [Value.ownBlock])
          have := HI.out.ord
          omega
        · exact (HI.out.off p hp).mono (fun i e => .inl (by have := HI.out.ord; omega))
end Go.Proofs.YtnjnghbonmdbdaaDoor


/- The document's own answers of layer 11: Read. -/
namespace Go.Proofs.YtnjnghbonmdbdaaDoor
open Go.RowKit Nd

set_option maxRecDepth 100000 in
set_option maxHeartbeats 400000 in
theorem rone_zero (w : World) (A : Option Addr) (c L : Nat) (i j : Nat) (ys : List UInt8) :
    Calls Tryd.prog 22 #[.slice A L c, .int .i64 (i : Int), .int .i64 (j : Int), .int .i64 9] w (OneP w i (rn 0 ys)) := by
  have HE := Lib.hid (show rn 0 ys = ⟨14, 0, .z⟩ from rfl)
  generalize rn 0 ys = R at *
  have HW := Whole.new w #[.int .i64 0, .int .i64 0, .bool false, .slice none 0 0, .slice none 0 0] 27
  go_enter Tryd.func22, Tryd.ntmps22
  go_wp2_with fail
  refine one_leave0 HW _ _ _ _ rfl rfl rfl rfl rfl ?_
  exact OneP.err (n := 0) HE.out (by omega) ((Below.refl _ w).alloc (Nat.le_refl _) _)
theorem rone_any : ∀ n : Nat, OneC n
  | 0 => fun D hD w A c xs i j _ _ _ _ _ => by
    obtain rfl : D = 9 := by omega
    exact rone_zero w A c xs.length i j _
  | n + 1 => rone_succ n (rone_any n)

/-- What is read of bytes, and no more. -/
def rdN (xs : List UInt8) : Rn := if (rn 8 xs).e ≠ 0 then rn 8 xs else if (rn 8 xs).n ≠ xs.length then ⟨6, (rn 8 xs).n, .z⟩ else rn 8 xs
/-- What a Read leaves: from base on. -/
def ReadP (w : World) (base : Int) (R : Rn) (e : Ending) (w' : World) : Prop :=
  ∃ v : Nd, e = .returned (.tuple #[.agg #[.int .i64 v.k, .int .i64 v.t, .bool v.m, .slice v.B v.bs.length v.d, .slice v.A v.ls.length v.c], .int .i64 (base + (R.n : Int)), .int .i64 R.e]) ∧ v.nf = R.v ∧ v.In w' ∧ Below w.heap.size w w'
theorem ReadP.err {w w' : World} {base : Int} {R : Rn} {E : Int} {n : Nat} (h : R = ⟨E, n, .z⟩) (b : Below w.heap.size w w') : ReadP w base R (.returned (.tuple #[.agg #[.int .i64 0, .int .i64 0, .bool false, .slice none 0 0, .slice none 0 0], .int .i64 (base + (n : Int)), .int .i64 E])) w' := by
  subst h
  exact ⟨.z, rfl, rfl, z_in _, b⟩

theorem read_leave {W : World} {q : Nat} {a0 a1 a2 a3 a4 : Value} (h : Whole W q #[a0, a1, a2, a3, a4] 27) (v0 v1 v2 v3 v4 : Value) (a : Act) (x y : Value)
    (h2 : a.tmps.getD 2 undef = .pointer (some ⟨q, 0, none⟩)) (h3 : a.tmps.getD 3 undef = x) (h4 : a.tmps.getD 4 undef = y) (hd : a.defers = []) {E : Ending → World → Prop}
    (hE : E (.returned (.tuple #[.agg #[v0, v1, v2, v3, v4], x, y])) (put5 W q v0 v1 v2 v3 v4)) :
    bodyPost Tryd.prog Tryd.f12 E Exit.ret a (put5 W q v0 v1 v2 v3 v4) := by
  refine bodyPost_ret (results_cell_tmps rfl _ _ q _ _ _ _ h2 (h.put5 _ _ _ _ _) Tryd.underlying27 rfl (by kernel_rfl)) hd ?_
  rw [h3, h4]
  exact hE

set_option maxRecDepth 100000 in
set_option maxHeartbeats 400000 in
theorem rRead_any (w : World) (A : Option Addr) (c : Nat) (xs : List UInt8) (hb : Byt w w.heap.size A xs) (hc : xs.length ≤ c) (hl : xs.length ≤ 1099511627776) :
    Calls Tryd.prog 12 #[.slice A xs.length c] w (ReadP w 0 (rdN xs)) := by
  obtain ⟨R, hR⟩ : ∃ R, rdN xs = R := ⟨_, rfl⟩
  rw [hR]
  have hR2 := hR.symm
  unfold rdN at hR2
  obtain ⟨q, hq⟩ : ∃ q, w.heap.size = q := ⟨_, rfl⟩
  obtain ⟨w1, hw1⟩ : ∃ w1, w.alloc (.cells #[.int .i64 0, .int .i64 0, .bool false, .slice none 0 0, .slice none 0 0] 27) = w1 := ⟨_, rfl⟩
  have HQ := Lib.hid hq
  have HW1 := Lib.hid (show Whole w1 q #[.int .i64 0, .int .i64 0, .bool false, .slice none 0 0, .slice none 0 0] 27 by rw [← hw1, ← hq]; exact Whole.new _ _ _)
  have B1 := Lib.hid (show Below w.heap.size w w1 ∧ w1.heap.size = q + 1 from ⟨by rw [← hw1]; exact (Below.refl _ w).alloc (Nat.le_refl _) _, by rw [← hw1, World.size_alloc, hq]⟩)
  have hone := rone_any 8 1 rfl w1 A c xs 0 xs.length ((byt_below hb B1.out.1 (Nat.le_refl _)).more B1.out.1.size) hc hl (Nat.zero_le _) (Nat.le_refl _)
  rw [show (xs.drop 0).take (xs.length - 0) = xs by simp] at hone
  have hg := rn_good 8 xs
  obtain ⟨r, hr⟩ : ∃ r, rn 8 xs = r := ⟨_, rfl⟩
  rw [hr] at hone hR2 hg
  obtain ⟨L, hL⟩ : ∃ L, xs.length = L := ⟨_, rfl⟩
  rw [hL] at hone hR2 hg hl ⊢
  have HR := Lib.hid hR2
  have HG := Lib.hid hg
  have HC := Lib.hid hone
  have hrI : (r.n : Int) ≤ 1099511627776 := by omega
  have hLI : (L : Int) ≤ 1099511627776 := by omega
  clear hb hc hl hR hR2 hone hg hr hL
  go_enter Tryd.func12, Tryd.ntmps12
  go_wp2_with fail
  refine HC.out.mono ?_
  intro e w2 he
  rcases (Decidable.em (r.e = 0)).symm with g0 | g0
  · obtain ⟨v, rfl, b2⟩ := he.no g0
    have HE := Lib.hid (show R = ⟨r.e, r.n, .z⟩ by rw [HR.out, if_pos g0, ← HG.out.2.2 g0])
    have g0' : (r.e != 0) = true := bne_iff_ne.2 g0
    have B2 := Lib.hid (B1.out.1.trans (b2.mono B1.out.1.size))
    have HW2 := Lib.hid (HW1.out.below b2 HW1.out.lt)
    clear he b2 HC g0
    go_upto_region 2 with (fail)
    have HW3 := Lib.hid (HW2.out.grew (grew_alloc (grew_refl w2 none) (.cells #[.int .i64 v.k, .int .i64 v.t, .bool v.m, .slice v.B v.bs.length v.d, .slice v.A v.ls.length v.c] 27)) (by simp))
    have B3 := Lib.hid (B2.out.alloc B2.out.size (.cells #[.int .i64 v.k, .int .i64 v.t, .bool v.m, .slice v.B v.bs.length v.d, .slice v.A v.ls.length v.c] 27))
    generalize w2.alloc (.cells #[.int .i64 v.k, .int .i64 v.t, .bool v.m, .slice v.B v.bs.length v.d, .slice v.A v.ls.length v.c] 27) = w3 at *
    have zf := HW3.out.frozen
    have zc := fun i => HW3.out.cell i
    go_wp2_with fail
    refine read_leave HW3.out _ _ _ _ _ _ (.int .i64 (0 + (r.n : Int))) _ rfl (by rw [Int.zero_add]; rfl) rfl rfl ?_
    exact ReadP.err HE.out (below_put5 B3.out (by rw [HQ.out]; exact Nat.le_refl _) _ _ _ _ _)
  · obtain ⟨v, rfl, hnf, hvi, hvo, b2⟩ := he.ok g0
    have HR2 := Lib.hid (show R = if r.n ≠ L then ⟨6, r.n, .z⟩ else r by rw [HR.out, if_neg (fun h => h g0)])
    rw [Nat.zero_add]
    have B2 := Lib.hid (B1.out.1.trans (b2.mono B1.out.1.size))
    have HW2 := Lib.hid (HW1.out.below b2 HW1.out.lt)
    have HV := Lib.hid (show v.nf = r.v ∧ v.In w2 ∧ v.Off (fun i => i = q) from ⟨hnf, hvi, hvo.mono (fun i e => by have := B1.out.2; omega)⟩)
    have HG0 := Lib.hid g0
    clear he b2 HC g0 hnf hvi hvo HR
    go_upto_region 2 with (fail)
    obtain ⟨g, hg⟩ : ∃ g, w2.heap.size = g := ⟨_, rfl⟩
    rw [hg]
    have HN3 := Lib.hid (show Whole (w2.alloc (.cells #[.int .i64 v.k, .int .i64 v.t, .bool v.m, .slice v.B v.bs.length v.d, .slice v.A v.ls.length v.c] 27)) g #[.int .i64 v.k, .int .i64 v.t, .bool v.m, .slice v.B v.bs.length v.d, .slice v.A v.ls.length v.c] 27 by rw [← hg]; exact Whole.new _ _ _)
    have HW3 := Lib.hid (HW2.out.grew (grew_alloc (grew_refl w2 none) (.cells #[.int .i64 v.k, .int .i64 v.t, .bool v.m, .slice v.B v.bs.length v.d, .slice v.A v.ls.length v.c] 27)) (by simp))
    have HV3 := Lib.hid (HV.out.2.1.grew (grew_alloc (grew_refl w2 none) (.cells #[.int .i64 v.k, .int .i64 v.t, .bool v.m, .slice v.B v.bs.length v.d, .slice v.A v.ls.length v.c] 27)))
    have B3 := Lib.hid (B2.out.alloc B2.out.size (.cells #[.int .i64 v.k, .int .i64 v.t, .bool v.m, .slice v.B v.bs.length v.d, .slice v.A v.ls.length v.c] 27))
    generalize w2.alloc (.cells #[.int .i64 v.k, .int .i64 v.t, .bool v.m, .slice v.B v.bs.length v.d, .slice v.A v.ls.length v.c] 27) = w3 at *
    clear hg
    have zf := HW3.out.frozen
    have zc := fun i => HW3.out.cell i
    rcases (Decidable.em (r.n = L)).symm with g1 | g1
    · have g1' : ((r.n : Int) != (L : Int)) = true := bne_iff_ne.2 (by omega)
      have HE := Lib.hid (show R = ⟨6, r.n, .z⟩ by rw [HR2.out, if_pos g1])
      clear g1
      go_wp2_with fail
      refine read_leave HW3.out _ _ _ _ _ _ (.int .i64 (0 + (r.n : Int))) _ rfl (by rw [Int.zero_add]; rfl) rfl rfl ?_
      exact ReadP.err HE.out (below_put5 B3.out (by rw [HQ.out]; exact Nat.le_refl _) _ _ _ _ _)
    · have g1' : ((r.n : Int) != (L : Int)) = false := by rw [g1]; simp
      have HE := Lib.hid (show R = r by rw [HR2.out, if_neg (fun h => h g1)])
      have y0 : w3.cell? ⟨g, 0, none⟩ = some (.int .i64 v.k) := HN3.out.cell 0
      have y1 : w3.cell? ⟨g, 1, none⟩ = some (.int .i64 v.t) := HN3.out.cell 1
      have y2 : w3.cell? ⟨g, 2, none⟩ = some (.bool v.m) := HN3.out.cell 2
      have y3 : w3.cell? ⟨g, 3, none⟩ = some (.slice v.B v.bs.length v.d) := HN3.out.cell 3
      have y4 : w3.cell? ⟨g, 4, none⟩ = some (.slice v.A v.ls.length v.c) := HN3.out.cell 4
      clear g1
      go_wp2_with fail
      refine read_leave HW3.out _ _ _ _ _ _ (.int .i64 (0 + (r.n : Int))) (.int .i64 r.e) rfl (by rw [Int.zero_add]; rfl) (by rw [HG0.out]; rfl) rfl ?_
      rw [HE.out]
      exact ⟨v, rfl, HV.out.1, HV3.out.fr2 (fr_put5 _ _ _ _ _ _ _) HV.out.2.2, below_put5 B3.out (by rw [HQ.out]; exact Nat.le_refl _) _ _ _ _ _⟩
end Go.Proofs.YtnjnghbonmdbdaaDoor


/- Regions that draw their order and whose calls make memory of their own alone: the class of worlds that hold what there was, and more. -/
namespace Go.Proofs.YtnjnghbonmdbdaaDoor
open Go.RowKit

/-- What came to a world: how many draws there are, the blocks behind its own. -/
structure Pad where
  n : Nat
  hs : Array Obj

instance : Inhabited Pad := ⟨⟨0, #[]⟩⟩

/-- A world with more. -/
def World.pad (w : World) (x : Pad) : World := { w with heap := w.heap ++ x.hs, drawn := x.n }

theorem grew_pad (w : World) (x : Pad) : Grew w (World.pad w x) none :=
  ⟨rfl, rfl, rfl, by simp [World.pad], fun i hi _ => by simp [World.pad, Array.getElem?_append_left hi]⟩
theorem pad_of_grew {w w' : World} (h : Grew w w' none) : ∃ x, w' = World.pad w x := by
  refine ⟨⟨w'.drawn, w'.heap.extract w.heap.size w'.heap.size⟩, ?_⟩
  have hh : w'.heap = w.heap ++ w'.heap.extract w.heap.size w'.heap.size := by
    apply Array.ext_getElem?
    intro i
    rcases Nat.lt_or_ge i w.heap.size with hi | hi
    · rw [Array.getElem?_append_left hi, h.block i hi (by simp)]
    · rw [Array.getElem?_append_right hi]
      rw [Array.getElem?_extract]
      have := h.size
      split
      · congr 1; omega
      · rw [Array.getElem?_eq_none (by omega)]
  obtain ⟨heap, tape, drawn, os, output⟩ := w
  obtain ⟨heap', tape', drawn', os', output'⟩ := w'
  have h1 : os' = os := h.os
  have h2 : tape' = tape := h.tape
  have h3 : output' = output := h.output
  subst h1 h2 h3
  simp only [World.pad] at hh ⊢
  rw [← hh]
theorem pad_step {w w' : World} {x : Pad} (h : Grew (World.pad w x) w' none) : ∃ y, w' = World.pad w y := pad_of_grew (grew_trans (grew_pad w x) h)
theorem pad_cell {w : World} {a : Addr} {v : Value} (h : w.cell? a = some v) (x : Pad) : (World.pad w x).cell? a = some v := (grew_pad w x).cell h (by simp)

/-- A call whose answer is the same in every such world. -/
theorem pad_call {P : Program} {f : FuncId} {args : Array Value} {w : World} {x : Pad} {v : Value}
    (h : Calls P f args (World.pad w x) fun e w' => e = .returned v ∧ Grew (World.pad w x) w' none) : Calls P f args (World.pad w x) fun e w'' => e = .returned v ∧ ∃ y, w'' = World.pad w y :=
  h.mono fun _ _ ⟨he, hm⟩ => ⟨he, pad_step hm⟩

theorem wp_region_pad {P : Program} {id : Nat} {Q : Exit → Act → World → Prop} {a : Act} {w : World} {l : List Oper} (hm : P.follows .mixedOrders = true) (hB : Region.lexB .any l.toArray = true)
    (h : wpQuiet P l.toArray (fun w' => ∃ x, w' = World.pad w x) (fun a' => ∀ w', (∃ x, w' = World.pad w x) → Q .normal a' w') l a) : (Code.region id l.toArray true).wp P Q a w :=
  wp_region_quiet (C := fun w' => ∃ x, w' = World.pad w x) hm hB (pad_of_grew (grew_drew (grew_refl w none))) (by simpa using h)

end Go.Proofs.YtnjnghbonmdbdaaDoor


/- The document's own answers of layer 11: Same. -/
namespace Go.Proofs.YtnjnghbonmdbdaaDoor
open Go.RowKit Nd

/-- Two things in boxes of their own. -/
structure Two (w W : World) (q1 q2 : Nat) (f g : Nd) : Prop where
  gr : Grew w W none
  b1 : Whole W q1 f.cells 27
  b2 : Whole W q2 g.cells 27
theorem Two.grew {w W W' : World} {q1 q2 : Nat} {f g : Nd} (h : Two w W q1 q2 f g) (k : Grew W W' none) : Two w W' q1 q2 f g :=
  ⟨grew_trans h.gr k, h.b1.grew k (by simp), h.b2.grew k (by simp)⟩
theorem Two.made (w : World) (f g : Nd) : Two w ((w.alloc (.cells f.cells 27)).alloc (.cells g.cells 27)) w.heap.size (w.heap.size + 1) f g := by
  have h2 : Whole ((w.alloc (.cells f.cells 27)).alloc (.cells g.cells 27)) (w.heap.size + 1) g.cells 27 := by
    have := Whole.new (w.alloc (.cells f.cells 27)) g.cells 27
    simpa using this
  exact ⟨grew_alloc (grew_alloc (grew_refl _ _) _) _, (Whole.new w _ _).grew (grew_alloc (grew_refl _ none) _) (by simp), h2⟩

set_option maxRecDepth 100000 in
set_option maxHeartbeats 2000000 in
theorem rsame_any : ∀ (f g : Nd) (w : World), f.In w → g.In w →
    Calls Tryd.prog 13 #[f.val, g.val] w fun e w' => e = .returned (.bool (same f g)) ∧ Grew w w' none := by
  refine Nd.ind fun k t m B d bs A c ls ih => ?_
  intro g w hf hg
  obtain ⟨k', t', m', B', d', bs', A', c', ls'⟩ := g
  obtain ⟨E, hE⟩ : ∃ E, same (.mk k t m B d bs A c ls) (.mk k' t' m' B' d' bs' A' c' ls') = E := ⟨_, rfl⟩
  rw [hE]
  have hE2 : (decide (k = k') && decide (t = t') && decide (m = m') && decide (bs = bs') && decide (ls.length = ls'.length) && sames ls ls') = E := by rw [← hE, same]; rfl
  have HTW := Lib.hid (Two.made w (.mk k t m B d bs A c ls) (.mk k' t' m' B' d' bs' A' c' ls'))
  have hlf : ls.length ≤ 1954687338268 := hf.list.2.2
  have hlg : ls'.length ≤ 1954687338268 := hg.list.2.2
  have HF := Lib.hid hf
  have HG := Lib.hid hg
  have IH := Lib.hid ih
  have HE := Lib.hid hE2
  change Calls Tryd.prog 13 #[.agg #[.int .i64 k, .int .i64 t, .bool m, .slice B bs.length d, .slice A ls.length c], .agg #[.int .i64 k', .int .i64 t', .bool m', .slice B' bs'.length d', .slice A' ls'.length c']] w _
  have hlI : (ls.length : Int) ≤ 1954687338268 := by omega
  have hlI' : (ls'.length : Int) ≤ 1954687338268 := by omega
  clear hf hg ih hE hE2 hlf hlg
  go_enter Tryd.func13, Tryd.ntmps13
  go_upto_region 1 with (fail)
  have HT2 := Lib.hid (show Two w ((w.alloc (.cells #[.int .i64 k, .int .i64 t, .bool m, .slice B bs.length d, .slice A ls.length c] 27)).alloc (.cells #[.int .i64 k', .int .i64 t', .bool m', .slice B' bs'.length d', .slice A' ls'.length c'] 27)) w.heap.size (w.heap.size + 1) (.mk k t m B d bs A c ls) (.mk k' t' m' B' d' bs' A' c' ls') from HTW.out)
  clear HTW
  generalize (w.alloc (.cells #[.int .i64 k, .int .i64 t, .bool m, .slice B bs.length d, .slice A ls.length c] 27)).alloc (.cells #[.int .i64 k', .int .i64 t', .bool m', .slice B' bs'.length d', .slice A' ls'.length c'] 27) = W at *
  generalize w.heap.size + 1 = q2 at *
  generalize w.heap.size = q1 at *
  have hcv1 : (convert 22 9 (.slice B bs.length d)).run Tryd.prog W = .ok (.string (txt bs)) W := conv_txt W Tryd.underlying22 Tryd.underlying5 Tryd.underlying9 (HF.out.grew HT2.out.gr).bytes.1 rfl d
  have hcv2 : (convert 22 9 (.slice B' bs'.length d')).run Tryd.prog W = .ok (.string (txt bs')) W := conv_txt W Tryd.underlying22 Tryd.underlying5 Tryd.underlying9 (HG.out.grew HT2.out.gr).bytes.1 rfl d'
  have a0 : W.cell? ⟨q1, 0, none⟩ = some (.int .i64 k) := HT2.out.b1.cell 0
  have a1 : W.cell? ⟨q1, 1, none⟩ = some (.int .i64 t) := HT2.out.b1.cell 1
  have a2 : W.cell? ⟨q1, 2, none⟩ = some (.bool m) := HT2.out.b1.cell 2
  have a3 : W.cell? ⟨q1, 3, none⟩ = some (.slice B bs.length d) := HT2.out.b1.cell 3
  have a4 : W.cell? ⟨q1, 4, none⟩ = some (.slice A ls.length c) := HT2.out.b1.cell 4
  have b0 : W.cell? ⟨q2, 0, none⟩ = some (.int .i64 k') := HT2.out.b2.cell 0
  have b1 : W.cell? ⟨q2, 1, none⟩ = some (.int .i64 t') := HT2.out.b2.cell 1
  have b2 : W.cell? ⟨q2, 2, none⟩ = some (.bool m') := HT2.out.b2.cell 2
  have b3 : W.cell? ⟨q2, 3, none⟩ = some (.slice B' bs'.length d') := HT2.out.b2.cell 3
  have b4 : W.cell? ⟨q2, 4, none⟩ = some (.slice A' ls'.length c') := HT2.out.b2.cell 4
  rcases (Decidable.em (k = k')).symm with g1 | g1
  · obtain rfl : E = false := by rw [← HE.out, decide_eq_false g1]; simp
    have g1' : (k != k') = true := bne_iff_ne.2 g1
    clear g1
    go_wp2_with fail
    go_ret
    exact ⟨rfl, HT2.out.gr⟩
  have g1' : (k != k') = false := by simpa using g1
  rcases (Decidable.em (t = t')).symm with g2 | g2
  · obtain rfl : E = false := by rw [← HE.out, decide_eq_false g2]; simp
    have g2' : (t != t') = true := bne_iff_ne.2 g2
    clear g1 g2
    go_wp2_with fail
    go_ret
    exact ⟨rfl, HT2.out.gr⟩
  have g2' : (t != t') = false := by simpa using g2
  rcases (Decidable.em (m = m')).symm with g3 | g3
  · obtain rfl : E = false := by rw [← HE.out, decide_eq_false g3]; simp
    have g3' : ¬ m = m' := g3
    clear g1 g2 g3
    go_wp2_with fail
    go_ret
    exact ⟨rfl, HT2.out.gr⟩
  have g3' : m = m' := g3
  rcases (Decidable.em (bs = bs')).symm with g4 | g4
  · obtain rfl : E = false := by rw [← HE.out, decide_eq_false g4]; simp
    have g4' : ¬ (txt bs).toList = (txt bs').toList := fun e => g4 (by rw [ByteArray.toList_eq, ByteArray.toList_eq] at e; simpa [txt] using e)
    clear g1 g2 g3 g4
    generalize txt bs = T1 at *
    generalize txt bs' = T2 at *
    go_wp2_with fail
    go_ret
    exact ⟨rfl, HT2.out.gr⟩
  have g4' : txt bs' = txt bs := by rw [g4]
  rw [g4'] at hcv2
  clear g4'
  generalize txt bs = T1 at *
  rcases (Decidable.em (ls.length = ls'.length)).symm with g5 | g5
  · obtain rfl : E = false := by rw [← HE.out, decide_eq_false g5]; simp
    have g5' : ((ls.length : Int) != (ls'.length : Int)) = true := bne_iff_ne.2 (by omega)
    clear g1 g2 g3 g4 g5
    go_wp2_with fail
    go_ret
    exact ⟨rfl, HT2.out.gr⟩
  have g5' : ((ls.length : Int) != (ls'.length : Int)) = false := by simp; omega
  have HSS := Lib.hid (show sames ls ls' = E by rw [← HE.out, decide_eq_true g1, decide_eq_true g2, decide_eq_true g3, decide_eq_true g4, decide_eq_true g5]; rfl)
  have HLN := Lib.hid g5
  clear g1 g2 g3 g4 g5 HE
  go_upto_region 4 with (fail)
  clear hcv1 hcv2 g1' g2' g3' g5' a0 a1 a2 a3 a4 b0 b1 b2 b3 b4
  go_loopw [5] (fun i wr => ∃ (j : Nat), j ≤ ls.length ∧ i = .int .i64 j ∧ Hid (Two w wr q1 q2 (.mk k t m B d bs A c ls) (.mk k' t' m' B' d' bs' A' c' ls') ∧ sames (ls.drop j) (ls'.drop j) = E)) (fun i _ => ls.length - (intOf i).toNat)
  case atStart => exact ⟨0, Nat.zero_le _, rfl, Lib.hid ⟨HT2.out, HSS.out⟩⟩
  case round =>
    obtain ⟨j, hj, rfl, R⟩ := hrel
    have a4 : wr.cell? ⟨q1, 4, none⟩ = some (.slice A ls.length c) := R.out.1.b1.cell 4
    have hjI : (j : Int) ≤ 1954687338268 := by omega
    by_cases hlt : j < ls.length
    · have hlu : j < ls'.length := by have := HLN.out; omega
      obtain ⟨b1, o1, p, hA, hp, hpm, d0, d1, d2, d3, d4⟩ := Lie.at (HF.out.list.1.grew R.out.1.gr) hlt
      obtain ⟨b2, o2, r, hB, hr, hrm, e0, e1, e2, e3, e4⟩ := Lie.at (HG.out.list.1.grew R.out.1.gr) hlu
      have k4 : wr.cell? ⟨q2, 4, none⟩ = some (.slice A' ls'.length c') := R.out.1.b2.cell 4
      obtain rfl : A = some ⟨b1, o1, none⟩ := hA
      obtain rfl : A' = some ⟨b2, o2, none⟩ := hB
      replace hp : ls[j]? = some p := hp
      replace hr : ls'[j]? = some r := hr
      have hI := IH.out p hpm r
      have hIp := (HF.out.grew R.out.1.gr).parts p hpm
      have hIr := (HG.out.grew R.out.1.gr).parts r hrm
      have hs : sames (ls.drop j) (ls'.drop j) = (same p r && sames (ls.drop (j + 1)) (ls'.drop (j + 1))) := by
        rw [Nd.drop_at hp, Nd.drop_at hr, sames]
      have hS := R.out.2
      rw [hs] at hS
      generalize same p r = Z at *
      have HCV : Hid (∀ x, Calls Tryd.prog 13 #[.agg #[.int .i64 p.k, .int .i64 p.t, .bool p.m, .slice p.B p.bs.length p.d, .slice p.A p.ls.length p.c], .agg #[.int .i64 r.k, .int .i64 r.t, .bool r.m, .slice r.B r.bs.length r.d, .slice r.A r.ls.length r.c]] (World.pad wr x) fun e w'' => e = .returned (.bool Z) ∧ Grew (World.pad wr x) w'' none) := Lib.hid (fun x => hI _ (hIp.grew (grew_pad _ _)) (hIr.grew (grew_pad _ _)))
      have HS := Lib.hid hS
      have i0 : (0 : Int) ≤ (j : Int) := by omega
      have i1 : (j : Int) < (ls.length : Int) := by omega
      have i2 : (j : Int) < (ls'.length : Int) := by omega
      clear hI hIp hIr hs hS hp hpm hr hrm
      go_upto_region 6 with (fail)
      have l2 : ∀ x, (World.pad wr x).cell? ⟨q1, 4, none⟩ = some (.slice (some ⟨b1, o1, none⟩) ls.length c) := fun x => pad_cell a4 x
      have l3 : ∀ x, (World.pad wr x).cell? ⟨q2, 4, none⟩ = some (.slice (some ⟨b2, o2, none⟩) ls'.length c') := fun x => pad_cell k4 x
      have f0 := fun x => pad_cell d0 x
      have f1 := fun x => pad_cell d1 x
      have f2 := fun x => pad_cell d2 x
      have f3 := fun x => pad_cell d3 x
      have f4 := fun x => pad_cell d4 x
      have h0 := fun x => pad_cell e0 x
      have h1 := fun x => pad_cell e1 x
      have h2 := fun x => pad_cell e2 x
      have h3 := fun x => pad_cell e3 x
      have h4 := fun x => pad_cell e4 x
      clear d0 d1 d2 d3 d4 e0 e1 e2 e3 e4 a4 k4
      refine wp_region_pad (by kernel_rfl) (by kernel_rfl) ?_
      repeat (go_big_quiet_step ((go_at_call 13; exact pad_call (HCV.out _))))
      refine wpQuiet_nil ?_
      rintro _ ⟨xq, rfl⟩
      clear l2 l3 f0 f1 f2 f3 f4 h0 h1 h2 h3 h4
      have HGG := Lib.hid (show Two w (World.pad wr xq) q1 q2 _ _ from R.out.1.grew (grew_pad _ _))
      clear R
      cases Z with
      | true =>
        have HR2 := Lib.hid (And.intro HGG.out (show sames (ls.drop (j + 1)) (ls'.drop (j + 1)) = E by have := HS.out; simpa using this))
        clear HS HGG
        go_wp2_with fail
        go_roundw
        case rel => exact ⟨j + 1, by omega, by go_num, HR2⟩
        case measure => simp [intOf]; omega
      | false =>
        have HE3 := Lib.hid (show E = false by have := HS.out; simpa using this.symm)
        go_wp2_with fail
        go_ret
        exact ⟨by rw [HE3.out]; rfl, HGG.out.gr⟩
    · have HE3 := Lib.hid (show E = true by
        have h3 := R.out.2
        have : j = ls.length := by omega
        rw [this, List.drop_length, sames] at h3
        exact h3.symm)
      have HGG := Lib.hid R.out.1.gr
      clear R
      go_wp2_with fail
      go_ret
      exact ⟨by rw [HE3.out]; rfl, HGG.out⟩
end Go.Proofs.YtnjnghbonmdbdaaDoor


/- What layer 11's functions are to answer, as premises of the laws' walks: the chapter's words. -/
namespace Go.Proofs.YtnjnghbonmdbdaaDoor
open Go.RowKit Nd

def AliveE : Prop := ∀ w : World, Tb w → Calls Tryd.prog 10 #[] w fun e w' => e = .returned (.bool true) ∧ Below w.heap.size w w'
def ReadE : Prop := ∀ (w : World) (A : Option Addr) (c : Nat) (xs : List UInt8) (base : Int), Tb w → Byt w w.heap.size A xs → xs.length ≤ c → xs.length ≤ 1000000 → 0 ≤ base → base ≤ 1099511627776 →
  Calls Tryd.prog 11 #[.slice A xs.length c, .int .i64 base] w (ReadP w base (rdN xs))
def WriteE : Prop := ∀ (w : World) (f : Nd), Tb w → f.In w → f.cnt ≤ 1000000 → Calls Tryd.prog 15 #[f.val] w (WrP w f.wr)
def CheckE : Prop := ∀ (w : World) (f : Nd), Tb w → f.In w → f.cnt ≤ 1000000 → Calls Tryd.prog 17 #[f.val] w fun e w' => e = .returned (.int .i64 f.wr.2) ∧ Grew w w' none
def DepthE : Prop := ∀ (w : World) (f : Nd), Tb w → f.In w → f.cnt ≤ 1000000 → Calls Tryd.prog 18 #[f.val] w fun e w' => e = .returned (.int .i64 (f.dep : Int)) ∧ Grew w w' none
def SameE : Prop := ∀ (w : World) (f g : Nd), Tb w → f.In w → g.In w → f.cnt ≤ 1000000 → g.cnt ≤ 1000000 → Calls Tryd.prog 20 #[f.val, g.val] w fun e w' => e = .returned (.bool (same f g)) ∧ Grew w w' none
theorem Nd.same_turn (f g : Nd) : same f g = same g f := by
  rw [Bool.eq_iff_iff, same_nf, same_nf]
  exact eq_comm
end Go.Proofs.YtnjnghbonmdbdaaDoor


/- The package's own times: digits, years, days, moments. -/
namespace Go.Proofs.YtnjnghbonmdbdaaDoor
open Go.RowKit

set_option maxRecDepth 100000 in
set_option maxHeartbeats 600000 in
theorem decimal_any (w : World) (A : Option Addr) (c : Nat) (xs : List UInt8) (hb : Byt w w.heap.size A xs) (hl : xs.length ≤ 4) :
    Calls Tryd.prog 71 #[.slice A xs.length c] w fun e w' => e = .returned (.tuple #[.int .i64 (if 0 ≤ dgs xs then dgs xs else 0), .bool (decide (0 ≤ dgs xs))]) ∧ w' = w := by
  obtain ⟨L, hL⟩ : ∃ L, xs.length = L := ⟨_, rfl⟩
  rw [hL] at hl ⊢
  have HB := Lib.hid hb
  have HL := Lib.hid hL
  clear hb hL
  obtain ⟨R, hR⟩ : ∃ R, (if 0 ≤ dgs xs then dgs xs else 0) = R := ⟨_, rfl⟩
  obtain ⟨S, hS⟩ : ∃ S, decide (0 ≤ dgs xs) = S := ⟨_, rfl⟩
  rw [hR, hS]
  have HRS := Lib.hid (And.intro hR hS)
  clear hR hS
  go_enter Tryd.func71, Tryd.ntmps71
  go_wp2_with fail
  go_loopw [4, 9] (fun n i wr => ∃ (j : Nat) (m : Nat), j ≤ L ∧ Hid (m < 10 ^ j) ∧ i = .int .i64 j ∧ n = .int .i64 m ∧ Hid (dgs xs = dgF m (xs.drop j)) ∧ wr = w) (fun _ i _ => L - (intOf i).toNat)
  case atStart => exact ⟨0, 0, Nat.zero_le _, Lib.hid (by decide), rfl, rfl, Lib.hid (by rw [List.drop_zero]; rfl), rfl⟩
  case round =>
    obtain ⟨j, m, hj, hm, rfl, rfl, hd, hwr⟩ := hrel
    obtain rfl : w = wr := hwr.symm
    clear hwr
    have hm4 : m < 10000 := Nat.lt_of_lt_of_le hm.out (Nat.pow_le_pow_right (by omega) (by omega : j ≤ 4))
    by_cases hlt : j < L
    · obtain ⟨b, o, rfl, -, hc⟩ := HB.out (by rw [HL.out]; omega)
      obtain ⟨x, hx⟩ : ∃ x, xs.getD j 0 = x := ⟨_, rfl⟩
      obtain ⟨d, hdd⟩ : ∃ d, x.toNat = d := ⟨_, rfl⟩
      have hd256 : d < 256 := by rw [← hdd]; exact x.toNat_lt
      have c1 : w.cell? ⟨b, o + j, none⟩ = some (.int .u8 (d : Int)) := by rw [hc j (by rw [HL.out]; omega), hx, hdd]
      have hd2 := hd.out
      rw [getD_take_drop (by rw [HL.out]; omega), hx] at hd2
      have e1 : dgF m (x :: xs.drop (j + 1)) = if d < 48 ∨ 57 < d then -1 else dgF (10 * m + (d - 48)) (xs.drop (j + 1)) := by rw [← hdd]; rfl
      rw [e1] at hd2
      clear e1 hc hx hdd hd
      by_cases g1 : d < 48
      · rw [if_pos (.inl g1)] at hd2
        have g1' : (d : Int) < 48 := by omega
        obtain ⟨rfl, rfl⟩ : 0 = R ∧ false = S := by have := HRS.out; rw [hd2] at this; exact this
        clear hd2 hm hm4
        go_wp2_with fail
        go_ret2
        exact ⟨rfl, rfl⟩
      · by_cases g2 : 57 < d
        · rw [if_pos (.inr g2)] at hd2
          have g1' : ¬ (d : Int) < 48 := by omega
          have g2' : 57 < (d : Int) := by omega
          obtain ⟨rfl, rfl⟩ : 0 = R ∧ false = S := by have := HRS.out; rw [hd2] at this; exact this
          clear hd2 hm hm4
          go_wp2_with fail
          go_ret2
          exact ⟨rfl, rfl⟩
        · rw [if_neg (by omega)] at hd2
          have HD := Lib.hid hd2
          have g1' : ¬ (d : Int) < 48 := by omega
          have g2' : ¬ 57 < (d : Int) := by omega
          have f0 : ((d : Int) - 48) % 256 = ((d - 48 : Nat) : Int) := by omega
          have f1 : IntKind.i64.wrap ((d - 48 : Nat) : Int) = ((d - 48 : Nat) : Int) := by clear f0; rw [IntWalk.i64_left, IntWalk.wrap64_in _ (by omega)]
          have f2 : wrap64 (10 * (m : Int)) = 10 * (m : Int) := IntWalk.wrap64_in _ (by clear f0 f1; omega)
          have f3 : wrap64 (10 * (m : Int) + ((d : Int) - 48)) = ((10 * m + (d - 48) : Nat) : Int) := by clear f0 f1 f2; rw [IntWalk.wrap64_in _ (by omega)]; omega
          have HM := Lib.hid (show 10 * m + (d - 48) < 10 ^ (j + 1) by clear f0 f1 f2 f3; have := hm.out; rw [Nat.pow_succ]; omega)
          clear hd2 hm hm4
          go_wp2_with fail
          go_roundw
          case rel => exact ⟨j + 1, 10 * m + (d - 48), hlt, HM, rfl, by rw [f3], HD, trivial⟩
          case measure => simp [intOf]; omega
    · obtain rfl : j = L := by omega
      have hd2 := hd.out
      rw [List.drop_of_length_le (by rw [HL.out]; omega)] at hd2
      have hd3 : dgs xs = (m : Int) := hd2
      obtain ⟨rfl, rfl⟩ : (m : Int) = R ∧ true = S := by
        have := HRS.out
        rw [hd3, if_pos (by omega), decide_eq_true (by omega)] at this
        exact this
      clear hd hd2 hm hm4 hd3
      go_wp2_with fail
      go_ret2
      exact ⟨rfl, rfl⟩

set_option maxRecDepth 100000 in
theorem wholeyear_any (w : World) (y : Int) (h0 : 0 ≤ y) (h1 : y ≤ 99) : Calls Tryd.prog 72 #[.int .i64 y] w fun e w' => e = .returned (.int .i64 (tyY 23 y)) ∧ w' = w := by
  have e1 : wrap64 (1900 + y) = 1900 + y := IntWalk.wrap64_in _ (by omega)
  have e2 : wrap64 (2000 + y) = 2000 + y := IntWalk.wrap64_in _ (by clear e1; omega)
  by_cases h : 50 ≤ y
  · have e : tyY 23 y = 1900 + y := by unfold tyY; rw [if_pos rfl, if_pos h, Int.add_comm]
    rw [e]
    clear e
    go_enter Tryd.func72, Tryd.ntmps72
    go_wp2_with fail
    go_ret
    exact ⟨by simp, rfl⟩
  · have e : tyY 23 y = 2000 + y := by unfold tyY; rw [if_pos rfl, if_neg h, Int.add_comm]
    rw [e]
    clear e
    go_enter Tryd.func72, Tryd.ntmps72
    go_wp2_with fail
    go_ret
    exact ⟨by simp, rfl⟩

set_option maxRecDepth 100000 in
set_option maxHeartbeats 400000 in
theorem isleap_any (w : World) (y : Int) (hy : 0 ≤ y) : Calls Tryd.prog 75 #[.int .i64 y] w fun e w' => e = .returned (.bool (lp y)) ∧ w' = w := by
  have t4 : y.tmod 4 = y % 4 := Int.tmod_eq_emod_of_nonneg hy
  have t100 : y.tmod 100 = y % 100 := Int.tmod_eq_emod_of_nonneg hy
  have t400 : y.tmod 400 = y % 400 := Int.tmod_eq_emod_of_nonneg hy
  unfold lp
  rw [← t4, ← t100, ← t400]
  clear t4 t100 t400 hy
  cases h4 : (y.tmod 4 == 0) <;> cases h100 : (y.tmod 100 != 0) <;> cases h400 : (y.tmod 400 == 0)
  all_goals
    go_enter Tryd.func75, Tryd.ntmps75
    go_wp2_with fail
    go_ret
    exact ⟨rfl, rfl⟩

set_option maxRecDepth 100000 in
set_option maxHeartbeats 400000 in
theorem daysof_any (w : World) (y m : Int) (hy : 0 ≤ y) : Calls Tryd.prog 74 #[.int .i64 y, .int .i64 m] w fun e w' => e = .returned (.int .i64 (dys y m)) ∧ w' = w := by
  have HL := Lib.hid (isleap_any w y hy)
  clear hy
  by_cases h1 : m = 4 ∨ m = 6 ∨ m = 9 ∨ m = 11
  · have e : dys y m = 30 := by unfold dys; rw [if_pos h1]
    rw [e]
    clear e HL
    rcases h1 with rfl | rfl | rfl | rfl
    all_goals
      go_enter Tryd.func74, Tryd.ntmps74
      go_wp2_with fail
      go_ret
      exact ⟨rfl, rfl⟩
  · by_cases h2 : m = 2
    · subst h2
      have e : dys y 2 = if lp y then 29 else 28 := by unfold dys; rw [if_neg (by decide), if_pos rfl]
      rw [e]
      clear e h1
      cases hl : lp y
      all_goals
        rw [hl] at HL
        clear hl
        go_enter Tryd.func74, Tryd.ntmps74
        go_wp2_with fail
        refine HL.out.mono ?_
        rintro e w' ⟨rfl, hw⟩
        obtain rfl : w = w' := hw.symm
        clear hw HL
        go_wp2_with fail
        go_ret
        exact ⟨rfl, rfl⟩
    · have e : dys y m = 31 := by unfold dys; rw [if_neg h1, if_neg h2]
      have k1 : (m == 4) = false := beq_eq_false_iff_ne.2 (fun h => h1 (.inl h))
      have k2 : (m == 6) = false := beq_eq_false_iff_ne.2 (fun h => h1 (.inr (.inl h)))
      have k3 : (m == 9) = false := beq_eq_false_iff_ne.2 (fun h => h1 (.inr (.inr (.inl h))))
      have k4 : (m == 11) = false := beq_eq_false_iff_ne.2 (fun h => h1 (.inr (.inr (.inr h))))
      have k5 : (m == 2) = false := beq_eq_false_iff_ne.2 h2
      rw [e]
      clear e h1 h2 HL
      go_enter Tryd.func74, Tryd.ntmps74
      go_wp2_with fail
      go_ret
      exact ⟨rfl, rfl⟩
end Go.Proofs.YtnjnghbonmdbdaaDoor

