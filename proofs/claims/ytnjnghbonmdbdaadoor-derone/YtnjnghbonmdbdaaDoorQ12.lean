/- Layer 11: bytes that are laid from the last one back: what lies in memory meanwhile; one piece laid. -/
import Derived.Test.YtnjnghbonmdbdaaDoorQ11
import Derived.Laws.CopyOwn
import Derived.RangeFuncNested
import Derived.RangeFuncBound
import Derived.RangeFuncCalls
import Derived.RangeFuncLeaves
import Derived.Shelf.Abstract
import Derived.Shelf.RegionOpen
import Derived.WalkKit
import Derived.OwnWalkIn
import Derived.TacticsInMore
import Derived.LoopNIn
import Derived.LoopIn
import Derived.Laws.MakeOwn
namespace Go.Proofs.YtnjnghbonmdbdaaDoor
open Go.RowKit Nd

/-- Memory while bytes are laid: so many are left to lay ahead of those that lie. -/
structure LyI (w : World) (bb bx lx px tx S L : Nat) (zs : List UInt8) : Prop where
  b : Whole w bx #[.slice (some ⟨bb, 0, none⟩) S S] 22
  l : Whole w lx #[.int .i64 (L : Int)] 3
  p : Whole w px #[.func (.func 39) #[] #[.pointer (some ⟨lx, 0, none⟩), .pointer (some ⟨bx, 0, none⟩)]] 76
  t : Whole w tx #[.func (.func 40) #[] #[.pointer (some ⟨lx, 0, none⟩), .pointer (some ⟨px, 0, none⟩), .pointer (some ⟨tx, 0, none⟩)]] 77
  r : Whole w bb (cellsOf (List.replicate L 0 ++ zs)).toArray 5
  n : L + zs.length = S
  s : S ≤ 100000000
  z : 0 < bb ∧ 0 < lx
theorem LyI.fr {w w' : World} {bb bx lx px tx S L : Nat} {zs : List UInt8} {F : Nat → Prop} (h : LyI w bb bx lx px tx S L zs) (g : Fr w w' F) (hF : ¬ F bb ∧ ¬ F bx ∧ ¬ F lx ∧ ¬ F px ∧ ¬ F tx) : LyI w' bb bx lx px tx S L zs :=
  ⟨h.b.fr g hF.2.1, h.l.fr g hF.2.2.1, h.p.fr g hF.2.2.2.1, h.t.fr g hF.2.2.2.2, h.r.fr g hF.1, h.n, h.s, h.z⟩
theorem LyI.grew {w w' : World} {bb bx lx px tx S L : Nat} {zs : List UInt8} (h : LyI w bb bx lx px tx S L zs) (g : Grew w w' none) : LyI w' bb bx lx px tx S L zs :=
  h.fr (Fr.of_grew g) ⟨fun e => by (cases e), fun e => by (cases e), fun e => by (cases e), fun e => by (cases e), fun e => by (cases e)⟩
theorem LyI.ne {w : World} {bb bx lx px tx S L : Nat} {zs : List UInt8} (h : LyI w bb bx lx px tx S L zs) : (bx ≠ bb ∧ lx ≠ bb ∧ px ≠ bb ∧ tx ≠ bb) ∧ (bx ≠ lx ∧ px ≠ lx ∧ tx ≠ lx) :=
  ⟨⟨h.b.ne h.r (by decide), h.l.ne h.r (by decide), h.p.ne h.r (by decide), h.t.ne h.r (by decide)⟩, h.b.ne h.l (by decide), h.p.ne h.l (by decide), h.t.ne h.l (by decide)⟩
/-- What laying turns. -/
def LyF (bb lx : Nat) (i : Nat) : Prop := i = bb ∨ i = lx

theorem copy_fr11 {P : Program} {w : World} {ops : Array Oper} {rest : List Oper} {o : Oper} {a : Act} {Q : Exit → Act → World → Prop} (hgd : o.guard = none) (d s : Operand) (dT sT : TypeId)
    (ho : o.op = .call { callee := .builtin .copy, args := #[d, s], argTypes := #[dT, sT] }) (elem : TypeId) (hu : P.underlying dT = some (.slice elem)) (hsz : (P.info? elem).map (·.size) = some 1)
    (dp sp : Option Addr) (dLen dCap sLen sCap : Nat) (hd : a.eval d = .slice dp dLen dCap) (hs : a.eval s = .slice sp sLen sCap)
    (g off : Nat) (cur : List Value) (t : TypeId) (hg : w.heap[g]? = some (.cells cur.toArray t (0, 0))) (cs : List Value) (hn : cs.length = Nat.min sLen dLen)
    (hpos : 0 < cs.length → dp = some ⟨g, off, none⟩ ∧ ∃ ad, sp = some ad ∧ ∀ j v, cs[j]? = some v → w.cell? (ad.add j) = some v)
    (hfit : off + cs.length ≤ cur.length) (h1 : ∀ v ∈ cs, v.oneCell' = true)
    (h : ∀ w', Hid (w'.heap[g]? = some (.cells (splice cur off cs).toArray t (0, 0))) → Hid (Fr w w' (fun i => i = g)) → wpList P ops Q rest (a.put o.dst (goInt cs.length)) w') :
    wpList P ops Q (o :: rest) a w := by
  rcases Nat.eq_zero_or_pos cs.length with h0 | h0
  · obtain rfl : cs = [] := List.eq_nil_of_length_eq_zero h0
    refine wpList_copy_nothing hgd d s dT sT ho elem hu hsz dp sp dLen dCap sLen sCap hd hs (by simpa using hn.symm) ?_
    exact h w (Lib.hid (by simpa [splice] using hg)) (Lib.hid (Fr.refl _ _))
  · obtain ⟨rfl, ad, rfl, hsrc⟩ := hpos h0
    refine wpList_copy_own hgd d s dT sT ho elem hu hsz g off dLen dCap ad sLen sCap hd hs cur.toArray t hg cs hn hsrc (by simpa using hfit) h1 ?_
    refine h _ (Lib.hid (by simpa [splice] using setRow_heap w g _ _ t _ hg)) (Lib.hid ⟨rfl, rfl, rfl, by simp [World.setRow], fun k _ hk => setRow_other w g k _ (fun e => hk (by omega))⟩)
theorem size_u8_11 : (Tryd.prog.info? 5).map (·.size) = some 1 := by kernel_rfl
/-- Bytes over the last of the nulls. -/
theorem splice_lay (L' : Nat) (xs zs : List UInt8) : splice (cellsOf (List.replicate (L' + xs.length) 0 ++ zs)) L' (cellsOf xs) = cellsOf (List.replicate L' 0 ++ (xs ++ zs)) := by
  unfold splice
  simp only [cellsOf, ← List.map_take, ← List.map_drop, ← List.map_append, List.length_map]
  congr 1
  rw [List.take_append_of_le_length (by simp), List.take_replicate, Nat.min_eq_left (by omega), List.drop_append, List.drop_replicate]
  simp

set_option maxRecDepth 100000 in
set_option maxHeartbeats 1000000 in
theorem put_any (w : World) {bb bx lx px tx S L : Nat} {zs : List UInt8} (h : LyI w bb bx lx px tx S L zs) (A : Option Addr) (c : Nat) (xs : List UInt8) (hb : Byt w w.heap.size A xs) (hl : xs.length ≤ L) :
    Calls Tryd.prog 39 #[.slice A xs.length c, .pointer (some ⟨lx, 0, none⟩), .pointer (some ⟨bx, 0, none⟩)] w fun e w' => (∃ v, e = .returned v) ∧ LyI w' bb bx lx px tx S (L - xs.length) (xs ++ zs) ∧ Fr w w' (LyF bb lx) := by
  obtain ⟨L', hL'⟩ : ∃ L', L - xs.length = L' := ⟨_, rfl⟩
  rw [hL']
  have hLL : L = L' + xs.length := by omega
  subst hLL
  have HI := Lib.hid h
  have HNE := Lib.hid h.ne
  have hSI : (S : Int) ≤ 100000000 := by have := h.s; omega
  have hn := h.n
  -- where the bytes lie, what is left is not
  have hsrc : ∀ j v, (cellsOf xs)[j]? = some v → ∃ ad, A = some ad ∧ ad.block ≠ lx ∧ w.cell? (ad.add j) = some v := by
    intro j v hv
    have hj : j < xs.length := by
      rcases Nat.lt_or_ge j xs.length with h | h
      · exact h
      · rw [List.getElem?_eq_none (by rw [cellsOf_length]; exact h)] at hv; cases hv
    obtain ⟨b, o, e, _, hc⟩ := hb (by omega)
    rw [cellsOf_at _ _ hj] at hv
    cases hv
    refine ⟨⟨b, o, none⟩, e, ?_, by rw [addr_add]; exact hc j hj⟩
    rintro rfl
    have h1 := hc j hj
    rw [h.l.cell] at h1
    rcases Nat.eq_zero_or_pos (o + j) with h0 | h0
    · rw [h0] at h1; cases h1
    · rw [Array.getElem?_eq_none (by simp; omega)] at h1; cases h1
  obtain ⟨n, hnn⟩ : ∃ n, xs.length = n := ⟨_, rfl⟩
  have HSRC := Lib.hid hsrc
  have HN := Lib.hid hnn
  have hl0 : w.cell? ⟨lx, 0, none⟩ = some (.int .i64 ((L' : Int) + (n : Int))) := by rw [← hnn, h.l.cell]; simp
  have hb0 : w.cell? ⟨bx, 0, none⟩ = some (.slice (some ⟨bb, 0, none⟩) S S) := h.b.cell 0
  have lf := h.l.frozen 0
  rw [hnn] at hn ⊢
  have hnI : (n : Int) ≤ 100000000 := by omega
  have hLI : (L' : Int) ≤ 100000000 := by omega
  have HSN := Lib.hid hn
  clear hsrc h hb hl hL' hn hnn
  go_enter Tryd.func39, Tryd.ntmps39
  go_upto_region 1 with (fail)
  have hW1 : Whole (w.setCell ⟨lx, 0, none⟩ (.int .i64 (L' : Int))) lx #[.int .i64 (L' : Int)] 3 := HI.out.l.set 0 _
  have F1 := (Fr.refl w (fun i => i = lx)).set (p := lx) (.inl rfl) 0 none (.int .i64 (L' : Int))
  have HF1 := Lib.hid F1
  have HB1 := Lib.hid (HI.out.b.fr F1 HNE.out.2.1)
  have HR1 := Lib.hid (HI.out.r.fr F1 (fun e => HNE.out.1.2.1 e.symm))
  have HL1 := Lib.hid hW1
  have HS1 := Lib.hid (show ∀ j v, (cellsOf xs)[j]? = some v → ∃ ad, A = some ad ∧ (w.setCell ⟨lx, 0, none⟩ (.int .i64 (L' : Int))).cell? (ad.add j) = some v from fun j v hv => by
    obtain ⟨ad, e, h1, h2⟩ := HSRC.out j v hv
    exact ⟨ad, e, F1.cell h2 (fun e => h1 (by rw [← e]; unfold Addr.add; split <;> rfl))⟩)
  clear hW1 F1 hl0 hb0 lf HSRC
  generalize w.setCell ⟨lx, 0, none⟩ (.int .i64 (L' : Int)) = w1 at *
  have l0 : w1.cell? ⟨lx, 0, none⟩ = some (.int .i64 (L' : Int)) := HL1.out.cell 0
  have b0 : w1.cell? ⟨bx, 0, none⟩ = some (.slice (some ⟨bb, 0, none⟩) S S) := HB1.out.cell 0
  have hsl := slice_off w1 (some ⟨bb, 0, none⟩) S S L' (by have := HSN.out; omega) (Nat.le_refl _)
  go_wp2_with (with_reducible refine copy_fr11 (o := ⟨some 12, _, _, _, _, _⟩) rfl (.tmp 10) (.tmp 11) 22 22 rfl 5 Tryd.underlying22 size_u8_11 (cutAt (some ⟨bb, 0, none⟩) S L') A (S - L') (S - L') n c rfl rfl bb L' (cellsOf (List.replicate (L' + xs.length) 0 ++ zs)) 5 ?hg (cellsOf xs) ?hn ?hpos ?hfit ?h1 ?K)
  case hg => exact HR1.out
  case hn => rw [cellsOf_length, HN.out]; exact (Nat.min_eq_left (by have := HSN.out; omega)).symm
  case hpos =>
    intro h0
    rw [cellsOf_length] at h0
    refine ⟨?_, ?_⟩
    · unfold cutAt
      rw [if_neg (by have := HSN.out; have := HN.out; omega)]
      simp [Addr.add]
      omega
    · obtain ⟨ad, e, _⟩ := HS1.out 0 _ (cellsOf_at xs 0 h0)
      refine ⟨ad, e, fun j v hv => ?_⟩
      obtain ⟨ad', e', h2⟩ := HS1.out j v hv
      rw [e] at e'; cases e'
      exact h2
  case hfit => rw [cellsOf_length, cellsOf_length, List.length_append, List.length_replicate]; omega
  case h1 => exact cellsOf_one xs
  case K =>
    intro w2 hw2 hf2
    have HW2 := Lib.hid (And.intro hw2.out hf2.out)
    clear hw2 hf2 l0 b0 hsl
    go_wp2_with fail
    go_end0
    have hr := HW2.out.1
    rw [splice_lay] at hr
    have hne := HNE.out
    refine ⟨⟨_, rfl⟩, ⟨HB1.out.fr HW2.out.2 hne.1.1, HL1.out.fr HW2.out.2 hne.1.2.1, (HI.out.p.fr HF1.out hne.2.2.1).fr HW2.out.2 hne.1.2.2.1, (HI.out.t.fr HF1.out hne.2.2.2).fr HW2.out.2 hne.1.2.2.2, hr, ?_, HI.out.s, HI.out.z⟩, ?_⟩
    · have := HSN.out; have := HN.out; simp; omega
    · exact (HF1.out.mono (fun i _ e => .inr e)).trans (HW2.out.2.mono (fun i _ e => .inl e)) (fun _ _ e => e)
end Go.Proofs.YtnjnghbonmdbdaaDoor


/- Layer 11: things gone through from the last one back: the function that is ranged over; the loop over it. -/
namespace Go.Proofs.YtnjnghbonmdbdaaDoor
open Go.RowKit Nd Go.Shelf
attribute [local go_sem] Oper.semAt_some

/-- What yield is told. -/
def yArgs (i : Nat) (p : Nd) : Array Value := #[.int .i64 (i : Int), .agg #[.int .i64 p.k, .int .i64 p.t, .bool p.m, .slice p.B p.bs.length p.d, .slice p.A p.ls.length p.c]]

set_option maxRecDepth 100000 in
set_option maxHeartbeats 2000000 in
theorem back_in (n l Bx : Nat) (A : Option Addr) (c : Nat) (ls : List Nd) (hlen : ls.length ≤ 1954687338268) (J : Nat → World → Prop)
    (hrd : ∀ j W, J j W → W.cell? ⟨Bx, 0, none⟩ = some (.slice A ls.length c) ∧ Lie W A ls)
    (hY : ∀ j i p W, J j W → ls[i]? = some p → i + j + 1 = ls.length → YieldAt Fence.wide (n - 1) Tryd.prog l (yArgs i p) W fun e W' => e = .returned (.bool true) ∧ J (j + 1) W')
    (W : World) (h0 : J 0 W) :
    CallsIn Fence.wide n Tryd.prog 53 #[.func (.yield l) #[] #[], .pointer (some ⟨Bx, 0, none⟩)] W fun e W' => (∃ v, e = .returned v) ∧ J ls.length W' := by
  have b0 := (hrd 0 W h0).1
  have HRD := Lib.hid hrd
  have HY := Lib.hid hY
  have H0 := Lib.hid h0
  obtain ⟨N, hN⟩ : ∃ N, ls.length = N := ⟨_, rfl⟩
  have HN := Lib.hid hN
  rw [hN] at b0 hlen ⊢
  have hNI : (N : Int) ≤ 1954687338268 := by omega
  clear hrd hY h0 hN
  refine callsIn_of_wp Tryd.func53 rfl trivial ?_ rfl
  simp only [Tryd.ntmps53, List.size_toArray, List.length_cons, List.length_nil, Nat.reduceAdd, Nat.reduceSub, Array.replicate_succ, Array.replicate_zero, List.push_toArray, List.append_toArray, List.nil_append, List.cons_append]
  gi_wp2_with fail
  gi_loopw [3] (fun a3 wr => ∃ j : Nat, j ≤ N ∧ a3 = .int .i64 ((N : Int) - 1 - (j : Int)) ∧ Hid (J j wr)) (fun a3 _ => (intOf a3 + 1).toNat)
  case atStart => exact ⟨0, Nat.zero_le _, by simp, H0⟩
  case round =>
    obtain ⟨j, hj, rfl, HJ⟩ := hrel
    clear H0 b0
    by_cases hlt : j < N
    · obtain ⟨i, hi⟩ : ∃ i : Nat, i + j + 1 = N := ⟨N - 1 - j, by omega⟩
      have hiI : (N : Int) - 1 - (j : Int) = (i : Int) := by omega
      rw [hiI]
      have hiN : i < ls.length := by rw [HN.out]; omega
      obtain ⟨b', o', p, hA, hp, hpm, k0, k1, k2, k3, k4⟩ := ((HRD.out j wr HJ.out).2).at hiN
      have b0 := (HRD.out j wr HJ.out).1
      rw [HN.out, hA] at b0
      obtain ⟨fn, tmps, assign, body, hy, hR⟩ := HY.out j i p wr HJ.out hp (by rw [HN.out]; exact hi)
      unfold yArgs at hy
      have hiI2 : (i : Int) ≤ 1954687338268 := by omega
      have hiN2 : (i : Int) < (N : Int) := by omega
      have HR := Lib.hid hR
      have HIJ := Lib.hid hi
      clear hR hA hp hpm hi hlt hj hiI hiN
      gi_wp2
      refine ⟨(fun h => by cases h), HR.out.mono ?_⟩
      rintro e W3 ⟨rfl, hJ3⟩
      have HJ3 := Lib.hid hJ3
      clear hJ3 b0 k0 k1 k2 k3 k4 hy HR
      gi_wp2
      go_roundw
      case rel => exact ⟨j + 1, by have := HIJ.out; omega, by have := HIJ.out; first | (congr 2; omega) | (simp; omega), HJ3⟩
      case measure => simp [intOf]
    · obtain rfl : j = N := by omega
      have hneg : ¬ (0 : Int) ≤ (j : Int) - 1 - (j : Int) := by omega
      clear hlt hj
      gi_wp2
      go_end0
      exact ⟨⟨_, rfl⟩, HJ.out⟩

/-- A loop over things from the last one back, whose body is left at its end alone. -/
theorem wpIn_back {g : Operand} {ps : Array Tmp} {assign body : Code} {Q : Exit → Act → World → Prop} {a : Act} {w : World} {n : Nat} {Bx : Nat} {A : Option Addr} {c : Nat} {ls : List Nd} (hlen : ls.length ≤ 1954687338268)
    (hg : a.eval g = .func (.func 53) #[] #[.pointer (some ⟨Bx, 0, none⟩)]) (hps : ps.size = 2)
    (eg : ∀ args w, (callFunc 53 args).run Tryd.prog w = .ok (.enter 53 args) w)
    (I : Nat → World → Prop) (hput : ∀ j W l o o', I j W → w.heap.size ≤ l → W.heap[l]? = some o → o.isCells = false → I j (W.putObj l o')) (hnew : ∀ j W o, I j W → I j (W.alloc o)) (h0 : I 0 w)
    (hrd : ∀ j W, I j W → W.cell? ⟨Bx, 0, none⟩ = some (.slice A ls.length c) ∧ Lie W A ls)
    (Ax : Nd → Act → World → Prop) (hAx : ∀ p a' W l o o', Ax p a' W → W.heap[l]? = some o → o.isCells = false → Ax p a' (W.putObj l o'))
    (hassign : ∀ (l j i : Nat) (p : Nd) (W : World) (K : Act → World → Prop), I j W → (∀ a' W', KeepsOthers W W' → I j W' → Ax p a' W' → K a' W') → assign.wpIn (Fence.wide.inRound l) (n - 1 - 1) Tryd.prog (Exit.then K (fun _ _ _ => False)) { tmps := (ps.zip (yArgs i p)).foldl (fun t (q, v) => t.setIfInBounds q v) a.tmps, defers := [] } W)
    (hbody : ∀ (l j i : Nat) (p : Nd) (a' : Act) (W : World), I j W → Ax p a' W → ls[i]? = some p → i + j + 1 = ls.length → body.wpIn (Fence.wide.inRound l) (n - 1 - 1) Tryd.prog (fun e _ W' => e = .normal ∧ KeepsOthers W W' ∧ I (j + 1) W') a' W)
    (hdone : ∀ (D : Nat) (W : World), w.heap.size ≤ D → I ls.length W → W.heap[D]? = some (.deferred (some [])) → Q .normal { a with defers := { target := .collected D, args := #[] } :: a.defers } W) :
    (Code.rangeFunc g ps assign body).wpIn Fence.wide n Tryd.prog Q a w := by
  refine wpIn_rangeFunc ?_
  intro fn hfn
  let R : LoopState → Loop := fun st => { state := st, pending := none, fn := fn, tmps := a.tmps, params := ps, assign := assign, body := body, defers := w.heap.size }
  let W1 : World := (w.alloc (.deferred (some []))).alloc (.loop (R .ready))
  -- the loop's record, and the block for the rounds' deferred calls
  let Bk : World → LoopState → Prop := fun W st => W.heap[w.heap.size + 1]? = some (.loop (R st)) ∧ W.heap[w.heap.size]? = some (.deferred (some []))
  have hB1 : Bk W1 .ready := by
    refine ⟨?_, ?_⟩
    · have := World.alloc_heap_new (w.alloc (.deferred (some []))) (.loop (R .ready))
      rwa [World.size_alloc] at this
    · exact (Below.heap_alloc _ _ _ (by simp)).trans (World.alloc_heap_new w _)
  have turn : ∀ {W : World} {st : LoopState} (st' : LoopState), Bk W st → Bk (W.putObj (w.heap.size + 1) (.loop (R st'))) st' := fun st' h =>
    ⟨World.putObj_heap_same (Array.getElem?_eq_some_iff.1 h.1).1, (World.putObj_heap_other (by omega)).trans h.2⟩
  refine ⟨w.heap.size + 1, [{ target := .collected w.heap.size, args := #[] }], W1, { target := .fn (.func 53) #[.pointer (some ⟨Bx, 0, none⟩)], args := #[.func (.yield (w.heap.size + 1)) #[] #[]] }, W1, 53,
    #[.func (.yield (w.heap.size + 1)) #[] #[], .pointer (some ⟨Bx, 0, none⟩)], W1, run_enterLoop_outer _ _ _ _ _, ?_, fun _ _ => trivial, ?_, (fun h => by cases h), ?_⟩
  · simp only [resolve, hg]
    simp [go_sem]
  · simp [invoke, go_sem, eg]
  refine (back_in (n - 1) (w.heap.size + 1) Bx A c ls hlen (fun j W => I j W ∧ Bk W .ready) (fun j W h => hrd j W h.1) ?_ W1 ⟨hnew _ _ _ (hnew _ _ _ h0), hB1⟩).mono ?_
  · rintro j i p W ⟨hi, hb⟩ hp hj
    refine ⟨fn, _, assign, body, run_yield hb.1 (by rw [hps]; rfl), roundIn_of_wpIn hfn (hassign _ j i p W _ hi (fun a' W' hk hi' hax => ⟨_, run_beginRound (hk.same _ _ hb.1 rfl) rfl, ?_⟩))⟩
    have hb' : Bk W' .ready := ⟨hk.same _ _ hb.1 rfl, hk.same _ _ hb.2 rfl⟩
    have hb2 := turn .busy hb'
    refine wpIn_mono (hbody _ j i p a' _ (hput _ _ _ _ _ hi' (by omega) hb'.1 rfl) (hAx _ _ _ _ _ _ hax hb'.1 rfl) hp hj) ?_
    rintro e a3 W3 ⟨rfl, hk, hi3⟩
    have hb3 : Bk W3 .busy := ⟨hk.same _ _ hb2.1 rfl, hk.same _ _ hb2.2 rfl⟩
    exact ⟨_, _, run_endRound none hb3.1, rfl, hput _ _ _ _ _ hi3 (by omega) hb3.1 rfl, turn .ready hb3⟩
  · rintro e W2 ⟨⟨v, rfl⟩, hi, hb⟩
    exact ⟨none, _, run_endLoop hb.1 (by simp [R]), hdone w.heap.size _ (Nat.le_refl _) (hput _ _ _ _ _ hi (by omega) hb.1 rfl) (turn .exhausted hb).2⟩
end Go.Proofs.YtnjnghbonmdbdaaDoor


/- Layer 11: a thing laid, by the closure that is called by itself. -/
namespace Go.Proofs.YtnjnghbonmdbdaaDoor
open Go.RowKit Nd Go.Shelf
attribute [local go_sem] Oper.semAt_some

/-- What the closure answers. -/
def LaC (f : Nd) : Prop := ∀ (w : World) (bb bx lx px tx S L : Nat) (zs : List UInt8), Tb w → f.In w → f.Off (LyF bb lx) → f.wn.2 = 0 → f.cnt ≤ 1000000 → f.wn.1.length ≤ L → LyI w bb bx lx px tx S L zs →
  Calls Tryd.prog 40 #[.agg #[.int .i64 f.k, .int .i64 f.t, .bool f.m, .slice f.B f.bs.length f.d, .slice f.A f.ls.length f.c], .pointer (some ⟨lx, 0, none⟩), .pointer (some ⟨px, 0, none⟩), .pointer (some ⟨tx, 0, none⟩)] w fun e w' => (∃ v, e = .returned v) ∧ LyI w' bb bx lx px tx S (L - f.wn.1.length) (f.wn.1 ++ zs) ∧ Fr w w' (LyF bb lx)
theorem wns_drop {ls : List Nd} (h : (wns ls).2 = 0) (i : Nat) : (wns (ls.drop i)).2 = 0 ∧ (wns (ls.drop i)).1.length ≤ (wns ls).1.length := by
  induction ls generalizing i with
  | nil => simp; exact h
  | cons p ps ih =>
    obtain ⟨_, h2, h3⟩ := wns_cons h
    cases i with
    | zero => exact ⟨h, Nat.le_refl _⟩
    | succ i =>
      have := ih h2 i
      rw [List.drop_succ_cons, h3]
      refine ⟨this.1, ?_⟩
      simp only [List.length_append]
      omega
theorem LyI.put {W : World} {bb bx lx px tx S L : Nat} {zs : List UInt8} (h : LyI W bb bx lx px tx S L zs) {l : Nat} {o : Obj} (o' : Obj) (hl : W.heap[l]? = some o) (ho : o.isCells = false) : LyI (W.putObj l o') bb bx lx px tx S L zs := by
  have key : ∀ {p : Nat} {cs : Array Value} {t : TypeId}, Whole W p cs t → Whole (W.putObj l o') p cs t := fun {p cs t} hW => by
    have hne : p ≠ l := by
      rintro rfl
      have h2 : W.heap[p]? = some (.cells cs t (0, 0)) := hW
      rw [hl] at h2; cases h2; cases ho
    exact (World.putObj_heap_other hne).trans hW
  exact ⟨key h.b, key h.l, key h.p, key h.t, key h.r, h.n, h.s, h.z⟩
theorem whole_put {W : World} {p : Nat} {cs : Array Value} {t : TypeId} (hW : Whole W p cs t) {l : Nat} {o : Obj} (o' : Obj) (hl : W.heap[l]? = some o) (ho : o.isCells = false) : Whole (W.putObj l o') p cs t := by
  have hne : p ≠ l := by
    rintro rfl
    have h2 : W.heap[p]? = some (.cells cs t (0, 0)) := hW
    rw [hl] at h2; cases h2; cases ho
  exact (World.putObj_heap_other hne).trans hW
theorem fr_put {w W : World} {F : Nat → Prop} (h : Fr w W F) (l : Nat) (o' : Obj) (hl : w.heap.size ≤ l) : Fr w (W.putObj l o') F :=
  ⟨h.os, h.tape, h.output, by have := h.size; simp; omega, fun i hi hF => by rw [World.putObj_heap_other (by omega)]; exact h.block i hi hF⟩

theorem tb_ly {w W : World} {bb lx : Nat} (h : Tb w) (g : Fr w W (LyF bb lx)) (z : 0 < bb ∧ 0 < lx) : Tb W := by
  obtain ⟨t, hW⟩ := h
  exact ⟨t, hW.fr g (by rintro (e | e) <;> omega)⟩
theorem enter_back : ∀ args w, (callFunc 53 args).run Tryd.prog w = .ok (.enter 53 args) w := fun _ _ => by kernel_rfl
theorem backward_any (w : World) (A : Option Addr) (n c : Nat) : Calls Tryd.prog 41 #[.slice A n c] w fun e w' => e = .returned (.func (.func 53) #[] #[.pointer (some ⟨w.heap.size, 0, none⟩)]) ∧ w' = w.alloc (.cells #[.slice A n c] 25) := by
  go_enter Tryd.func41, Tryd.ntmps41
  go_wp2_with fail
  go_ret
  exact ⟨rfl, rfl⟩

/-- Memory while the things in a thing are laid, so many of them. -/
def LaI (w : World) (f : Nd) (P Bx bb bx lx px tx S L : Nat) (zs : List UInt8) (j : Nat) (W : World) : Prop :=
  LyI W bb bx lx px tx S (L - (wns (f.ls.drop (f.ls.length - j))).1.length) ((wns (f.ls.drop (f.ls.length - j))).1 ++ zs) ∧ Fr w W (LyF bb lx) ∧ Whole W P f.cells 27 ∧ Whole W Bx #[.slice f.A f.ls.length f.c] 25

set_option maxRecDepth 100000 in
set_option maxHeartbeats 2000000 in
theorem la_step (f : Nd) (ih : ∀ p ∈ f.ls, LaC p) : LaC f := by
  intro w bb bx lx px tx S L zs hT hf ho hw hc hl hI
  obtain ⟨hk, hm1, hm2, hwl, hlen, hwn⟩ : kd f.k f.t f.m = true ∧ (f.m = true → f.bs = []) ∧ (f.m = false → f.ls = []) ∧ (wns f.ls).2 = 0 ∧ (f.bs ++ (wns f.ls).1).length ≤ 16777215 ∧ f.wn = (putH ⟨f.k, f.t, f.m, ((f.bs ++ (wns f.ls).1).length : Int)⟩ ++ (f.bs ++ (wns f.ls).1), 0) := by
    obtain ⟨k, t, m, B, d, bs, A, c, ls⟩ := f
    obtain ⟨a, b, c, _, e, g, h⟩ := wn_ok hw
    exact ⟨a, b, c, e, g, h⟩
  have hcomm : f.bs ++ (wns f.ls).1 = (wns f.ls).1 ++ f.bs := by
    cases hm : f.m with
    | true => rw [hm1 hm]; simp
    | false => rw [hm2 hm, wns.eq_1]; simp
  rw [hcomm] at hlen hwn
  obtain ⟨N, hN⟩ : ∃ N, ((wns f.ls).1 ++ f.bs).length = N := ⟨_, rfl⟩
  rw [hN] at hlen hwn
  have hNN : (wns f.ls).1.length + f.bs.length = N := by rw [← hN, List.length_append]
  rw [hwn] at hl ⊢
  have hl2 : (putH ⟨f.k, f.t, f.m, (N : Int)⟩).length + N ≤ L := by have h := hl; dsimp only at h; rw [List.length_append, hN] at h; exact h
  have HT := Lib.hid hT
  have HF := Lib.hid hf
  have HO := Lib.hid ho
  have HC := Lib.hid hc
  have HI := Lib.hid hI
  have HIH := Lib.hid ih
  have HKD := Lib.hid hk
  have HWL := Lib.hid hwl
  have HNN := Lib.hid (And.intro hNN hl2)
  have hllen : f.ls.length ≤ 1954687338268 := hf.list.2.2
  have hLI : (L : Int) ≤ 100000000 := by have := hI.s; have := hI.n; omega
  have hNI : (N : Int) ≤ 16777215 := by omega
  obtain ⟨P, hP⟩ : ∃ P, w.heap.size = P := ⟨_, rfl⟩
  obtain ⟨w1, hw1⟩ : ∃ w1, w.alloc (.cells #[.int .i64 f.k, .int .i64 f.t, .bool f.m, .slice f.B f.bs.length f.d, .slice f.A f.ls.length f.c] 27) = w1 := ⟨_, rfl⟩
  have HG1 := Lib.hid (show Grew w w1 none by rw [← hw1]; exact grew_alloc (grew_refl _ none) _)
  have H1 := Lib.hid (show Whole w1 P f.cells 27 by rw [← hw1, ← hP]; exact Whole.new _ _ _)
  have HP := Lib.hid hP
  have hI1 := hI.grew HG1.out
  have HPT := Lib.hid (put_any w1 hI1 f.B f.d f.bs ((hf.bytes.1.grew HG1.out (fun _ e => by cases e)).more HG1.out.size) (by omega))
  have y3 : w1.cell? ⟨P, 3, none⟩ = some (.slice f.B f.bs.length f.d) := H1.out.cell 3
  have l0 : w1.cell? ⟨lx, 0, none⟩ = some (.int .i64 (L : Int)) := hI1.l.cell 0
  have p0 : w1.cell? ⟨px, 0, none⟩ = some (.func (.func 39) #[] #[.pointer (some ⟨lx, 0, none⟩), .pointer (some ⟨bx, 0, none⟩)]) := hI1.p.cell 0
  clear hT hf ho hw hc hl hI hI1 ih hk hm1 hm2 hwl hlen hwn hcomm hN hNN hl2
  refine (callsIn_wide (n := 9)).1 ?_
  refine callsIn_of_wp_marks Tryd.func40 rfl trivial ?_ rfl
  simp only [Tryd.ntmps40, List.size_toArray, List.length_cons, List.length_nil, Nat.reduceAdd, Nat.reduceSub, Array.replicate_succ, Array.replicate_zero, List.push_toArray, List.append_toArray, List.nil_append, List.cons_append]
  refine wpIn_wide.2 ?_
  go_wp2_with fail
  refine HPT.out.mono ?_
  rintro e w2 ⟨⟨vv, rfl⟩, hI2, hF2⟩
  have HI2 := Lib.hid (And.intro hI2 (show Fr w w2 (LyF bb lx) from (Fr.of_grew' HG1.out (F := LyF bb lx) (fun _ e => by cases e)).trans hF2 (fun _ _ e => e)))
  have H2 := Lib.hid (H1.out.fr hF2 (by rintro (e | e) <;> (have h1 := HI.out.r.lt; have h2 := HI.out.l.lt; have := HP.out; omega)))
  clear hI2 hF2 HPT y3 l0 p0 H1 hw1 HG1
  have y4 : w2.cell? ⟨P, 4, none⟩ = some (.slice f.A f.ls.length f.c) := H2.out.cell 4
  go_wp2_with fail
  refine (backward_any _ f.A f.ls.length f.c).mono ?_
  rintro e w3 ⟨rfl, hw3⟩
  obtain ⟨Bx, hBx⟩ : ∃ Bx, w2.heap.size = Bx := ⟨_, rfl⟩
  rw [hBx]
  have HI3 := Lib.hid (show LyI w3 bb bx lx px tx S (L - f.bs.length) (f.bs ++ zs) ∧ Fr w w3 (LyF bb lx) ∧ Whole w3 P f.cells 27 ∧ Whole w3 Bx #[.slice f.A f.ls.length f.c] 25 by
    have g : Grew w2 w3 none := by rw [hw3]; exact grew_alloc (grew_refl _ none) _
    exact ⟨HI2.out.1.grew g, fr_then HI2.out.2 g, H2.out.grew g (by simp), by rw [hw3, ← hBx]; exact Whole.new _ _ _⟩)
  clear y4 hw3 hBx HI2 H2
  go_wp2_with fail
  clear hP
  have HWS := Lib.hid (show ∀ W, Fr w W (LyF bb lx) → Lie W f.A f.ls from fun W g => (HF.out.fr2 g HO.out).list.1)
  refine (wpIn_wide (n := 9)).1 ?_
  refine wpIn_back (Bx := Bx) (A := f.A) (c := f.c) (ls := f.ls) hllen rfl rfl enter_back (LaI w f P Bx bb bx lx px tx S (L - f.bs.length) (f.bs ++ zs))
    ?hput ?hnew ?h0 ?hrd (fun p a' W => ∃ (q : Nat) (u18 u19 : Value), a' = { tmps := #[.agg #[.int .i64 f.k, .int .i64 f.t, .bool f.m, .slice f.B f.bs.length f.d, .slice f.A f.ls.length f.c], .pointer (some ⟨lx, 0, none⟩), .pointer (some ⟨px, 0, none⟩), .pointer (some ⟨tx, 0, none⟩), .pointer (some ⟨P, 0, none⟩), .int .i64 (L : Int), undef, .pointer (some ⟨q, 0, none⟩), undef, undef, .int .i64 (L : Int), .func (.func 39) #[] #[.pointer (some ⟨lx, 0, none⟩), .pointer (some ⟨bx, 0, none⟩)], .pointer (some ⟨P, 3, none⟩), .slice f.B f.bs.length f.d, vv, .pointer (some ⟨P, 4, none⟩), .slice f.A f.ls.length f.c, .func (.func 53) #[] #[.pointer (some ⟨Bx, 0, none⟩)], u18, u19, undef, undef, undef, undef, undef, undef, undef, undef, undef, undef, undef, undef, undef, undef, undef], defers := [] } ∧ Whole W q p.cells 27) ?hAx ?hassign ?hbody ?hdone
  case hput =>
    rintro j W l o o' ⟨h1, h2, h3, h4⟩ hl ho ho'
    exact ⟨h1.put o' ho ho', fr_put h2 l o' (Nat.le_trans HI3.out.2.1.size hl), whole_put h3 o' ho ho', whole_put h4 o' ho ho'⟩
  case hnew =>
    rintro j W o ⟨h1, h2, h3, h4⟩
    have g := grew_alloc (grew_refl W none) o
    exact ⟨h1.grew g, fr_then h2 g, h3.grew g (by simp), h4.grew g (by simp)⟩
  case h0 =>
    refine ⟨?_, HI3.out.2⟩
    rw [Nat.sub_zero, List.drop_length, show wns [] = ([], 0) from wns.eq_1]
    exact HI3.out.1
  case hrd =>
    rintro j W ⟨h1, h2, h3, h4⟩
    exact ⟨h4.cell 0, HWS.out W h2⟩
  case hAx =>
    rintro p a' W l o o' ⟨q, u18, u19, h1, h2⟩ ho ho'
    exact ⟨q, u18, u19, h1, whole_put h2 o' ho ho'⟩
  case hassign =>
    rintro l j i p W K ⟨h1, h2, h3, h4⟩ hK
    have g := grew_alloc (grew_refl W none) (.cells p.cells 27)
    have HK := Lib.hid (fun u18 u19 => hK _ _ (KeepsOthers.alloc W (.cells p.cells 27)) ⟨h1.grew g, fr_then h2 g, h3.grew g (by simp), h4.grew g (by simp)⟩ ⟨W.heap.size, u18, u19, rfl, Whole.new W p.cells 27⟩)
    clear hK h1 h2 h3 h4 g
    simp only [yArgs]
    gi_wp2
    exact HK.out _ _
  case hbody =>
    rintro l j i p a' W ⟨h1, h2, h3, h4⟩ ⟨q, u18, u19, rfl, hq⟩ hp hij
    have hji : f.ls.length - j = i + 1 := by omega
    rw [hji] at h1
    have hpm := List.mem_of_getElem? hp
    obtain ⟨hd1, hd2⟩ := wns_drop HWL.out i
    rw [Nd.drop_at hp] at hd1 hd2
    obtain ⟨hw1, hw2, hw3⟩ := wns_cons hd1
    rw [hw3] at hd2
    simp only [List.length_append] at hd2
    have hpo : p.Off (LyF bb lx) := by
      have := HO.out
      obtain ⟨k, t, m, B, d, bs, A, c, ls⟩ := f
      cases this with
      | mk _ _ h => exact h p hpm
    have hc := HIH.out p hpm W bb bx lx px tx S _ _ (tb_ly HT.out h2 HI.out.z) ((HF.out.parts p hpm).fr2 h2 hpo) hpo hw1 (Nat.le_trans (cnt_le_cnts hpm) (Nat.le_trans (cnts_le_cnt f) HC.out)) (by have := HNN.out; omega) h1
    have hcc := callsIn_wide (n := 9 - 1 - 1 - 1) |>.2 hc
    have HCC := Lib.hid hcc
    have HH := Lib.hid (And.intro h2 (And.intro h3 h4))
    have HL1 := Lib.hid h1
    have t0 : W.cell? ⟨tx, 0, none⟩ = some (.func (.func 40) #[] #[.pointer (some ⟨lx, 0, none⟩), .pointer (some ⟨px, 0, none⟩), .pointer (some ⟨tx, 0, none⟩)]) := h1.t.cell 0
    have y0 : W.cell? ⟨q, 0, none⟩ = some (.int .i64 p.k) := hq.cell 0
    have y1 : W.cell? ⟨q, 1, none⟩ = some (.int .i64 p.t) := hq.cell 1
    have y2 : W.cell? ⟨q, 2, none⟩ = some (.bool p.m) := hq.cell 2
    have y3 : W.cell? ⟨q, 3, none⟩ = some (.slice p.B p.bs.length p.d) := hq.cell 3
    have y4 : W.cell? ⟨q, 4, none⟩ = some (.slice p.A p.ls.length p.c) := hq.cell 4
    clear hc hcc h1 h2 h3 h4 hq hpo
    gi_wp2_with fail
    refine ⟨trivial, (CallsIn.inRound l HCC.out).mono ?_⟩
    rintro e W3 ⟨⟨v3, rfl⟩, hI3, hF3⟩
    have HI4 := Lib.hid (And.intro hI3 hF3)
    clear hI3 hF3 HCC t0 y0 y1 y2 y3 y4
    gi_wp2_with fail
    obtain ⟨hI3, hF3⟩ := HI4.out
    have hnP : ∀ {x : Nat} {cs : Array Value} {t : TypeId}, Whole W x cs t → t ≠ 5 → t ≠ 3 → ¬ LyF bb lx x := fun hx h5 h6 e => e.elim (hx.ne HL1.out.r h5) (hx.ne HL1.out.l h6)
    refine ⟨⟨hF3.size, fun k o hk ho => ?_⟩, ?_, HH.out.1.trans hF3 (fun _ _ e => e), HH.out.2.1.fr hF3 (hnP HH.out.2.1 (by decide) (by decide)), HH.out.2.2.fr hF3 (hnP HH.out.2.2 (by decide) (by decide))⟩
    · have hk1 := (Array.getElem?_eq_some_iff.1 hk).1
      rw [hF3.block k hk1 ?_]
      · exact hk
      · rintro (e | e)
        · have h2 : W.heap[bb]? = some _ := HL1.out.r
          rw [e, h2] at hk; cases hk; cases ho
        · have h2 : W.heap[lx]? = some _ := HL1.out.l
          rw [e, h2] at hk; cases hk; cases ho
    · rw [show f.ls.length - (j + 1) = i by omega, Nd.drop_at hp, hw3]
      dsimp only
      rw [List.length_append, List.append_assoc]
      have e : L - f.bs.length - (p.wn.1.length + (wns (f.ls.drop (i + 1))).1.length) = L - f.bs.length - (wns (f.ls.drop (i + 1))).1.length - p.wn.1.length := by omega
      rw [e]
      exact hI3
  case hdone =>
    rintro D W hD ⟨h1, h2, h3, h4⟩ hDW
    rw [Nat.sub_self, List.drop_zero] at h1
    have hL5 : L - f.bs.length - (wns f.ls).1.length = L - N := by have := HNN.out; omega
    rw [hL5, ← List.append_assoc] at h1
    have HH := Lib.hid (show LyI W bb bx lx px tx S (L - N) (((wns f.ls).1 ++ f.bs) ++ zs) ∧ Fr w W (LyF bb lx) ∧ W.heap[D]? = some (.deferred (some [])) ∧ w.heap.size ≤ D from ⟨h1, h2, hDW, Nat.le_trans HI3.out.2.1.size hD⟩)
    have hLN : (L : Int) - ((L - N : Nat) : Int) = (N : Int) := by have := HNN.out; omega
    obtain ⟨L5, hL6⟩ : ∃ L5, L - N = L5 := ⟨_, rfl⟩
    rw [hL6] at hLN HH
    have HL6 := Lib.hid hL6
    have hL5I : (L5 : Int) ≤ 100000000 := by omega
    have HHD := Lib.hid (head_any W f (N : Int))
    have l0 : W.cell? ⟨lx, 0, none⟩ = some (.int .i64 (L5 : Int)) := HH.out.1.l.cell 0
    have y0 : W.cell? ⟨P, 0, none⟩ = some (.int .i64 f.k) := h3.cell 0
    have y1 : W.cell? ⟨P, 1, none⟩ = some (.int .i64 f.t) := h3.cell 1
    have y2 : W.cell? ⟨P, 2, none⟩ = some (.bool f.m) := h3.cell 2
    have y3 : W.cell? ⟨P, 3, none⟩ = some (.slice f.B f.bs.length f.d) := h3.cell 3
    have y4 : W.cell? ⟨P, 4, none⟩ = some (.slice f.A f.ls.length f.c) := h3.cell 4
    clear h1 h2 h3 h4 hDW hL5 hL6 hD
    go_wp2_with fail
    refine HHD.out.mono ?_
    rintro e W4 ⟨rfl, g4⟩
    have HH4 := Lib.hid (show LyI W4 bb bx lx px tx S L5 (((wns f.ls).1 ++ f.bs) ++ zs) ∧ Fr w W4 (LyF bb lx) ∧ W4.heap[D]? = some (.deferred (some [])) ∧ w.heap.size ≤ D from ⟨HH.out.1.grew g4, fr_then HH.out.2.1 g4, by rw [g4.block D (Array.getElem?_eq_some_iff.1 HH.out.2.2.1).1 (by simp)]; exact HH.out.2.2.1, HH.out.2.2.2⟩)
    have HPY := Lib.hid (put_yes W4 (tb_ly HT.out HH4.out.2.1 HI.out.z) ⟨f.k, f.t, f.m, (N : Int)⟩ HKD.out)
    clear g4 HHD HH y0 y1 y2 y3 y4 l0
    go_wp2_with fail
    refine HPY.out.mono ?_
    rintro e W5 ⟨h5 | ⟨_, ⟨v5, rfl, own5, _⟩⟩, b5⟩
    · exact absurd ⟨by omega, by omega⟩ h5.1
    have g5 := grew_of_below b5
    obtain ⟨-, A5, c5, rfl, -⟩ := own8_form own5
    have hb5 := (own_by own5).byt
    have HH5 := Lib.hid (show LyI W5 bb bx lx px tx S L5 (((wns f.ls).1 ++ f.bs) ++ zs) ∧ Fr w W5 (LyF bb lx) ∧ W5.heap[D]? = some (.deferred (some [])) ∧ w.heap.size ≤ D from ⟨HH4.out.1.grew g5, fr_then HH4.out.2.1 g5, by rw [g5.block D (Array.getElem?_eq_some_iff.1 HH4.out.2.2.1).1 (by simp)]; exact HH4.out.2.2.1, HH4.out.2.2.2⟩)
    have HPP := Lib.hid (put_any W5 HH5.out.1 A5 c5 _ hb5 (by have := HNN.out; have := HL6.out; omega))
    have hp5 := putH_le5 ⟨f.k, f.t, f.m, (N : Int)⟩
    have HPL := Lib.hid hp5
    have p0 : W5.cell? ⟨px, 0, none⟩ = some (.func (.func 39) #[] #[.pointer (some ⟨lx, 0, none⟩), .pointer (some ⟨bx, 0, none⟩)]) := HH5.out.1.p.cell 0
    clear b5 g5 own5 hb5 HPY HH4 hp5
    go_wp2_with fail
    refine HPP.out.mono ?_
    rintro e W6 ⟨⟨v6, rfl⟩, hI6, hF6⟩
    have HH6 := Lib.hid (And.intro hI6 hF6)
    clear HPP p0 hI6 hF6
    go_wp2_with fail
    obtain ⟨hI6, hF6⟩ := HH6.out
    have hD6 : W6.heap[D]? = some (.deferred (some [])) := by
      have hk := HH5.out.2.2.1
      rw [hF6.block D (Array.getElem?_eq_some_iff.1 hk).1 ?_]
      · exact hk
      · rintro (e | e)
        · have h2 : W5.heap[bb]? = some _ := HH5.out.1.r
          rw [e, h2] at hk; cases hk
        · have h2 : W5.heap[lx]? = some _ := HH5.out.1.l
          rw [e, h2] at hk; cases hk
    refine ⟨by simp, .inl ⟨_, _, rfl, run_takeDeferred hD6, ?_⟩⟩
    have e1 : L - (putH ⟨f.k, f.t, f.m, (N : Int)⟩ ++ ((wns f.ls).1 ++ f.bs)).length = L5 - (putH ⟨f.k, f.t, f.m, (N : Int)⟩).length := by
      have := HNN.out; have := HL6.out; simp only [List.length_append]; omega
    refine ⟨.tuple #[], ?_, ⟨_, rfl⟩, ?_, fr_put (HH5.out.2.1.trans hF6 (fun _ _ e => e)) D _ HH5.out.2.2.2⟩
    · simp [results, Tryd.f40, go_sem]
    · rw [e1, List.append_assoc]
      exact hI6.put _ hD6 rfl
theorem la_any : ∀ f : Nd, LaC f := Nd.ind fun k t m B d bs A c ls ih => la_step (.mk k t m B d bs A c ls) ih
end Go.Proofs.YtnjnghbonmdbdaaDoor


/- Layer 11: Write. -/
namespace Go.Proofs.YtnjnghbonmdbdaaDoor
open Go.RowKit Nd

theorem make11 (S : Nat) (hS : S ≤ 100000000) (W : World) : (Instr.makeSlice 22 (.int .i64 (S : Int)) (.int .i64 (S : Int))).run Tryd.prog W = .ok (.slice (some ⟨W.heap.size, 0, none⟩) S S) (W.alloc (.cells (cellsOf (List.replicate S 0)).toArray 5)) := by
  obtain ⟨i, hi, hz⟩ := Option.map_eq_some_iff.1 info_u8
  simp only [Prod.mk.injEq] at hz
  obtain ⟨hz0, hz1, hz2⟩ := hz
  have := run_make (P := Tryd.prog) W 22 5 i _ Tryd.underlying22 hi hz0 .i64 .i64 (S : Int) (S : Int) (by omega) (by omega) (by rw [hz2]; omega) (by omega)
  rw [hz1, Nat.mul_one, Int.toNat_natCast] at this
  have e : madeCells (Value.int .u8 0).cells S = (cellsOf (List.replicate S 0)).toArray := by
    apply Array.ext
    · simp [size_madeCells, cellsOf]
    · intro j h1 h2
      simp [madeCells, cellsOf, Value.cells, Nat.mod_one]
  rw [e] at this
  exact this

set_option maxRecDepth 100000 in
set_option maxHeartbeats 1000000 in
theorem lay_any (w : World) (hT : Tb w) (f : Nd) (hf : f.In w) (hw : f.wn.2 = 0) (hc : f.cnt ≤ 1000000) (S : Nat) (hl : f.wn.1.length ≤ S) (hS : S ≤ 100000000) :
    Calls Tryd.prog 25 #[.agg #[.int .i64 f.k, .int .i64 f.t, .bool f.m, .slice f.B f.bs.length f.d, .slice f.A f.ls.length f.c], .int .i64 (S : Int)] w fun e w' =>
      ∃ bb, e = .returned (.slice (some ⟨bb, 0, none⟩) S S) ∧ Whole w' bb (cellsOf (List.replicate (S - f.wn.1.length) 0 ++ f.wn.1)).toArray 5 ∧ w.heap.size ≤ bb ∧ Grew w w' none := by
  obtain ⟨P, hP⟩ : ∃ P, w.heap.size = P := ⟨_, rfl⟩
  have hmk := make11 S hS
  have HF := Lib.hid hf
  have HW := Lib.hid hw
  have HC := Lib.hid hc
  have HL := Lib.hid (And.intro hl hS)
  have HT := Lib.hid hT
  have HP := Lib.hid hP
  have hSI : (S : Int) ≤ 100000000 := by omega
  clear hf hw hc hl hS hT
  go_enter Tryd.func25, Tryd.ntmps25
  go_upto_region 6 with (fail)
  obtain ⟨bb, hbb⟩ : ∃ n, P + 1 = n := ⟨_, rfl⟩
  rw [hbb]
  obtain ⟨bx, hbx⟩ : ∃ n, bb + 1 = n := ⟨_, rfl⟩
  rw [hbx]
  obtain ⟨lx, hlx⟩ : ∃ n, bx + 1 = n := ⟨_, rfl⟩
  rw [hlx]
  obtain ⟨px, hpx⟩ : ∃ n, lx + 1 = n := ⟨_, rfl⟩
  rw [hpx]
  obtain ⟨tx, htx⟩ : ∃ n, px + 1 = n := ⟨_, rfl⟩
  rw [htx]
  obtain ⟨W, hW⟩ : ∃ W, ((((((w).alloc (.cells #[.int .i64 f.k, .int .i64 f.t, .bool f.m, .slice f.B f.bs.length f.d, .slice f.A f.ls.length f.c] 27)).alloc (.cells (cellsOf (List.replicate S 0)).toArray 5)).alloc (.cells #[.slice (some ⟨bb, 0, none⟩) S S] 22)).alloc (.cells #[.int .i64 (S : Int)] 3)).alloc (.cells #[.func (.func 39) #[] #[.pointer (some ⟨lx, 0, none⟩), .pointer (some ⟨bx, 0, none⟩)]] 76)).alloc (.cells #[.func (.func 40) #[] #[.pointer (some ⟨lx, 0, none⟩), .pointer (some ⟨px, 0, none⟩), .pointer (some ⟨tx, 0, none⟩)]] 77) = W := ⟨_, rfl⟩
  rw [hW]
  have HB := Lib.hid (show (w.heap.size = P ∧ P + 1 = bb ∧ bb + 1 = bx ∧ bx + 1 = lx ∧ lx + 1 = px ∧ px + 1 = tx) ∧ Grew w W none ∧ Whole W P f.cells 27 ∧ LyI W bb bx lx px tx S S [] by
    refine ⟨⟨HP.out, hbb, hbx, hlx, hpx, htx⟩, ?_⟩
    have k0 := Whole.new (w) #[.int .i64 f.k, .int .i64 f.t, .bool f.m, .slice f.B f.bs.length f.d, .slice f.A f.ls.length f.c] 27
    have k1 := Whole.new ((w).alloc (.cells #[.int .i64 f.k, .int .i64 f.t, .bool f.m, .slice f.B f.bs.length f.d, .slice f.A f.ls.length f.c] 27)) (cellsOf (List.replicate S 0)).toArray 5
    have k2 := Whole.new (((w).alloc (.cells #[.int .i64 f.k, .int .i64 f.t, .bool f.m, .slice f.B f.bs.length f.d, .slice f.A f.ls.length f.c] 27)).alloc (.cells (cellsOf (List.replicate S 0)).toArray 5)) #[.slice (some ⟨bb, 0, none⟩) S S] 22
    have k3 := Whole.new ((((w).alloc (.cells #[.int .i64 f.k, .int .i64 f.t, .bool f.m, .slice f.B f.bs.length f.d, .slice f.A f.ls.length f.c] 27)).alloc (.cells (cellsOf (List.replicate S 0)).toArray 5)).alloc (.cells #[.slice (some ⟨bb, 0, none⟩) S S] 22)) #[.int .i64 (S : Int)] 3
    have k4 := Whole.new (((((w).alloc (.cells #[.int .i64 f.k, .int .i64 f.t, .bool f.m, .slice f.B f.bs.length f.d, .slice f.A f.ls.length f.c] 27)).alloc (.cells (cellsOf (List.replicate S 0)).toArray 5)).alloc (.cells #[.slice (some ⟨bb, 0, none⟩) S S] 22)).alloc (.cells #[.int .i64 (S : Int)] 3)) #[.func (.func 39) #[] #[.pointer (some ⟨lx, 0, none⟩), .pointer (some ⟨bx, 0, none⟩)]] 76
    have k5 := Whole.new ((((((w).alloc (.cells #[.int .i64 f.k, .int .i64 f.t, .bool f.m, .slice f.B f.bs.length f.d, .slice f.A f.ls.length f.c] 27)).alloc (.cells (cellsOf (List.replicate S 0)).toArray 5)).alloc (.cells #[.slice (some ⟨bb, 0, none⟩) S S] 22)).alloc (.cells #[.int .i64 (S : Int)] 3)).alloc (.cells #[.func (.func 39) #[] #[.pointer (some ⟨lx, 0, none⟩), .pointer (some ⟨bx, 0, none⟩)]] 76)) #[.func (.func 40) #[] #[.pointer (some ⟨lx, 0, none⟩), .pointer (some ⟨px, 0, none⟩), .pointer (some ⟨tx, 0, none⟩)]] 77
    simp only [World.size_alloc, HP.out, hbb, hbx, hlx, hpx, htx] at k0 k1 k2 k3 k4 k5
    rw [← hW]
    refine ⟨(grew_alloc (grew_alloc (grew_alloc (grew_alloc (grew_alloc (grew_alloc (grew_refl _ none) _) _) _) _) _) _), k0.grew (grew_alloc (grew_alloc (grew_alloc (grew_alloc (grew_alloc (grew_refl _ none) _) _) _) _) _) (by simp), ⟨k2.grew (grew_alloc (grew_alloc (grew_alloc (grew_refl _ none) _) _) _) (by simp), k3.grew (grew_alloc (grew_alloc (grew_refl _ none) _) _) (by simp), k4.grew (grew_alloc (grew_refl _ none) _) (by simp), k5, ?_, by simp, HL.out.2, ?_⟩⟩
    · rw [List.append_nil]; exact k1.grew (grew_alloc (grew_alloc (grew_alloc (grew_alloc (grew_refl _ none) _) _) _) _) (by simp)
    · have := HT.out.lt; have := HP.out; omega)
  clear hW hmk hP hbb hbx hlx hpx htx
  have g := HB.out.2.1
  have hoff : f.Off (LyF bb lx) := HF.out.off.mono (fun i e => by have := HB.out.1; rcases e with e | e <;> omega)
  have HLA := Lib.hid (la_any f W bb bx lx px tx S S [] (HT.out.keep (.of_grew g)) (HF.out.grew g) hoff HW.out HC.out HL.out.1 HB.out.2.2.2)
  have f0 : W.cell? ⟨tx, 0, none⟩ = some (.func (.func 40) #[] #[.pointer (some ⟨lx, 0, none⟩), .pointer (some ⟨px, 0, none⟩), .pointer (some ⟨tx, 0, none⟩)]) := HB.out.2.2.2.t.cell 0
  have y0 : W.cell? ⟨P, 0, none⟩ = some (.int .i64 f.k) := HB.out.2.2.1.cell 0
  have y1 : W.cell? ⟨P, 1, none⟩ = some (.int .i64 f.t) := HB.out.2.2.1.cell 1
  have y2 : W.cell? ⟨P, 2, none⟩ = some (.bool f.m) := HB.out.2.2.1.cell 2
  have y3 : W.cell? ⟨P, 3, none⟩ = some (.slice f.B f.bs.length f.d) := HB.out.2.2.1.cell 3
  have y4 : W.cell? ⟨P, 4, none⟩ = some (.slice f.A f.ls.length f.c) := HB.out.2.2.1.cell 4
  clear g hoff
  go_wp2_with fail
  refine HLA.out.mono ?_
  rintro e w2 ⟨⟨v, rfl⟩, hI, hF⟩
  have HI2 := Lib.hid (And.intro hI hF)
  have b0 : w2.cell? ⟨bx, 0, none⟩ = some (.slice (some ⟨bb, 0, none⟩) S S) := hI.b.cell 0
  clear hI hF HLA f0 y0 y1 y2 y3 y4
  go_wp2_with fail
  go_ret
  refine ⟨bb, rfl, ?_, by have := HB.out.1; omega, grew_fr HB.out.2.1 HI2.out.2 (fun i e => by have := HB.out.1; rcases e with e | e <;> omega)⟩
  have := HI2.out.1.r
  rwa [List.append_nil] at this

set_option maxRecDepth 100000 in
set_option maxHeartbeats 1000000 in
theorem write11_any (w : World) (hT : Tb w) (M : Addr) (hM : Mk w M) (f : Nd) (hf : f.In w) (hx : f.Cx w M) (hn : f.cnt ≤ 1000000) :
    Calls Tryd.prog 15 #[.agg #[.int .i64 f.k, .int .i64 f.t, .bool f.m, .slice f.B f.bs.length f.d, .slice f.A f.ls.length f.c]] w (WrP w f.wr) := by
  obtain ⟨P, hP⟩ : ∃ P, w.heap.size = P := ⟨_, rfl⟩
  obtain ⟨w1, hw1⟩ : ∃ w1, w.alloc (.cells #[.int .i64 f.k, .int .i64 f.t, .bool f.m, .slice f.B f.bs.length f.d, .slice f.A f.ls.length f.c] 27) = w1 := ⟨_, rfl⟩
  have HG1 := Lib.hid (show Grew w w1 none by rw [← hw1]; exact grew_alloc (grew_refl _ none) _)
  have H1 := Lib.hid (show Whole w1 P f.cells 27 by rw [← hw1, ← hP]; exact Whole.new _ _ _)
  have hme := measure_any w1 (hT.keep (.of_grew HG1.out)) M (hM.keep (.of_grew HG1.out)) f (hf.grew HG1.out) (hx.keep (.of_grew HG1.out)) hn
  have HF := Lib.hid (show ∀ w2, Grew w w2 none → f.wn.2 = 0 → _ from fun w2 g hw => lay_any w2 (hT.keep (.of_grew g)) f (hf.grew g) hw hn f.wn.1.length (Nat.le_refl _) (by have := Nd.wn_small f; omega))
  obtain ⟨E0, hE0⟩ : ∃ E, f.wr.2 = E := ⟨_, rfl⟩
  obtain ⟨S0, hS0⟩ : ∃ S, f.wr.1.length = S := ⟨_, rfl⟩
  rw [hS0, hE0] at hme
  have HME := Lib.hid hme
  have HSE := Lib.hid (And.intro hS0 hE0)
  have hSI : (S0 : Int) ≤ 16777220 := by
    have h1 : f.wr.1.length ≤ 16777220 := by
      unfold Nd.wr
      split
      · simp
      · exact wn_len f
    omega
  have y0 : w1.cell? ⟨P, 0, none⟩ = some (.int .i64 f.k) := H1.out.cell 0
  have y1 : w1.cell? ⟨P, 1, none⟩ = some (.int .i64 f.t) := H1.out.cell 1
  have y2 : w1.cell? ⟨P, 2, none⟩ = some (.bool f.m) := H1.out.cell 2
  have y3 : w1.cell? ⟨P, 3, none⟩ = some (.slice f.B f.bs.length f.d) := H1.out.cell 3
  have y4 : w1.cell? ⟨P, 4, none⟩ = some (.slice f.A f.ls.length f.c) := H1.out.cell 4
  clear hf hx hM hn hT hme hE0 hS0
  go_enter Tryd.func15, Tryd.ntmps15
  go_wp2_with fail
  refine HME.out.mono ?_
  rintro e w2 ⟨rfl, g2⟩
  have HG2 := Lib.hid (grew_trans HG1.out g2)
  have H2 := Lib.hid (H1.out.grew g2 (by simp))
  clear g2 HME H1 HG1 y0 y1 y2 y3 y4 hw1 hP
  rcases (Decidable.em (E0 = 0)).symm with g0 | g0
  · have g0' : (E0 != 0) = true := bne_iff_ne.2 g0
    have HE := Lib.hid (show f.wr = ([], E0) by
      have h1 : f.wr.2 ≠ 0 := by rw [HSE.out.2]; exact g0
      have h2 : f.wr.1 = [] := by
        unfold Nd.wr at h1 ⊢
        split
        · rfl
        · rename_i h3
          rw [if_neg h3] at h1
          exact wn_err f h1
      exact Prod.ext h2 HSE.out.2)
    clear g0
    go_wp2_with fail
    refine bodyPost_ret (results_tmp2 rfl _ _ _) rfl ?_
    exact WrP.err HE.out HG2.out
  · have g0' : (E0 != 0) = false := by rw [g0]; rfl
    have HE := Lib.hid (show f.wr = f.wn ∧ f.wn.2 = 0 by
      have h1 : f.wr.2 = 0 := by rw [HSE.out.2]; exact g0
      unfold Nd.wr at h1 ⊢
      split
      · rename_i h3
        rw [if_pos h3] at h1
        exact absurd h1 (by decide)
      · rename_i h3
        rw [if_neg h3] at h1
        exact ⟨rfl, h1⟩)
    have hla := HF.out w2 HG2.out HE.out.2
    rw [← HE.out.1, HSE.out.1, Nat.sub_self, List.replicate_zero, List.nil_append] at hla
    have HLA := Lib.hid hla
    have HG0 := Lib.hid g0
    have y0 : w2.cell? ⟨P, 0, none⟩ = some (.int .i64 f.k) := H2.out.cell 0
    have y1 : w2.cell? ⟨P, 1, none⟩ = some (.int .i64 f.t) := H2.out.cell 1
    have y2 : w2.cell? ⟨P, 2, none⟩ = some (.bool f.m) := H2.out.cell 2
    have y3 : w2.cell? ⟨P, 3, none⟩ = some (.slice f.B f.bs.length f.d) := H2.out.cell 3
    have y4 : w2.cell? ⟨P, 4, none⟩ = some (.slice f.A f.ls.length f.c) := H2.out.cell 4
    clear g0 hla
    go_wp2_with fail
    refine HLA.out.mono ?_
    rintro e w3 ⟨bb, rfl, hb, _, g3⟩
    have HB3 := Lib.hid (And.intro hb g3)
    clear hb g3 HLA y0 y1 y2 y3 y4
    go_wp2_with fail
    refine bodyPost_ret (results_tmp2 rfl _ _ _) rfl ?_
    refine ⟨some ⟨bb, 0, none⟩, S0, by rw [HSE.out.1, HSE.out.2, HG0.out]; rfl, by rw [HSE.out.1]; exact Nat.le_refl _, fun _ => ⟨bb, 0, rfl, HB3.out.1.lt, fun i hi => ?_⟩, grew_trans HG2.out HB3.out.2⟩
    rw [HB3.out.1.cell, Nat.zero_add]
    have := cellsOf_at f.wr.1 i hi
    simpa using this
end Go.Proofs.YtnjnghbonmdbdaaDoor


/- What layer 11's functions answer of things whose lists lie in memory without a mark: shown. -/
namespace Go.Proofs.YtnjnghbonmdbdaaDoor
open Go.RowKit Nd

/-- It lies in memory, its lists in blocks of their own. -/
structure InC (w : World) (v : Nd) : Prop where
  inn : v.In w
  cl : v.Cl w
theorem InC.grew {w w' : World} {v : Nd} (h : InC w v) (g : Grew w w' none) : InC w' v := ⟨h.inn.grew g, h.cl.grew g⟩
/-- What a Read leaves. -/
def ReadPC (w : World) (base : Int) (R : Rn) (e : Ending) (w' : World) : Prop :=
  ∃ v : Nd, e = .returned (.tuple #[.agg #[.int .i64 v.k, .int .i64 v.t, .bool v.m, .slice v.B v.bs.length v.d, .slice v.A v.ls.length v.c], .int .i64 (base + (R.n : Int)), .int .i64 R.e]) ∧ v.nf = R.v ∧ InC w' v ∧ Below w.heap.size w w'
def ReadEC : Prop := ∀ (w : World) (A : Option Addr) (c : Nat) (xs : List UInt8) (base : Int), Tb w → Byt w w.heap.size A xs → xs.length ≤ c → xs.length ≤ 1000000 → 0 ≤ base → base ≤ 1099511627776 →
  Calls Tryd.prog 11 #[.slice A xs.length c, .int .i64 base] w (ReadPC w base (rdN xs))
def WriteEC : Prop := ∀ (w : World) (f : Nd), Tb w → InC w f → f.cnt ≤ 1000000 → Calls Tryd.prog 15 #[f.val] w (WrP w f.wr)
def CheckEC : Prop := ∀ (w : World) (f : Nd), Tb w → InC w f → f.cnt ≤ 1000000 → Calls Tryd.prog 17 #[f.val] w fun e w' => e = .returned (.int .i64 f.wr.2) ∧ Grew w w' none
def DepthEC : Prop := ∀ (w : World) (f : Nd), Tb w → InC w f → f.cnt ≤ 1000000 → Calls Tryd.prog 18 #[f.val] w fun e w' => e = .returned (.int .i64 (f.dep : Int)) ∧ Grew w w' none
theorem tb_mk11 {w : World} (h : Tb w) : Mk w ⟨0, 0, none⟩ := by
  obtain ⟨t, hW⟩ := h
  exact ⟨_, _, _, hW, by decide⟩
theorem readEC : ReadEC := fun w A c xs base hT hb hc hl h0 h1 => (derread_any w hT A c xs base hb hc (by omega) h0 h1).mono fun _ _ ⟨v, he, hn, hi, hcl, _, hB⟩ => ⟨v, he, hn, ⟨hi, hcl⟩, hB⟩
theorem writeEC : WriteEC := fun w f hT hi hn => write11_any w hT ⟨0, 0, none⟩ (tb_mk11 hT) f hi.inn (hi.cl.cx _ hi.inn) hn
theorem checkEC : CheckEC := fun w f hT hi hn => check11_any w hT ⟨0, 0, none⟩ (tb_mk11 hT) f hi.inn (hi.cl.cx _ hi.inn) hn
theorem depthEC : DepthEC := fun w f hT hi hn => depth_any w ⟨0, 0, none⟩ (tb_mk11 hT) f hi.inn (hi.cl.cx _ hi.inn) hn
end Go.Proofs.YtnjnghbonmdbdaaDoor

