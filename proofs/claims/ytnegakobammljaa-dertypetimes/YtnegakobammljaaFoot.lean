/- Footprints: which blocks may have turned; rows that the program owns; append onto such a row. -/
import Derived.Test.YtnegakobammljaaMem
import Derived.Maps.AppendAt
import Derived.Laws.OwnMore
namespace Go.Proofs.Ytnegakobammljaa
open Go.RowKit

/-- Nothing that was there has turned but blocks of F. -/
structure Fr (w w' : World) (F : Nat → Prop) : Prop where
  os : w'.os = w.os
  tape : w'.tape = w.tape
  output : w'.output = w.output
  size : w.heap.size ≤ w'.heap.size
  block : ∀ i, i < w.heap.size → ¬ F i → w'.heap[i]? = w.heap[i]?

theorem Fr.refl (w : World) (F : Nat → Prop) : Fr w w F := ⟨rfl, rfl, rfl, Nat.le_refl _, fun _ _ _ => rfl⟩
/-- What the second may turn is the first's, or new. -/
theorem Fr.trans {a b c : World} {F G : Nat → Prop} (h : Fr a b F) (k : Fr b c G) (hs : ∀ i, i < a.heap.size → G i → F i) : Fr a c F :=
  ⟨k.os.trans h.os, k.tape.trans h.tape, k.output.trans h.output, Nat.le_trans h.size k.size, fun i hi hn => (k.block i (Nat.lt_of_lt_of_le hi h.size) (fun g => hn (hs i hi g))).trans (h.block i hi hn)⟩
theorem Fr.mono {a b : World} {F G : Nat → Prop} (h : Fr a b F) (hs : ∀ i, i < a.heap.size → F i → G i) : Fr a b G :=
  ⟨h.os, h.tape, h.output, h.size, fun i hi hn => h.block i hi (fun g => hn (hs i hi g))⟩
theorem Fr.of_grew {a b : World} {row : Option Nat} (h : Grew a b row) : Fr a b (fun i => some i = row) :=
  ⟨h.os, h.tape, h.output, h.size, fun i hi hn => h.block i hi hn⟩
theorem Fr.of_grew' {a b : World} {row : Option Nat} {F : Nat → Prop} (h : Grew a b row) (hr : ∀ i, row = some i → F i) : Fr a b F :=
  ⟨h.os, h.tape, h.output, h.size, fun i hi hn => h.block i hi (fun e => hn (hr i e.symm))⟩
theorem Fr.alloc {a w : World} {F : Nat → Prop} (h : Fr a w F) (o : Obj) : Fr a (w.alloc o) F :=
  h.trans (G := fun _ => False) ⟨rfl, rfl, rfl, by simp, fun i hi _ => Below.heap_alloc _ _ _ hi⟩ (fun _ _ h => h.elim)
theorem Fr.set {a w : World} {F : Nat → Prop} (h : Fr a w F) {p : Nat} (hp : F p ∨ a.heap.size ≤ p) (i : Nat) (s : Option Nat) (u : Value) : Fr a (w.setCell ⟨p, i, s⟩ u) F :=
  h.trans (G := fun k => k = p) ⟨rfl, rfl, rfl, by simp [World.setCell], fun k _ hk => Below.heap_setCell _ _ _ _ hk⟩ (fun k hk e => by subst e; rcases hp with h | h; exact h; omega)
theorem Fr.drewN {a w : World} {F : Nat → Prop} (h : Fr a w F) (n : Nat) : Fr a (w.drewN n) F := ⟨h.os, h.tape, h.output, h.size, h.block⟩
theorem Fr.drew {a w : World} {F : Nat → Prop} (h : Fr a w F) : Fr a w.drew F := ⟨h.os, h.tape, h.output, h.size, h.block⟩
/-- Behind blocks that were new nothing old has turned. -/
theorem grew_fr {a b c : World} {row : Option Nat} {F : Nat → Prop} (h : Grew a b row) (k : Fr b c F) (hF : ∀ i, F i → a.heap.size ≤ i) : Grew a c row :=
  ⟨k.os.trans h.os, k.tape.trans h.tape, k.output.trans h.output, Nat.le_trans h.size k.size, fun i hi hn => (k.block i (Nat.lt_of_lt_of_le hi h.size) (fun g => by have := hF i g; omega)).trans (h.block i hi hn)⟩

theorem Whole.fr {w w' : World} {F : Nat → Prop} {p : Nat} {cs : Array Value} {t : TypeId} (h : Whole w p cs t) (g : Fr w w' F) (hr : ¬ F p) : Whole w' p cs t :=
  (g.block p h.lt hr).trans h
theorem Whole.ne {w : World} {p q : Nat} {cs ds : Array Value} {t u : TypeId} (h : Whole w p cs t) (k : Whole w q ds u) (hne : t ≠ u) : p ≠ q := by
  rintro rfl
  unfold Whole at h k
  rw [h] at k
  injection k with k
  injection k with _ k
  exact hne k

/-- A cell of a block that has not turned. -/
theorem Fr.cell {w w' : World} {F : Nat → Prop} (h : Fr w w' F) {a : Addr} {v : Value} (hc : w.cell? a = some v) (hn : ¬ F a.block) : w'.cell? a = some v :=
  (World.cell?_of_block (h.block a.block (World.block_lt_of_cell? w a hc) hn)).trans hc

/-- The slice at A holds the bytes xs, in a block of F (of no bytes nothing is asked). -/
def ByF (w : World) (F : Nat → Prop) (A : Option Addr) (xs : List UInt8) : Prop :=
  0 < xs.length → ∃ b o, A = some ⟨b, o, none⟩ ∧ F b ∧ ∀ i, i < xs.length → w.cell? ⟨b, o + i, none⟩ = some (.int .u8 ((xs.getD i 0).toNat : Int))
theorem Byt.byf {w : World} {B : Nat} {A : Option Addr} {xs : List UInt8} (h : Byt w B A xs) : ByF w (· < B) A xs := h
theorem ByF.byt {w : World} {F : Nat → Prop} {A : Option Addr} {xs : List UInt8} (h : ByF w F A xs) : Byt w w.heap.size A xs := by
  intro hn
  obtain ⟨b, o, e, _, hc⟩ := h hn
  exact ⟨b, o, e, World.block_lt_of_cell? w _ (hc 0 hn), hc⟩
theorem ByF.mono {w : World} {F G : Nat → Prop} {A : Option Addr} {xs : List UInt8} (h : ByF w F A xs) (hs : ∀ i, F i → G i) : ByF w G A xs := by
  intro hn
  obtain ⟨b, o, e, hb, hc⟩ := h hn
  exact ⟨b, o, e, hs b hb, hc⟩
theorem ByF.fr {w w' : World} {F G : Nat → Prop} {A : Option Addr} {xs : List UInt8} (h : ByF w F A xs) (g : Fr w w' G) (hr : ∀ i, F i → ¬ G i) : ByF w' F A xs := by
  intro hn
  obtain ⟨b, o, e, hb, hc⟩ := h hn
  exact ⟨b, o, e, hb, fun i hi => g.cell (hc i hi) (hr b hb)⟩
theorem ByF.take {w : World} {F : Nat → Prop} {A : Option Addr} {xs : List UInt8} (h : ByF w F A xs) (k : Nat) : ByF w F A (xs.take k) := by
  intro hn
  have hl : (xs.take k).length ≤ xs.length := List.length_take_le' _ _
  obtain ⟨b, o, rfl, hb, hc⟩ := h (by omega)
  refine ⟨b, o, rfl, hb, fun i hi => ?_⟩
  rw [hc i (by omega)]
  have hik : i < k := by rw [List.length_take] at hi; omega
  simp [List.getD, List.getElem?_take_of_lt hik]
theorem ByF.nil (w : World) (F : Nat → Prop) (A : Option Addr) : ByF w F A [] := fun h => by simp at h

/-- A row that is owned stands where its block has not turned. -/
theorem own_fr {w w' : World} {F : Nat → Prop} {e : TypeId} {size n : Nat} {v : Value} {xs : List Value} (h : w.ownsRow 0 e size v n xs) (g : Fr w w' F) (hr : ∀ k, v.ownBlock = some k → ¬ F k) : w'.ownsRow 0 e size v n xs := by
  refine ⟨h.1, ?_⟩
  rcases h.2 with h0 | ⟨b, cap, cur, rfl, hb, hh, rest⟩
  · exact .inl h0
  · refine .inr ⟨b, cap, cur, rfl, hb, ?_, rest⟩
    have hW : Whole w b cur e := hh
    exact hW.fr g (hr b rfl)
theorem own_lt {w : World} {e : TypeId} {size n : Nat} {v : Value} {xs : List Value} (h : w.ownsRow 0 e size v n xs) : ∀ k, v.ownBlock = some k → k < w.heap.size := fun k hk => (h.lt k hk).2
/-- Rows of other types, and blocks known whole of other types, are apart. -/
theorem own_ne {w : World} {e : TypeId} {size n p : Nat} {v : Value} {xs : List Value} {cs : Array Value} {t : TypeId} (h : w.ownsRow 0 e size v n xs) (k : Whole w p cs t) (hne : e ≠ t) : v.ownBlock ≠ some p := by
  rcases h.2 with ⟨rfl, _⟩ | ⟨b, cap, cur, rfl, _, hh, _⟩
  · simp [Value.ownBlock]
  · intro he
    have e' : b = p := by simpa [Value.ownBlock] using he
    exact Whole.ne (w := w) (t := e) hh k hne e'
theorem own_own {w : World} {e e' : TypeId} {size size' n n' : Nat} {v v' : Value} {xs xs' : List Value} (h : w.ownsRow 0 e size v n xs) (k : w.ownsRow 0 e' size' v' n' xs') (hne : e ≠ e') : ∀ g, v.ownBlock = some g → v'.ownBlock ≠ some g := by
  intro g hg
  rcases h.2 with ⟨rfl, _⟩ | ⟨b, cap, cur, rfl, _, hh, _⟩
  · simp [Value.ownBlock] at hg
  · have e2 : b = g := by simpa [Value.ownBlock] using hg
    subst e2
    exact own_ne (t := e) k hh (fun h => hne h.symm)

/-- The cells of bytes. -/
def cellsOf (xs : List UInt8) : List Value := xs.map fun x => .int .u8 (x.toNat : Int)
theorem cellsOf_length (xs : List UInt8) : (cellsOf xs).length = xs.length := by simp [cellsOf]
theorem cellsOf_append (xs ys : List UInt8) : cellsOf (xs ++ ys) = cellsOf xs ++ cellsOf ys := by simp [cellsOf]
theorem cellsOf_one (xs : List UInt8) : ∀ v ∈ cellsOf xs, v.oneCell' = true := by
  intro v hv
  obtain ⟨x, _, rfl⟩ := List.mem_map.1 hv
  rfl
theorem cellsOf_at (xs : List UInt8) (i : Nat) (h : i < xs.length) : (cellsOf xs)[i]? = some (.int .u8 ((xs.getD i 0).toNat : Int)) := by
  simp [cellsOf, List.getD, List.getElem?_eq_getElem h]
theorem addr_add (b o n : Nat) : (⟨b, o, none⟩ : Addr).add n = ⟨b, o + n, none⟩ := by
  unfold Addr.add
  split <;> simp_all

/-- An owned row of bytes read as a slice. -/
theorem own_by {w : World} {e : TypeId} {A : Option Addr} {n c : Nat} {xs : List UInt8} (h : w.ownsRow 0 e 1 (.slice A n c) n (cellsOf xs)) : ByF w (fun i => (Value.slice A n c).ownBlock = some i) A xs := by
  intro hn
  have hl := h.1
  rw [cellsOf_length] at hl
  rcases h.2 with ⟨_, h0⟩ | ⟨b, cap, cur, hv, _, hh, hnc, _, hsz, ht⟩
  · omega
  · injection hv with hA _ hc
    subst hA hc
    refine ⟨b, 0, rfl, by simp [Value.ownBlock], fun i hi => ?_⟩
    have hW : Whole w b cur e := hh
    rw [hW.cell, ← cellsOf_at _ _ hi, ← ht, List.getElem?_take_of_lt (by omega), Nat.zero_add, Array.getElem?_toList]

section
variable {P : Program} (w : World)
/-- Onto an owned row nothing is appended out of nil. -/
theorem append_none {t ty e : TypeId} {i : TypeInfo} {size : Nat} (ht : P.underlying t = some (.slice e)) (hi : P.info? e = some i) {v : Value} {n : Nat} {xs : List Value} (hown : w.ownsRow 0 e size v n xs) (c : Nat) :
    (Builtin.append_ #[t, t] ty #[v, .slice none 0 c]).run P w = .ok v w := by
  rcases hown.2 with ⟨rfl, rfl⟩ | ⟨g, cap, cur, rfl, _, _, hnc, _⟩
  · simp [Builtin.append_, run_underlying ht, sizeOf, typeInfo, hi, Builtin.lenOf, Builtin.firstCells]
  · simp [Builtin.append_, run_underlying ht, sizeOf, typeInfo, hi, Builtin.lenOf, Builtin.firstCells, hnc, storeCells]

/-- What an append leaves: the value, the world. -/
def AppLeft (w : World) (e : TypeId) (size : Nat) (v : Value) (n : Nat) (ys : List Value) (v' : Value) (w' : World) : Prop :=
  w'.ownsRow 0 e size v' n ys ∧ Grew w w' v.ownBlock ∧ (v'.ownBlock = v.ownBlock ∨ v'.ownBlock = some w.heap.size)

/-- 'append(v, src...)': v owns a row of bytes; src is nil, empty or not. -/
theorem append_bytes (t ty e : TypeId) (ht : P.underlying t = some (.slice e)) (hinfo : (P.info? e).map (fun i => (i.zero, i.size, i.bytes)) = some (some (.int .u8 0), 1, 1))
    {v : Value} {n : Nat} {xs : List UInt8} (hown : w.ownsRow 0 e 1 v n (cellsOf xs)) {F : Nat → Prop} {A : Option Addr} {bs : List UInt8} (hb : ByF w F A bs) (c : Nat) (hm : n + bs.length ≤ 140737488355328) :
    ∃ v' w', (Builtin.append_ #[t, t] ty #[v, .slice A bs.length c]).run P w = .ok v' w' ∧ AppLeft w e 1 v (n + bs.length) (cellsOf (xs ++ bs)) v' w' := by
  obtain ⟨i, hi, hz⟩ := Option.map_eq_some_iff.1 hinfo
  simp only [Prod.mk.injEq] at hz
  obtain ⟨hz0, hz1, hz2⟩ := hz
  cases A with
  | none =>
    have e0 : bs = [] := by
      rcases Nat.eq_zero_or_pos bs.length with h | h
      · exact List.eq_nil_of_length_eq_zero h
      · obtain ⟨_, _, h, _⟩ := hb h
        cases h
    subst e0
    exact ⟨v, w, append_none w ht hi hown c, by simpa using hown, grew_refl _ _, .inl rfl⟩
  | some a =>
    have hn : ∀ j u, (cellsOf bs)[j]? = some u → w.cell? (a.add j) = some u := by
      intro j u hu
      have hj : j < bs.length := by
        rcases Nat.lt_or_ge j bs.length with h | h
        · exact h
        · rw [List.getElem?_eq_none (by rw [cellsOf_length]; exact h)] at hu; cases hu
      obtain ⟨b, o, h, _, hc⟩ := hb (by omega)
      cases h
      rw [addr_add, hc j hj, ← hu, cellsOf_at _ _ hj]
    obtain ⟨v', w', hr, h2, h3, _, h5⟩ := run_append_own_at (P := P) w 0 t ty e i (.int .u8 0) 1 1 ht hi hz0 hz1 hz2 rfl (by omega) v n (cellsOf xs) hown a bs.length c (cellsOf bs) (by rw [cellsOf_length]; omega) hn (cellsOf_one _)
      (by unfold maxLen; omega) (by omega) (Nat.zero_le _)
    exact ⟨v', w', hr, by rw [cellsOf_append]; exact h2, h3, h5⟩

/-- An append whose run is known, at the list of a plain region. -/
theorem wpList_append_run {P : Program} {ops : Array Oper} {rest : List Oper} {o : Oper} {a : Act} {Q : Exit → Act → World → Prop} (hgd : o.guard = none) (s x : Operand) (t : TypeId)
    (ho : o.op = .call { callee := .builtin .append, args := #[s, x], argTypes := #[t, t] }) {v u : Value} (hs : a.eval s = v) (hx : a.eval x = u) {L : Value → World → Prop}
    (hr : ∀ ty, ∃ v' w', (Builtin.append_ #[t, t] ty #[v, u]).run P w = .ok v' w' ∧ L v' w') (h : ∀ v' w', L v' w' → wpList P ops Q rest (a.put o.dst v') w') : wpList P ops Q (o :: rest) a w := by
  refine wpList_plain hgd fun K hK => ?_
  obtain ⟨v', w', hr, hl⟩ := hr o.type
  unfold Oper.wp execOp
  simp only [ho, resolve, invoke, builtin, Sem.run_bind, Sem.run_pure, Result.andThen_ok, List.map_toArray, List.map_cons, List.map_nil, hs, hx, hr]
  exact hK _ _ (h v' w' hl)
/-- The same at a step of a region that draws its order. -/
theorem step_append_run {P : Program} {ops : Array Oper} {o : Oper} {a : Act} {K : Act → World → Prop} {Q : Exit → Act → World → Prop} {E : Prop} (hgd : o.guard = none) (s x : Operand) (t : TypeId)
    (ho : o.op = .call { callee := .builtin .append, args := #[s, x], argTypes := #[t, t] }) {v u : Value} (hs : a.eval s = v) (hx : a.eval x = u) {L : Value → World → Prop}
    (hr : ∀ ty, ∃ v' w', (Builtin.append_ #[t, t] ty #[v, u]).run P w = .ok v' w' ∧ L v' w') (h : ∀ v' w', L v' w' → K (a.put o.dst v') w') :
    if Region.wanted o (yielded ops a.tmps) = true then Oper.wp P o a w K Q else E := by
  have hw : Region.wanted o (yielded ops a.tmps) = true := by simp [Region.wanted, hgd]
  rw [if_pos hw]
  obtain ⟨v', w', hr, hl⟩ := hr o.type
  unfold Oper.wp execOp
  simp only [ho, resolve, invoke, builtin, Sem.run_bind, Sem.run_pure, Result.andThen_ok, List.map_toArray, List.map_cons, List.map_nil, hs, hx, hr]
  exact h v' w' hl
end

/-- A quiet call ahead of which others were. -/
theorem quiet_same {P : Program} {f : FuncId} {args : Array Value} {w : World} {n : Nat} {v : Value}
    (h : Calls P f args (w.drewN n) fun e w' => e = .returned v ∧ w.drewN n = w') : Calls P f args (w.drewN n) fun e w'' => e = .returned v ∧ ∃ m, w'' = w.drewN m :=
  h.mono fun _ _ ⟨he, hm⟩ => ⟨he, n, hm.symm⟩

end Go.Proofs.Ytnegakobammljaa

