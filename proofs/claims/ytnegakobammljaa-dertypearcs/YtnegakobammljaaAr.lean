/- Rows that are written beside one another: numbers, two rows of bytes. -/
import Derived.Test.YtnegakobammljaaCc
import Derived.Test.YtnegakobammljaaLp2
import Derived.Test.YtnegakobammljaaOu
namespace Go.Proofs.Ytnegakobammljaa
open Go.RowKit

theorem own_grew {w w' : World} {e : TypeId} {size n : Nat} {v : Value} {xs : List Value} {r : Option Nat} (h : w.ownsRow 0 e size v n xs) (g : Grew w w' r) (hr : ∀ k, v.ownBlock = some k → r ≠ some k) : w'.ownsRow 0 e size v n xs :=
  own_fr h (⟨g.os, g.tape, g.output, g.size, fun i hi hF => g.block i hi (fun e => hF e.symm)⟩ : Fr w w' (fun i => r = some i)) hr
theorem own_under {w w' : World} {e : TypeId} {size n : Nat} {v : Value} {xs : List Value} (h : w.ownsRow 0 e size v n xs) (hb : Below w.heap.size w w') : w'.ownsRow 0 e size v n xs := by
  refine ⟨h.1, ?_⟩
  rcases h.2 with h2 | ⟨g, cap, cur, e', hg, hh, h1, h2, h3, h4⟩
  · exact .inl h2
  · have hW : Whole w g cur e := hh
    exact .inr ⟨g, cap, cur, e', hg, (hb.block g hW.lt).trans hh, h1, h2, h3, h4⟩

/-- 'append' of one number: what else there is stays. -/
theorem app64_g (w : World) {v : Value} {n : Nat} {ns : List Nat} (own : w.ownsRow 0 47 1 v n (cells64 ns)) (hn : n ≤ 2199023255552) (x : Nat) :
    ∀ ty, ∃ v' w', (Builtin.append_ #[32, 32] ty #[v, .slice (some ⟨w.heap.size, 0, none⟩) 1 1]).run Try.prog (w.alloc (.cells #[.int .u64 (x : Int)] 47)) = .ok v' w' ∧
      (w'.ownsRow 0 47 1 v' (n + 1) (cells64 (ns ++ [x])) ∧ Grew w w' v.ownBlock ∧ ∀ k, v'.ownBlock = some k → v.ownBlock = some k ∨ w.heap.size ≤ k) := fun ty => by
  obtain ⟨i, hi, hz⟩ := Option.map_eq_some_iff.1 info_u64
  simp only [Prod.mk.injEq] at hz
  obtain ⟨hz0, hz1, hz2⟩ := hz
  have own2 := own_fr own ((Fr.refl w (fun _ => False)).alloc (.cells #[.int .u64 (x : Int)] 47)) (fun _ _ h => h)
  have hw := Whole.new w #[.int .u64 (x : Int)] 47
  obtain ⟨v', w', hr, h2, h3, _, h5⟩ := run_append_own_at (P := Try.prog) (w.alloc (.cells #[.int .u64 (x : Int)] 47)) 0 32 ty 47 i (.int .u64 0) 1 8 Try.underlying32 hi hz0 hz1 hz2 rfl (by omega) v n (cells64 ns) own2
    ⟨w.heap.size, 0, none⟩ 1 1 (cells64 [x]) rfl (fun j u hu => by
      match j, hu with
      | 0, hu =>
        have : u = .int .u64 (x : Int) := by simpa [cells64] using hu.symm
        subst this
        show (w.alloc _).cell? ⟨w.heap.size, 0, none⟩ = _
        rw [hw.cell]
        rfl
      | j + 1, hu => simp [cells64] at hu) (fun u hu => by simp [cells64] at hu; subst hu; rfl) (by unfold maxLen; omega) (by omega) (Nat.zero_le _)
  refine ⟨v', w', hr, by rw [cells64_append]; exact h2, grew_trans (grew_weak (grew_alloc (grew_refl w none) _)) h3, fun k hk => ?_⟩
  rcases h5 with e | e
  · exact .inl (by rw [← e]; exact hk)
  · rw [hk] at e
    simp at e
    exact .inr (by omega)
/-- 'append' of bytes of another row. -/
theorem app8_g (w : World) {v : Value} {n c : Nat} {A : Option Addr} {xs ys : List UInt8} (own : w.ownsRow 0 5 1 v n (cellsOf xs)) (own2 : w.ownsRow 0 5 1 (.slice A ys.length c) ys.length (cellsOf ys)) (hm : n + ys.length ≤ 1000000) :
    ∀ ty, ∃ v' w', (Builtin.append_ #[22, 22] ty #[v, .slice A ys.length c]).run Try.prog w = .ok v' w' ∧
      (w'.ownsRow 0 5 1 v' (n + ys.length) (cellsOf (xs ++ ys)) ∧ Grew w w' v.ownBlock ∧ ∀ k, v'.ownBlock = some k → v.ownBlock = some k ∨ w.heap.size ≤ k) := fun ty => by
  have info : (Try.prog.info? 5).map (fun i => (i.zero, i.size, i.bytes)) = some (some (.int .u8 0), 1, 1) := by kernel_rfl
  obtain ⟨v', w', hr, k1, k2, k3⟩ := append_bytes (P := Try.prog) w 22 ty 5 Try.underlying22 info own (own_by own2) c (by omega)
  refine ⟨v', w', hr, k1, k2, fun k hk => ?_⟩
  rcases k3 with e | e
  · exact .inl (by rw [← e]; exact hk)
  · rw [hk] at e
    simp at e
    exact .inr (by omega)

/-- Numbers, and two rows of bytes, apart. -/
structure Arx (w W : World) (q : Nat) (ns : List Nat) (xs zs : List UInt8) (v9 v10 v11 : Value) : Prop where
  o9 : W.ownsRow 0 47 1 v9 ns.length (cells64 ns)
  o10 : W.ownsRow 0 5 1 v10 xs.length (cellsOf xs)
  o11 : W.ownsRow 0 5 1 v11 zs.length (cellsOf zs)
  ne : ∀ k, v10.ownBlock = some k → v11.ownBlock ≠ some k
  q9 : ∀ k, v9.ownBlock = some k → q ≤ k
  q10 : ∀ k, v10.ownBlock = some k → q ≤ k
  q11 : ∀ k, v11.ownBlock = some k → q ≤ k
  bel : Below q w W
  sz : q ≤ W.heap.size
theorem Arx.under {w W W' : World} {q : Nat} {ns : List Nat} {xs zs : List UInt8} {v9 v10 v11 : Value} (h : Arx w W q ns xs zs v9 v10 v11) (hb : Below W.heap.size W W') : Arx w W' q ns xs zs v9 v10 v11 :=
  ⟨own_under h.o9 hb, own_under h.o10 hb, own_under h.o11 hb, h.ne, h.q9, h.q10, h.q11, h.bel.trans (hb.mono h.sz), Nat.le_trans h.sz hb.size⟩
theorem Arx.app9 {w W W' : World} {q : Nat} {ns ns' : List Nat} {xs zs : List UInt8} {v9 v10 v11 v9' : Value} (h : Arx w W q ns xs zs v9 v10 v11) (o : W'.ownsRow 0 47 1 v9' ns'.length (cells64 ns')) (g : Grew W W' v9.ownBlock) (hn : ∀ k, v9'.ownBlock = some k → v9.ownBlock = some k ∨ W.heap.size ≤ k) : Arx w W' q ns' xs zs v9' v10 v11 := by
  have ne : ∀ {v : Value} {n : Nat} {us : List Value}, W.ownsRow 0 5 1 v n us → ∀ k, v.ownBlock = some k → v9.ownBlock ≠ some k := fun hv k hk => own_own hv h.o9 (by decide) k hk
  refine ⟨o, own_grew h.o10 g (ne h.o10), own_grew h.o11 g (ne h.o11), h.ne, fun k hk => ?_, h.q10, h.q11, h.bel.trans (grew_below g h.sz h.q9), Nat.le_trans h.sz g.size⟩
  rcases hn k hk with e | e
  · exact h.q9 k e
  · exact Nat.le_trans h.sz e
theorem Arx.app10 {w W W' : World} {q : Nat} {ns : List Nat} {xs xs' zs : List UInt8} {v9 v10 v11 v10' : Value} (h : Arx w W q ns xs zs v9 v10 v11) (o : W'.ownsRow 0 5 1 v10' xs'.length (cellsOf xs')) (g : Grew W W' v10.ownBlock) (hn : ∀ k, v10'.ownBlock = some k → v10.ownBlock = some k ∨ W.heap.size ≤ k) : Arx w W' q ns xs' zs v9 v10' v11 := by
  refine ⟨own_grew h.o9 g (fun k hk e => own_own h.o10 h.o9 (by decide) k e hk), o, own_grew h.o11 g (fun k hk e => h.ne k e hk), fun k hk => ?_, h.q9, fun k hk => ?_, h.q11, h.bel.trans (grew_below g h.sz h.q10), Nat.le_trans h.sz g.size⟩
  · rcases hn k hk with e | e
    · exact h.ne k e
    · intro e2
      have := own_lt h.o11 k e2
      omega
  · rcases hn k hk with e | e
    · exact h.q10 k e
    · exact Nat.le_trans h.sz e
theorem Arx.app11 {w W W' : World} {q : Nat} {ns : List Nat} {xs zs zs' : List UInt8} {v9 v10 v11 v11' : Value} (h : Arx w W q ns xs zs v9 v10 v11) (o : W'.ownsRow 0 5 1 v11' zs'.length (cellsOf zs')) (g : Grew W W' v11.ownBlock) (hn : ∀ k, v11'.ownBlock = some k → v11.ownBlock = some k ∨ W.heap.size ≤ k) : Arx w W' q ns xs zs' v9 v10 v11' := by
  refine ⟨own_grew h.o9 g (fun k hk e => own_own h.o11 h.o9 (by decide) k e hk), own_grew h.o10 g (fun k hk e => h.ne k hk e), o, fun k hk e2 => ?_, h.q9, h.q10, fun k hk => ?_, h.bel.trans (grew_below g h.sz h.q11), Nat.le_trans h.sz g.size⟩
  · rcases hn k e2 with e | e
    · exact h.ne k hk e
    · have := own_lt h.o10 k hk
      omega
  · rcases hn k hk with e | e
    · exact h.q11 k e
    · exact Nat.le_trans h.sz e

theorem layF_len : ∀ (k y : Nat) (acc : List UInt8), (layF k y acc).length ≤ acc.length + k
  | 0, _, acc => by simp [layF]
  | k + 1, y, acc => by
    unfold layF
    split
    · have := layF_len k (y / 128) (sw y :: acc)
      simp at this
      omega
    · omega
theorem layN_len (x : Nat) : (layN x).length ≤ 10 := by
  have := layF_len 9 (x / 128) [sv x]
  simpa [layN] using this
theorem lay_lens : ∀ ls : List Nat, (ls.flatMap layN).length ≤ 10 * ls.length
  | [] => by simp
  | x :: ls => by
    have h1 := lay_lens ls
    have h2 := layN_len x
    rw [List.flatMap_cons, List.length_append, List.length_cons]
    omega
set_option maxRecDepth 100000 in
theorem slice_to64 (w : World) (A : Option Addr) (n c h : Nat) (hA : ∀ a, A = some a → ∃ b o, a = ⟨b, o, none⟩) (hh : h ≤ c) :
    (Instr.slice 32 (.slice A n c) none (some (.int .i64 (h : Int))) none).run Try.prog w = .ok (.slice A h c) w := by
  have elem : Try.prog.elem 32 = 47 := by simp [Program.elem, Try.underlying32]
  have under : Try.prog.underlying 32 = some (.slice (Try.prog.elem 32)) := by rw [elem]; exact Try.underlying32
  have size : (Go.sizeOf 47).run Try.prog w = .ok 1 w := by kernel_rfl
  rw [run_slice_h w 32 A n c under .i64 _ (by omega) (by omega), elem, size]
  cases A with
  | none => simp [Result.andThen, sliced]
  | some a =>
    obtain ⟨b, o, rfl⟩ := hA a rfl
    simp [Result.andThen, sliced, Addr.add]
end Go.Proofs.Ytnegakobammljaa

