/- What the laws of layer 10 need beside the contracts: rows that are owned, one more byte ahead of a list that came in or was read. -/
import Derived.Test.YtnegakobammljaaCt
import Derived.Test.YtnegakobammljaaLp1
import Derived.Test.YtnegakobammljaaOpen
namespace Go.Proofs.Ytnegakobammljaa
open Go.RowKit

theorem byt_owned {w : World} {v : Value} {n : Nat} {xs : List UInt8} (h : w.ownsRow 0 5 1 v n (cellsOf xs)) : ∃ A c, v = .slice A xs.length c ∧ xs.length ≤ c ∧ Byt w w.heap.size A xs ∧ ∀ a, A = some a → v.ownBlock = some a.block := by
  have hl := h.1
  rw [cellsOf_length] at hl
  have hn : n = xs.length := by omega
  subst hn
  rcases h.2 with ⟨rfl, h0⟩ | ⟨b, cap, cur, rfl, _, hh, hnc, _, hsz, ht⟩
  · exact ⟨none, 0, by rw [h0], by omega, fun h => by omega, fun a ha => by cases ha⟩
  · have hW : Whole w b cur 5 := hh
    refine ⟨_, _, rfl, hnc, fun _ => ⟨b, 0, rfl, hW.lt, fun i hi => ?_⟩, fun a ha => by cases ha; rfl⟩
    have hf : (cellsOf xs)[i]? = some (.int .u8 ((xs.getD i 0).toNat : Int)) := by
      simp [cellsOf, List.getD, List.getElem?_eq_getElem hi]
    rw [← ht, List.getElem?_take_of_lt (by omega)] at hf
    rw [hW.cell, Nat.zero_add, ← Array.getElem?_toList]
    exact hf
/-- 'append([]byte{x}, b...)'. -/
theorem app_byt (w : World) (x : UInt8) {A : Option Addr} {c : Nat} {ys : List UInt8} (hb : Byt w w.heap.size A ys) (hn : ys.length ≤ 140737488351232) :
    ∀ ty, ∃ v' w', (Builtin.append_ #[22, 22] ty #[.slice (some ⟨w.heap.size, 0, none⟩) 1 1, .slice A ys.length c]).run Try.prog (w.alloc (.cells #[.int .u8 (x.toNat : Int)] 5)) = .ok v' w' ∧
      (w'.ownsRow 0 5 1 v' (ys.length + 1) (cellsOf (x :: ys)) ∧ Below w.heap.size w w' ∧ ∀ k, v'.ownBlock = some k → w.heap.size ≤ k) := fun ty => by
  have info : (Try.prog.info? 5).map (fun i => (i.zero, i.size, i.bytes)) = some (some (.int .u8 0), 1, 1) := by kernel_rfl
  have own1 := own_one w x
  have B1 : Below w.heap.size w (w.alloc (.cells #[.int .u8 (x.toNat : Int)] 5)) := (Below.refl _ w).alloc (Nat.le_refl _) _
  have own2 : ByF (w.alloc (.cells #[.int .u8 (x.toNat : Int)] 5)) (fun _ => True) A ys := by
    intro h0
    obtain ⟨b, o, e, _, hc⟩ := (byt_below hb B1 (Nat.le_refl _)) h0
    exact ⟨b, o, e, trivial, hc⟩
  obtain ⟨v', w', hr, k1, k2, k3⟩ := append_bytes (P := Try.prog) _ 22 ty 5 Try.underlying22 info own1 own2 c (by omega)
  refine ⟨v', w', hr, by rw [Nat.add_comm]; exact k1, ?_, ?_⟩
  · exact B1.trans (grew_below k2 (by simp) (fun k hk => by simp [Value.ownBlock] at hk; omega))
  · intro k hk
    rcases k3 with e | e
    · rw [e] at hk; simp [Value.ownBlock] at hk; omega
    · rw [e] at hk; simp at hk; omega
end Go.Proofs.Ytnegakobammljaa

