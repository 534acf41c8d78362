/- The program's own answers of layer 9: how many bytes follow a length's first one; a length behind bytes. -/
import Derived.Test.YtbeknillegkidaaDoorDp
import Derived.Test.YtbeknillegkidaaDoorDu
import Derived.Deep.Cut
namespace Go.Proofs.YtbeknillegkidaaDoor
open Go.RowKit

/-- How many bytes follow a length's first one. -/
def nd (n : Nat) : Nat := if n < 128 then 0 else if n < 256 then 1 else if n < 65536 then 2 else 3

set_option maxRecDepth 100000 in
set_option maxHeartbeats 2000000 in
theorem needed_any (w : World) (n : Nat) (hn : n < 16777216) : Calls Tryd.prog 21 #[.int .i64 (n : Int)] w fun e w' => e = .returned (.int .i64 (nd n : Nat)) ∧ w' = w := by
  by_cases h1 : n < 128
  · have h1' : (n : Int) < 128 := by omega
    have e : nd n = 0 := by unfold nd; rw [if_pos h1]
    rw [e]
    go_enter Tryd.func21, Tryd.ntmps21
    go_wp2_with fail
    go_ret
    exact ⟨rfl, rfl⟩
  · have h1' : ¬ (n : Int) < 128 := by omega
    go_enter Tryd.func21, Tryd.ntmps21
    go_wp2_with fail
    go_loopw [3] (fun i wr => ∃ j : Nat, 1 ≤ j ∧ j ≤ nd n ∧ i = .int .i64 j ∧ wr = w) (fun i _ => 4 - (intOf i).toNat)
    case atStart => exact ⟨1, Nat.le_refl _, by unfold nd; rw [if_neg h1]; split <;> (try split) <;> omega, rfl, rfl⟩
    case round =>
      obtain ⟨j, hj1, hj2, rfl, rfl⟩ := hrel
      have hj3 : j ≤ 3 := by unfold nd at hj2; split at hj2 <;> (try split at hj2) <;> (try split at hj2) <;> omega
      have : j = 1 ∨ j = 2 ∨ j = 3 := by omega
      rcases this with rfl | rfl | rfl
      · by_cases h2 : n < 256
        · have e : nd n = 1 := by unfold nd; rw [if_neg h1, if_pos h2]
          have h2' : (n : Int) / 256 ≤ 0 := by omega
          go_wp2_with fail
          go_ret
          exact ⟨by rw [e]; rfl, rfl⟩
        · have e : 2 ≤ nd n := by unfold nd; rw [if_neg h1, if_neg h2]; split <;> omega
          have h2' : 0 < (n : Int) / 256 := by omega
          go_wp2_with fail
          exact ⟨⟨2, by omega, e, rfl, trivial⟩, by simp [intOf]⟩
      · have h2 : ¬ n < 256 := fun h => by unfold nd at hj2; rw [if_neg h1, if_pos h] at hj2; omega
        by_cases h3 : n < 65536
        · have e : nd n = 2 := by unfold nd; rw [if_neg h1, if_neg h2, if_pos h3]
          have h3' : (n : Int) / 65536 ≤ 0 := by omega
          go_wp2_with fail
          go_ret
          exact ⟨by rw [e]; rfl, rfl⟩
        · have e : 3 ≤ nd n := by unfold nd; rw [if_neg h1, if_neg h2, if_neg h3]; exact Nat.le_refl _
          have h3' : 0 < (n : Int) / 65536 := by omega
          go_wp2_with fail
          exact ⟨⟨3, by omega, e, rfl, trivial⟩, by simp [intOf]⟩
      · have h2 : ¬ n < 256 := fun h => by unfold nd at hj2; rw [if_neg h1, if_pos h] at hj2; omega
        have h3 : ¬ n < 65536 := fun h => by unfold nd at hj2; rw [if_neg h1, if_neg h2, if_pos h] at hj2; omega
        have e : nd n = 3 := by unfold nd; rw [if_neg h1, if_neg h2, if_neg h3]
        have h3' : (n : Int) / 16777216 ≤ 0 := by omega
        go_wp2_with fail
        go_ret
        exact ⟨by rw [e]; rfl, rfl⟩

theorem nd_le (n : Nat) : nd n ≤ 3 := by unfold nd; split <;> (try split) <;> (try split) <;> omega
theorem lenB_length (n : Nat) : (lenB n).length = 1 + nd n := by unfold lenB nd; split <;> (try split) <;> (try split) <;> rfl

/-- 'append' of one byte, in new memory, to a row of bytes. -/
theorem app_one (w : World) {v : Value} {n : Nat} {ys : List UInt8} (own : w.ownsRow 0 5 1 v n (cellsOf ys)) (hn : n ≤ 100) (x : UInt8) :
    ∀ ty, ∃ v' w', (Builtin.append_ #[22, 22] ty #[v, .slice (some ⟨w.heap.size, 0, none⟩) 1 1]).run Tryd.prog (w.alloc (.cells #[.int .u8 (x.toNat : Int)] 5)) = .ok v' w' ∧
    AppLeft (w.alloc (.cells #[.int .u8 (x.toNat : Int)] 5)) 5 1 v (n + 1) (cellsOf (ys ++ [x])) v' w' := fun ty => by
  have h2 := own_fr own ((Fr.refl w (fun _ => False)).alloc (.cells #[.int .u8 (x.toNat : Int)] 5)) (fun _ _ h => h)
  have h3 := own_by (own_new w #[.int .u8 (x.toNat : Int)] [x] rfl (by simp))
  exact append_bytes (P := Tryd.prog) _ 22 ty 5 Tryd.underlying22 info_u8 h2 h3 1 (by simp; omega)

/-- What appending to a row leaves: the row, as it is now; nothing but its block has turned. -/
def Apd (w : World) (v : Value) (v' : Value) (n : Nat) (ys : List UInt8) (w' : World) : Prop :=
  w'.ownsRow 0 5 1 v' n (cellsOf ys) ∧ Grew w w' v.ownBlock ∧ (∀ k, v'.ownBlock = some k → v.ownBlock = some k ∨ w.heap.size ≤ k)
theorem Apd.more {w w1 w2 : World} {v v1 v2 : Value} {n m : Nat} {ys zs : List UInt8} {o : Obj} (h : Apd w v v1 n ys w1) (k : AppLeft (w1.alloc o) 5 1 v1 m (cellsOf zs) v2 w2) : Apd w v v2 m zs w2 := by
  obtain ⟨h1, h2, h3⟩ := h
  obtain ⟨k1, k2, k3⟩ := k
  have hs := h2.size
  have ob : ∀ i, v2.ownBlock = some i → v.ownBlock = some i ∨ w.heap.size ≤ i := by
    intro i hi
    rcases k3 with e | e
    · exact h3 i (by rw [← e]; exact hi)
    · rw [hi] at e
      right
      cases e
      simp
      omega
  refine ⟨k1, ?_, ob⟩
  have g1 : Grew w (w1.alloc o) v.ownBlock := grew_alloc h2 o
  cases hv : v1.ownBlock with
  | none => rw [hv] at k2; exact grew_trans g1 (grew_weak k2)
  | some b =>
    rw [hv] at k2
    rcases h3 b hv with e | e
    · rw [e]; rw [e] at g1; exact grew_trans g1 k2
    · exact grew_own g1 k2 e
end Go.Proofs.YtbeknillegkidaaDoor

