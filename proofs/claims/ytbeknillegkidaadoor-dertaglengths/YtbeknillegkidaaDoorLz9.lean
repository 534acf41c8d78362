/- What is read of any bytes: with an error nothing but the place; else a head that there is, whose bytes these begin with. -/
import Derived.Test.YtbeknillegkidaaDoorLw9
import Derived.Laws.Slices
namespace Go.Proofs.YtbeknillegkidaaDoor
open Go.RowKit

theorem rdH_good (xs : List UInt8) : ((rdH xs).2.2 ≠ 0 ∧ (rdH xs).1 = .z ∧ (rdH xs).2.1 ≤ xs.length) ∨
    ((rdH xs).2.2 = 0 ∧ kd (rdH xs).1.c (rdH xs).1.t (rdH xs).1.m = true ∧ (0 ≤ (rdH xs).1.l ∧ (rdH xs).1.l ≤ 16777215) ∧ (rdH xs).2.1 = (putH (rdH xs).1).length ∧ putH (rdH xs).1 <+: xs) := by
  cases xs with
  | nil => exact .inl ⟨by decide, rfl, Nat.le_refl _⟩
  | cons a r =>
    cases hk : kd (hdC a) (hdT a) (hdM a) with
    | false => rw [rdH_no hk]; exact .inl ⟨by decide, rfl, Nat.zero_le _⟩
    | true =>
      cases r with
      | nil => rw [rdH_one hk]; exact .inl ⟨by decide, rfl, by simp⟩
      | cons b s =>
        by_cases g1 : b.toNat = 128 ∨ 131 < b.toNat
        · rw [rdH_bad hk g1]; exact .inl ⟨by decide, rfl, by simp⟩
        · by_cases g2 : 128 < b.toNat ∧ s.length < b.toNat - 128
          · rw [rdH_few hk g2.1 (by omega) g2.2]; exact .inl ⟨by simp, rfl, by simp⟩
          · rw [rdH_all hk (by omega)]
            by_cases g3 : putH (hdOf a b s) <+: a :: b :: s
            · rw [if_pos g3]
              refine .inr ⟨rfl, hk, ?_, rfl, g3⟩
              dsimp only
              unfold hdOf
              dsimp only
              split
              · rename_i g4; omega
              · refine ⟨by omega, ?_⟩
                have h1 := bval_lt (s.take (b.toNat - 128))
                have h2 : (s.take (b.toNat - 128)).length ≤ 3 := by rw [List.length_take]; omega
                have h3 : 256 ^ (s.take (b.toNat - 128)).length ≤ 256 ^ 3 := Nat.pow_le_pow_right (by omega) h2
                have h4 : (256 : Nat) ^ 3 = 16777216 := rfl
                omega
            · rw [if_neg g3]; exact .inl ⟨by decide, rfl, by simp⟩

/-- 'b[:h]' of a list that has memory. -/
theorem slice_to (w : World) (b o n c h : Nat) (hh : h ≤ c) :
    (Instr.slice 22 (.slice (some ⟨b, o, none⟩) n c) none (some (.int .i64 (h : Int))) none).run Tryd.prog w = .ok (.slice (some ⟨b, o, none⟩) h c) w := by
  have ht : Tryd.prog.underlying 22 = some (.slice (Tryd.prog.elem 22)) := by rw [elem_u8]; exact Tryd.underlying22
  rw [run_slice_h w 22 (some ⟨b, o, none⟩) n c ht .i64 _ (by omega) (by omega), elem_u8, size_of_u8]
  simp [Result.andThen, sliced, Addr.add]

section
variable {ρ : Operand → Value} {o : Oper}
theorem run_sliceTo {x y : Operand} {b i n c h : Nat} (ho : o.op = .slice 22 x none (some y) none) (hx : ρ x = .slice (some ⟨b, i, none⟩) n c) (hy : ρ y = .int .i64 (h : Int)) (hh : h ≤ c) (w : World) : (execOp ρ o).run Tryd.prog w = .ok (.value (.slice (some ⟨b, i, none⟩) h c)) w := by
  have ht : Tryd.prog.underlying 22 = some (.slice (Tryd.prog.elem 22)) := by rw [elem_u8]; exact Tryd.underlying22
  have := slice_to w b i n c h hh
  have h2 := (run_sliceAt_slice (P := Tryd.prog) w 22 (.slice (some ⟨b, i, none⟩) n c) none (some (.int .i64 (h : Int))) none ht).trans this
  simp [execOp, ho, hx, hy, h2]
theorem run_leqI {t u : TypeId} {x y : Operand} {a b : Int} (ho : o.op = .binOp .leq t x y u) (hx : ρ x = .int .i64 a) (hy : ρ y = .int .i64 b) (w : World) : (execOp ρ o).run Tryd.prog w = .ok (.value (.bool (decide (a ≤ b)))) w := by
  simp [execOp, ho, hx, hy, go_sem]
theorem run_convS {x : Operand} {A : Option Addr} {n c : Nat} {xs : List UInt8} (ho : o.op = .convert 22 9 x) (hx : ρ x = .slice A n c) {w : World} {B : Nat} (h : Byt w B A xs) (hn : n = xs.length) : (execOp ρ o).run Tryd.prog w = .ok (.value (.string (txt xs))) w := by
  have := conv_txt (P := Tryd.prog) w Tryd.underlying22 Tryd.underlying5 Tryd.underlying9 h hn c
  simp [execOp, ho, hx, this]
theorem run_eqlS {t u : TypeId} {x y : Operand} {s : ByteArray} (ho : o.op = .binOp .eql t x y u) (hx : ρ x = .string s) (hy : ρ y = .string s) (w : World) : (execOp ρ o).run Tryd.prog w = .ok (.value (.bool true)) w := by
  simp [execOp, ho, hx, hy, go_sem]
end
end Go.Proofs.YtbeknillegkidaaDoor

