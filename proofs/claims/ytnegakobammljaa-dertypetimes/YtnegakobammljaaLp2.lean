/- Numbers of an identifier, laid seven bits a byte, are told as they are (of plain lists). -/
import Derived.Test.YtnegakobammljaaTl3
namespace Go.Proofs.Ytnegakobammljaa
open Go.RowKit

theorem sv_nat (x : Nat) : (sv x).toNat = x % 128 := by unfold sv; simp; omega
theorem sw_nat (x : Nat) : (sw x).toNat = x % 128 + 128 := by unfold sw; simp; omega
/-- What the bytes of a number are, wherever the laying of them stands. -/
theorem lay_inv (x : Nat) (hx : x < 9223372036854775808) : ∀ (k y : Nat) (acc : List UInt8), y < 128 ^ k → y ≤ x →
    (∀ out rest, arF y out (acc ++ rest) = arF 0 (out ++ (if out = [] then arH x else [x])) rest) → (∀ rest, obF false (acc ++ rest) = obF true rest) → (∃ c t, acc = c :: t ∧ (y = 0 → c.toNat ≠ 128)) →
    (∀ out rest, arF 0 out (layF k y acc ++ rest) = arF 0 (out ++ (if out = [] then arH x else [x])) rest) ∧ (∀ rest, obF true (layF k y acc ++ rest) = obF true rest) ∧ 0 < (layF k y acc).length := by
  intro k
  induction k with
  | zero =>
    intro y acc hy hyx h1 h2 h3
    obtain rfl : y = 0 := by simp at hy; exact hy
    obtain ⟨c, t, rfl, hc⟩ := h3
    refine ⟨h1, fun rest => ?_, by simp [layF]⟩
    have := h2 rest
    show (if (true && c.toNat == 128) = true then false else obF (decide (c.toNat < 128)) (t ++ rest)) = _
    rw [if_neg (by have := hc rfl; simpa using this)]
    exact this
  | succ k ih =>
    intro y acc hy hyx h1 h2 h3
    by_cases g : 0 < y
    · have e : layF (k + 1) y acc = layF k (y / 128) (sw y :: acc) := by show (if 0 < y then _ else _) = _; rw [if_pos g]
      rw [e]
      rw [Nat.pow_succ] at hy
      refine ih (y / 128) (sw y :: acc) (by omega) (by omega) (fun out rest => ?_) (fun rest => ?_) ⟨sw y, acc, rfl, fun h0 => by rw [sw_nat]; omega⟩
      · show (if 72057594037927936 ≤ y / 128 then none else if 128 ≤ (sw y).toNat then arF (128 * (y / 128) + (sw y).toNat % 128) out (acc ++ rest) else _) = _
        rw [sw_nat, if_neg (by omega), if_pos (by omega), show 128 * (y / 128) + (y % 128 + 128) % 128 = y by omega]
        exact h1 out rest
      · show (if (false && (sw y).toNat == 128) = true then false else obF (decide ((sw y).toNat < 128)) (acc ++ rest)) = _
        rw [if_neg (by simp), sw_nat, decide_eq_false (by omega)]
        exact h2 rest
    · obtain rfl : y = 0 := by omega
      have e : layF (k + 1) 0 acc = acc := by show (if 0 < 0 then _ else _) = _; rw [if_neg (by omega)]
      rw [e]
      obtain ⟨c, t, rfl, hc⟩ := h3
      refine ⟨h1, fun rest => ?_, by simp⟩
      have := h2 rest
      show (if (true && c.toNat == 128) = true then false else obF (decide (c.toNat < 128)) (t ++ rest)) = _
      rw [if_neg (by have := hc rfl; simpa using this)]
      exact this
theorem lay_all (x : Nat) (hx : x < 9223372036854775808) : (∀ out rest, arF 0 out (layN x ++ rest) = arF 0 (out ++ (if out = [] then arH x else [x])) rest) ∧ (∀ rest, obF true (layN x ++ rest) = obF true rest) ∧ 0 < (layN x).length := by
  refine lay_inv x hx 9 (x / 128) [sv x] (by rw [show 128 ^ 9 = 9223372036854775808 by decide]; omega) (by omega) (fun out rest => ?_) (fun rest => ?_) ⟨sv x, [], rfl, fun _ => by rw [sv_nat]; omega⟩
  · show (if 72057594037927936 ≤ x / 128 then none else if 128 ≤ (sv x).toNat then _ else arF 0 (out ++ (if out = [] then arH (128 * (x / 128) + (sv x).toNat % 128) else [128 * (x / 128) + (sv x).toNat % 128])) ([] ++ rest)) = _
    rw [sv_nat, if_neg (by omega), if_neg (by omega), show 128 * (x / 128) + x % 128 % 128 = x by omega]
    rfl
  · show (if (false && (sv x).toNat == 128) = true then false else obF (decide ((sv x).toNat < 128)) ([] ++ rest)) = _
    rw [if_neg (by simp), sv_nat, decide_eq_true (by omega)]
    rfl
/-- Numbers one behind the other. -/
theorem lay_list (out : List Nat) (ho : out ≠ []) : ∀ ls : List Nat, (∀ x ∈ ls, x < 9223372036854775808) → arF 0 out (ls.flatMap layN) = some (out ++ ls) ∧ obF true (ls.flatMap layN) = true := by
  intro ls
  induction ls generalizing out with
  | nil => intro _; exact ⟨by simp [arF], rfl⟩
  | cons x ls ih =>
    intro h
    obtain ⟨a1, a2, _⟩ := lay_all x (h x (List.mem_cons_self))
    have hi := ih (out ++ [x]) (by simp) (fun y hy => h y (List.mem_cons_of_mem _ hy))
    rw [List.flatMap_cons, a1, a2, if_neg ho]
    exact ⟨by rw [hi.1]; simp, hi.2⟩
/-- An identifier of numbers: the first two, and more. -/
theorem arcs_laid (a b : Nat) (ls : List Nat) (hab : (a = 0 ∧ b < 40) ∨ (a = 1 ∧ b < 40) ∨ (a = 2 ∧ b < 256)) (hl : ∀ x ∈ ls, x < 9223372036854775808) :
    arE (layN (40 * a + b) ++ ls.flatMap layN) = 0 ∧ arR (layN (40 * a + b) ++ ls.flatMap layN) = a :: b :: ls := by
  obtain ⟨a1, a2, a3⟩ := lay_all (40 * a + b) (by omega)
  have hh : arH (40 * a + b) = [a, b] := by
    unfold arH
    rcases hab with ⟨rfl, h⟩ | ⟨rfl, h⟩ | ⟨rfl, h⟩
    · rw [if_pos (by omega)]; simp
    · rw [if_neg (by omega), if_pos (by omega)]; simp
    · rw [if_neg (by omega), if_neg (by omega)]; simp
  obtain ⟨b1, b2⟩ := lay_list [a, b] (by simp) ls hl
  have e1 : arF 0 [] (layN (40 * a + b) ++ ls.flatMap layN) = some (a :: b :: ls) := by
    rw [a1, if_pos rfl, hh]
    exact b1
  have e2 : ob (layN (40 * a + b) ++ ls.flatMap layN) = true := by
    unfold ob
    rw [a2, b2]
    cases h : layN (40 * a + b) with
    | nil => rw [h] at a3; simp at a3
    | cons c t => rfl
  have e3 : arE (layN (40 * a + b) ++ ls.flatMap layN) = 0 := by unfold arE; rw [e2, e1]; rfl
  exact ⟨e3, by unfold arR; rw [e3, e1]; rfl⟩
theorem arcs_wrong (xs : List UInt8) : arE (128 :: xs) = 13 := by
  have : ob (128 :: xs) = false := rfl
  unfold arE
  rw [this]
  rfl
theorem btF_mod : ∀ (k n : Nat), btF k n = decide (n % 2 ^ k = 0) := by
  intro k
  induction k with
  | zero => intro n; simp [btF, Nat.mod_one]
  | succ k ih =>
    intro n
    unfold btF
    rw [ih, Nat.pow_succ, Nat.mul_comm (2 ^ k) 2, Nat.mod_mul]
    by_cases h : n % 2 = 1
    · rw [if_pos (by simpa using h), decide_eq_false (by omega)]
    · rw [if_neg (by simpa using h)]
      have h0 : n % 2 = 0 := by omega
      rw [h0]
      simp
      omega
end Go.Proofs.Ytnegakobammljaa

