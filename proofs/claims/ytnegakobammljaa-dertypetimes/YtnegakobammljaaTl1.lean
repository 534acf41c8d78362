/- What the laws of layer 10 are made of: are they the same numbers; two digits. -/
import Derived.Test.YtnegakobammljaaTr7
import Derived.BigQuiet
import Derived.Deep.QuietTactic
namespace Go.Proofs.Ytnegakobammljaa
open Go.RowKit

/-- Numbers at a list's memory. -/
def R64 (w : World) (B : Nat) (A : Option Addr) (ns : List Nat) : Prop :=
  0 < ns.length → ∃ b o, A = some ⟨b, o, none⟩ ∧ b < B ∧ ∀ i, i < ns.length → w.cell? ⟨b, o + i, none⟩ = some (.int .u64 ((ns.getD i 0 : Nat) : Int))
theorem R64.below {w w' : World} {B n : Nat} {A : Option Addr} {ns : List Nat} (h : R64 w B A ns) (b : Below n w w') (hn : B ≤ n) : R64 w' B A ns := by
  intro hx
  obtain ⟨p, o, rfl, hp, hc⟩ := h hx
  exact ⟨p, o, rfl, hp, fun i hi => (b.cell (p := ⟨p, o + i, none⟩) (Nat.lt_of_lt_of_le hp hn)).trans (hc i hi)⟩
theorem R64.own {w : World} {A : Option Addr} {n c : Nat} {ns : List Nat} (h : w.ownsRow 0 47 1 (.slice A n c) n (cells64 ns)) : R64 w w.heap.size A ns := by
  intro hn
  have hl := h.1
  rw [cells64_length] at hl
  rcases h.2 with ⟨h0, h1⟩ | ⟨b, cap, cur, hv, _, hh, hnc, _, hsz, ht⟩
  · omega
  · injection hv with hA _ _
    subst hA
    have hW : Whole w b cur 47 := hh
    refine ⟨b, 0, rfl, hW.lt, fun i hi => ?_⟩
    rw [hW.cell, Nat.zero_add, ← Array.getElem?_toList]
    have : (cur.toList.take (n * 1))[i]? = (cells64 ns)[i]? := by rw [ht]
    rw [List.getElem?_take_of_lt (by omega)] at this
    rw [this]
    simp [cells64, List.getD_eq_getElem?_getD, List.getElem?_eq_getElem hi]

set_option maxRecDepth 100000 in
set_option maxHeartbeats 1000000 in
theorem same_yes (w : World) (A B : Option Addr) (c d : Nat) (ns : List Nat) (ha : R64 w w.heap.size A ns) (hb : R64 w w.heap.size B ns) (hl : ns.length ≤ 1099511627777) :
    Calls Try.prog 16 #[.slice A ns.length c, .slice B ns.length d] w fun e w' => e = .returned (.bool true) ∧ Below w.heap.size w w' := by
  obtain ⟨L, hL⟩ : ∃ L, ns.length = L := ⟨_, rfl⟩
  rw [hL] at hl ⊢
  have HA := Lib.hid ha
  have HB := Lib.hid hb
  have HL := Lib.hid hL
  have HC := Lib.hid hl
  clear ha hb hL hl
  go_enter Try.func16, Try.ntmps16
  go_wp2_with fail
  go_loopw [13] (fun i wr => ∃ j m : Nat, j ≤ L ∧ i = .int .i64 j ∧ wr = w.drewN m) (fun i _ => L - (intOf i).toNat)
  case atStart => exact ⟨0, 0, Nat.zero_le _, rfl, rfl⟩
  case round =>
    obtain ⟨j, m, hj, rfl, hwr⟩ := hrel
    by_cases hlt : j < L
    · obtain ⟨b, o, rfl, -, hc⟩ := HA.out (by rw [HL.out]; omega)
      obtain ⟨b', o', rfl, -, hc'⟩ := HB.out (by rw [HL.out]; omega)
      obtain ⟨x, hx⟩ : ∃ x, ns.getD j 0 = x := ⟨_, rfl⟩
      have c1 : wr.cell? ⟨b, o + j, none⟩ = some (.int .u64 (x : Int)) := by rw [hwr, ← hx]; exact hc j (by rw [HL.out]; exact hlt)
      have c2 : wr.cell? ⟨b', o' + j, none⟩ = some (.int .u64 (x : Int)) := by rw [hwr, ← hx]; exact hc' j (by rw [HL.out]; exact hlt)
      have hjI : (j : Int) ≤ 1099511627777 := by have := HC.out; omega
      have HW := Lib.hid hwr
      clear hc hc' hx hwr
      go_wp2_with fail
      go_quiet (fail)
      go_wp2_with fail
      go_roundw
      case rel => exact ⟨j + 1, m + nq, hlt, rfl, by rw [HW.out]; simp [World.drewN, Nat.add_assoc]⟩
      case measure => simp [intOf]; omega
    · obtain rfl : j = L := by omega
      have HW := Lib.hid hwr
      clear hwr
      go_wp2_with fail
      go_ret
      refine ⟨rfl, ?_⟩
      rw [HW.out]
      exact ⟨rfl, rfl, rfl, Nat.le_refl _, fun _ _ => rfl⟩

/-- Two digits. -/
def tw (n : Int) : List UInt8 := [.ofNat (48 + n / 10 % 10).toNat, .ofNat (48 + n % 10).toNat]
set_option maxRecDepth 100000 in
set_option maxHeartbeats 1000000 in
theorem two_any (w : World) (n : Nat) (hn : n ≤ 99999) : Calls Try.prog 21 #[.int .i64 (n : Int)] w fun e w' => e = .returned (.string (txt (tw n))) ∧ Below w.heap.size w w' := by
  have w1 : wrap64 ((n : Int) / 10) = (n : Int) / 10 := IntWalk.wrap64_in _ (by omega)
  have t1 : ((n : Int) / 10).tmod 10 = (n : Int) / 10 % 10 := Int.tmod_eq_emod_of_nonneg (by clear w1; omega)
  have w2 : wrap64 (48 + (n : Int) / 10 % 10) = 48 + (n : Int) / 10 % 10 := IntWalk.wrap64_in _ (by clear w1 t1; omega)
  have m1 : (48 + (n : Int) / 10 % 10) % 256 = 48 + (n : Int) / 10 % 10 := by clear w1 t1 w2; omega
  have hcv := conv_txt (P := Try.prog) (w.alloc (.cells #[.int .u8 (48 + (n : Int) / 10 % 10), .int .u8 (48 + (n : Int) % 10)] 5)) Try.underlying22 Try.underlying5 Try.underlying9 (B := w.heap.size + 1) (A := some ⟨w.heap.size, 0, none⟩) (xs := tw n) (n := 2) (by
    intro _
    refine ⟨w.heap.size, 0, rfl, by omega, fun i hi => ?_⟩
    have hw := Whole.new w #[.int .u8 (48 + (n : Int) / 10 % 10), .int .u8 (48 + (n : Int) % 10)] 5
    rw [hw.cell, Nat.zero_add]
    have hi2 : i < 2 := hi
    have e1 : ((UInt8.ofNat (48 + (n : Int) / 10 % 10).toNat).toNat : Int) = 48 + (n : Int) / 10 % 10 := by clear w1 t1 w2 m1 hw; simp; omega
    have e2 : ((UInt8.ofNat (48 + (n : Int) % 10).toNat).toNat : Int) = 48 + (n : Int) % 10 := by clear w1 t1 w2 m1 hw e1; simp; omega
    match i, hi2 with
    | 0, _ => show some _ = some (Value.int .u8 ((UInt8.ofNat (48 + (n : Int) / 10 % 10).toNat).toNat : Int)); rw [e1]; rfl
    | 1, _ => show some _ = some (Value.int .u8 ((UInt8.ofNat (48 + (n : Int) % 10).toNat).toNat : Int)); rw [e2]; rfl) rfl 2
  have hB := (Below.refl _ w).alloc (Nat.le_refl _) (.cells #[.int .u8 (48 + (n : Int) / 10 % 10), .int .u8 (48 + (n : Int) % 10)] 5)
  have HBB := Lib.hid hB
  clear hn hB
  go_enter Try.func21, Try.ntmps21
  go_wp2_with fail
  go_ret
  exact ⟨rfl, HBB.out⟩
end Go.Proofs.Ytnegakobammljaa

