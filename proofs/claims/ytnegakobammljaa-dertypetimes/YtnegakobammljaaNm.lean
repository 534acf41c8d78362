/- The package's own tests of contents: any, none, a bool, a number. -/
import Derived.Test.YtnegakobammljaaTr1
namespace Go.Proofs.Ytnegakobammljaa
open Go.RowKit

set_option maxRecDepth 100000 in
theorem isany_any (w : World) (A : Option Addr) (c n : Nat) : Calls Try.prog 34 #[.slice A n c] w fun e w' => e = .returned (.bool true) ∧ w' = w := by
  go_enter Try.func34, Try.ntmps34
  go_wp2_with fail
  go_ret
  exact ⟨rfl, rfl⟩

set_option maxRecDepth 100000 in
theorem isnull_any (w : World) (A : Option Addr) (c n : Nat) : Calls Try.prog 36 #[.slice A n c] w fun e w' => e = .returned (.bool (n == 0)) ∧ w' = w := by
  obtain ⟨r, hr⟩ : ∃ r, ((n : Int) == 0) = r := ⟨_, rfl⟩
  have hr2 : (n == 0) = r := by rw [← hr]; cases n <;> rfl
  rw [hr2]
  clear hr2
  go_enter Try.func36, Try.ntmps36
  go_wp2_with fail
  go_ret
  exact ⟨rfl, rfl⟩

set_option maxRecDepth 100000 in
set_option maxHeartbeats 400000 in
theorem isbool_any (w : World) (A : Option Addr) (c : Nat) (xs : List UInt8) (hb : Byt w w.heap.size A xs) :
    Calls Try.prog 35 #[.slice A xs.length c] w fun e w' => e = .returned (.bool (xs.length == 1 && ((xs.getD 0 0).toNat == 0 || (xs.getD 0 0).toNat == 255))) ∧ w' = w := by
  obtain ⟨L, hL⟩ : ∃ L, xs.length = L := ⟨_, rfl⟩
  by_cases h1 : L = 1
  · subst h1
    obtain ⟨b, o, rfl, -, hc⟩ := hb (by omega)
    obtain ⟨d, hd⟩ : ∃ d, (xs.getD 0 0).toNat = d := ⟨_, rfl⟩
    have hd256 : d < 256 := by rw [← hd]; exact UInt8.toNat_lt _
    have c0 : w.cell? ⟨b, o, none⟩ = some (.int .u8 (d : Int)) := by have := hc 0 (by omega); rw [hd] at this; simpa using this
    rw [hL, hd]
    have f1 : ((d : Int) == 0) = (d == 0) := by cases d <;> rfl
    have f2 : ((d : Int) == 255) = (d == 255) := by
      by_cases h : d = 255
      · subst h; rfl
      · rw [beq_eq_false_iff_ne.2 h]; exact beq_eq_false_iff_ne.2 (by omega)
    obtain ⟨r0, hr0⟩ : ∃ r, (d == 0) = r := ⟨_, rfl⟩
    obtain ⟨r1, hr1⟩ : ∃ r, (d == 255) = r := ⟨_, rfl⟩
    rw [hr0, hr1]
    rw [hr0] at f1
    rw [hr1] at f2
    clear hr0 hr1 hb hc hL hd
    cases r0 <;> cases r1
    all_goals
      go_enter Try.func35, Try.ntmps35
      go_wp2_with fail
      go_ret
      exact ⟨rfl, rfl⟩
  · have hn : (xs.length == 1) = false := by rw [hL]; exact beq_eq_false_iff_ne.2 h1
    have hn' : ((L : Int) == 1) = false := beq_eq_false_iff_ne.2 (by omega)
    rw [hn, hL]
    clear hn hb hL
    go_enter Try.func35, Try.ntmps35
    go_wp2_with fail
    go_ret
    exact ⟨rfl, rfl⟩

set_option maxRecDepth 100000 in
set_option maxHeartbeats 400000 in
theorem isnum_any (w : World) (A : Option Addr) (c : Nat) (xs : List UInt8) (hb : Byt w w.heap.size A xs) :
    Calls Try.prog 26 #[.slice A xs.length c] w fun e w' => e = .returned (.bool (nmB xs)) ∧ w' = w := by
  rcases xs with _ | ⟨x, _ | ⟨y, r⟩⟩
  · go_enter Try.func26, Try.ntmps26
    go_wp2_with fail
    go_ret
    exact ⟨rfl, rfl⟩
  · clear hb
    go_enter Try.func26, Try.ntmps26
    go_wp2_with fail
    go_ret
    exact ⟨rfl, rfl⟩
  · obtain ⟨b, o, rfl, -, hc⟩ := hb (by simp)
    obtain ⟨d, hd⟩ : ∃ d, x.toNat = d := ⟨_, rfl⟩
    obtain ⟨k, hk⟩ : ∃ k, y.toNat = k := ⟨_, rfl⟩
    have c0 : w.cell? ⟨b, o, none⟩ = some (.int .u8 (d : Int)) := by have := hc 0 (by simp); rw [← hd]; simpa using this
    have c1 : w.cell? ⟨b, o + 1, none⟩ = some (.int .u8 (k : Int)) := by have := hc 1 (by simp); rw [← hk]; simpa using this
    obtain ⟨n, hn⟩ : ∃ n, (x :: y :: r).length = n + 2 := ⟨r.length, rfl⟩
    have hnm : nmB (x :: y :: r) = (!(d == 0 && decide (k < 128)) && !(d == 255 && decide (128 ≤ k))) := by rw [← hd, ← hk]; rfl
    have hlt : ¬ ((n + 2 : Nat) : Int) < 2 := by omega
    have hl1 : (1 : Int) < ((n + 2 : Nat) : Int) := by omega
    have hl0 : (0 : Int) < ((n + 2 : Nat) : Int) := by omega
    rw [hn, hnm]
    clear hb hc hd hk hn hnm
    by_cases g0 : d = 0
    · subst g0
      by_cases g1 : k < 128
      · have g1' : ¬ 128 ≤ (k : Int) := by omega
        have HE : (!((0 : Nat) == 0 && decide (k < 128)) && !((0 : Nat) == 255 && decide (128 ≤ k))) = false := by simp [g1]
        rw [HE]
        clear HE g1
        go_enter Try.func26, Try.ntmps26
        go_wp2_with fail
        go_ret
        exact ⟨rfl, rfl⟩
      · have g1' : 128 ≤ (k : Int) := by omega
        have HE : (!((0 : Nat) == 0 && decide (k < 128)) && !((0 : Nat) == 255 && decide (128 ≤ k))) = true := by simp [g1]
        rw [HE]
        clear HE g1
        go_enter Try.func26, Try.ntmps26
        go_wp2_with fail
        go_ret
        exact ⟨rfl, rfl⟩
    · have g0' : ((d : Int) == 0) = false := beq_eq_false_iff_ne.2 (by omega)
      by_cases g2 : d = 255
      · subst g2
        by_cases g1 : k < 128
        · have g1' : (k : Int) < 128 := by omega
          have HE : (!((255 : Nat) == 0 && decide (k < 128)) && !((255 : Nat) == 255 && decide (128 ≤ k))) = true := by simp; omega
          rw [HE]
          clear HE g1 g0 g0'
          go_enter Try.func26, Try.ntmps26
          go_wp2_with fail
          go_ret
          exact ⟨rfl, rfl⟩
        · have g1' : ¬ (k : Int) < 128 := by omega
          have HE : (!((255 : Nat) == 0 && decide (k < 128)) && !((255 : Nat) == 255 && decide (128 ≤ k))) = false := by simp; omega
          rw [HE]
          clear HE g1 g0 g0'
          go_enter Try.func26, Try.ntmps26
          go_wp2_with fail
          go_ret
          exact ⟨rfl, rfl⟩
      · have g2' : ((d : Int) == 255) = false := beq_eq_false_iff_ne.2 (by omega)
        have HE : (!(d == 0 && decide (k < 128)) && !(d == 255 && decide (128 ≤ k))) = true := by rw [beq_eq_false_iff_ne.2 g0, beq_eq_false_iff_ne.2 g2]; rfl
        rw [HE]
        clear HE g0 g2
        go_enter Try.func26, Try.ntmps26
        go_wp2_with fail
        go_ret
        exact ⟨rfl, rfl⟩
end Go.Proofs.Ytnegakobammljaa

