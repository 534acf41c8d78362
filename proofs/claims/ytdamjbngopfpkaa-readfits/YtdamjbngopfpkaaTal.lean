/- Contracts of the tally: New, Spend, Count, Left, whatever the numbers; of no tally. -/
import Derived.Test.YtdamjbngopfpkaaRows
import Derived.Test.YtdamjbngopfpkaaFoot
import Derived.Laws.LoneSync
import Derived.Lib.Hide
import Derived.Deep.QuietTactic
import Derived.BigQuiet
import Derived.IntWalk
namespace Go.Proofs.Ytdamjbngopfpkaa
open Go.RowKit

/-- A tally: at most m, c counted. -/
structure Tal (w : World) (p : Nat) (m c : Int) : Prop where
  whole : Whole w p #[.int .i64 m, .int .i64 c] 58
  least : 0 ≤ c
  most : c ≤ m
  top : m ≤ 9223372036854775807

/-- What Spend answers; what is counted behind it. -/
def spE (m c n : Int) : Int := if n < 0 then 2 else if m - c < n then 12 else 0
def spC (m c n : Int) : Int := if n < 0 then c else if m - c < n then c else c + n
theorem spE_ok {m c n : Int} (h : 0 ≤ n) (k : n ≤ m - c) : spE m c n = 0 := by unfold spE; rw [if_neg (by omega), if_neg (by omega)]
theorem spC_ok {m c n : Int} (h : 0 ≤ n) (k : n ≤ m - c) : spC m c n = c + n := by unfold spC; rw [if_neg (by omega), if_neg (by omega)]
theorem spE_cap {m c n : Int} (h : 0 ≤ n) (k : m - c < n) : spE m c n = 12 := by unfold spE; rw [if_neg (by omega), if_pos k]
theorem spC_cap {m c n : Int} (h : 0 ≤ n) (k : m - c < n) : spC m c n = c := by unfold spC; rw [if_neg (by omega), if_pos k]
theorem spE_arg {m c n : Int} (h : n < 0) : spE m c n = 2 := by unfold spE; rw [if_pos h]
theorem spC_arg {m c n : Int} (h : n < 0) : spC m c n = c := by unfold spC; rw [if_pos h]
theorem spC_bd {m c : Int} (n : Int) (h : 0 ≤ c) (k : c ≤ m) : 0 ≤ spC m c n ∧ spC m c n ≤ m := by
  unfold spC
  split
  · exact ⟨h, k⟩
  · split
    · exact ⟨h, k⟩
    · omega

theorem Tal.fr {w w' : World} {F : Nat → Prop} {p : Nat} {m c : Int} (h : Tal w p m c) (g : Fr w w' F) (hr : ¬ F p) : Tal w' p m c := ⟨h.whole.fr g hr, h.least, h.most, h.top⟩
theorem Tal.grew {w w' : World} {row : Option Nat} {p : Nat} {m c : Int} (h : Tal w p m c) (g : Grew w w' row) (hr : some p ≠ row) : Tal w' p m c := ⟨h.whole.grew g hr, h.least, h.most, h.top⟩
theorem Tal.lt {w : World} {p : Nat} {m c : Int} (h : Tal w p m c) : p < w.heap.size := h.whole.lt
theorem Tal.drewN {w : World} {p : Nat} {m c : Int} (h : Tal w p m c) (n : Nat) : Tal (w.drewN n) p m c := h.grew (grew_drewN (grew_refl w none) n) (by simp)

theorem tnew_neg (w : World) (m : Int) (h : m < 0) :
    Calls Try.prog 10 #[.int .i64 m] w fun e w' => e = .returned (.tuple #[.pointer none, .int .i64 3]) ∧ w = w' := by
  go_enter Try.func10, Try.ntmps10
  go_wp2_with fail
  go_ret2
  exact ⟨rfl, rfl⟩

theorem tnew_ok (w : World) (m : Int) (h : 0 ≤ m) (ht : m ≤ 9223372036854775807) :
    Calls Try.prog 10 #[.int .i64 m] w fun e w' => e = .returned (.tuple #[.pointer (some ⟨w.heap.size, 0, none⟩), .int .i64 0]) ∧ Tal w' w.heap.size m 0 ∧ Grew w w' none := by
  have hd : ¬ m < 0 := by omega
  have HT := Lib.hid ht
  clear ht
  go_enter Try.func10, Try.ntmps10
  go_wp2_with fail
  go_ret2
  exact ⟨rfl, ⟨Whole.new _ _ _, Int.le_refl _, h, HT.out⟩, grew_alloc (grew_refl _ _) _⟩

/-- The atomic number's Load. -/
theorem load64 (w : World) (a : Addr) (x : Int) (hc : w.cell? a = some (.int .i64 x)) :
    Calls Try.prog 29 #[.pointer (some a)] w fun e w' => e = .returned (.int .i64 x) ∧ w = w' := by
  obtain ⟨b, o, s⟩ := a
  obtain rfl : s = none := World.cell?_spot hc
  have hl := run_call_load (P := Try.prog) Try.func38 (by kernel_rfl) (by kernel_rfl) (by kernel_rfl) .i64 (by kernel_rfl) hc
  go_enter Try.func29, Try.ntmps29
  go_wp2_with fail
  go_ret
  exact ⟨rfl, rfl⟩

/-- Its CompareAndSwap, where it hits. -/
theorem cas64 (w : World) (a : Addr) (x y : Int) (hc : w.cell? a = some (.int .i64 x)) (hz : w.frozen? a = false) :
    Calls Try.prog 60 #[.pointer (some a), .int .i64 x, .int .i64 y] w fun e w' => e = .returned (.bool true) ∧ w.setCell a (.int .i64 y) = w' := by
  obtain ⟨b, o, s⟩ := a
  obtain rfl : s = none := World.cell?_spot hc
  have hl := run_call_cas_hit (P := Try.prog) Try.func71 (by kernel_rfl) (by kernel_rfl) (by kernel_rfl) .i64 (by kernel_rfl) (y := y) hc hz
  go_enter Try.func60, Try.ntmps60
  go_wp2_with fail
  go_ret
  exact ⟨rfl, rfl⟩

theorem tspend_nil (w : World) (n : Int) :
    Calls Try.prog 50 #[.pointer none, .int .i64 n] w fun e w' => e = .returned (.int .i64 1) ∧ w = w' := by
  go_enter Try.func50, Try.ntmps50
  go_wp2_with fail
  go_ret
  exact ⟨rfl, rfl⟩
theorem tcount_nil (w : World) :
    Calls Try.prog 13 #[.pointer none] w fun e w' => e = .returned (.int .i64 0) ∧ w = w' := by
  go_enter Try.func13, Try.ntmps13
  go_wp2_with fail
  go_ret
  exact ⟨rfl, rfl⟩
theorem tcount_any (w : World) (p : Nat) (m c : Int) (h : Tal w p m c) :
    Calls Try.prog 13 #[.pointer (some ⟨p, 0, none⟩)] w fun e w' => e = .returned (.int .i64 c) ∧ w = w' := by
  have HC := Lib.hid (h.whole.cell 1)
  have hb : 0 ≤ c := h.least
  have hb2 : c ≤ 9223372036854775807 := Int.le_trans h.most h.top
  clear h
  go_enter Try.func13, Try.ntmps13
  go_wp2_with fail
  refine (load64 w ⟨p, 1, none⟩ c HC.out).mono ?_
  rintro e w1 ⟨rfl, rfl⟩
  go_wp2_with fail
  go_ret
  exact ⟨rfl, rfl⟩

set_option maxHeartbeats 1000000 in
theorem tspend_any (w : World) (p : Nat) (m c : Int) (h : Tal w p m c) (n : Int) (hn : n ≤ 9223372036854775807) :
    Calls Try.prog 50 #[.pointer (some ⟨p, 0, none⟩), .int .i64 n] w fun e w' => e = .returned (.int .i64 (spE m c n)) ∧ Tal w' p m (spC m c n) ∧ Grew w w' (some p) := by
  have hc0 : w.cell? ⟨p, 0, none⟩ = some (.int .i64 m) := h.whole.cell 0
  have b1 : 0 ≤ c := h.least
  have b2 : c ≤ m := h.most
  have b3 : m ≤ 9223372036854775807 := h.top
  have HH := Lib.hid h
  clear h
  by_cases k0 : n < 0
  · rw [spE_arg k0, spC_arg k0]
    go_enter Try.func50, Try.ntmps50
    go_wp2_with fail
    go_ret
    exact ⟨rfl, HH.out, grew_refl _ _⟩
  · have k0' : 0 ≤ n := by omega
    by_cases k1 : m - c < n
    · rw [spE_cap k0' k1, spC_cap k0' k1]
      go_enter Try.func50, Try.ntmps50
      go_wp2_with fail
      go_loopw [4] (fun x wr => x = .int .i64 0 ∧ w = wr) (fun _ _ => 0)
      case atStart => exact ⟨rfl, rfl⟩
      case round =>
        obtain ⟨rfl, rfl⟩ := hrel
        go_wp2_with fail
        refine (load64 w ⟨p, 1, none⟩ c (HH.out.whole.cell 1)).mono ?_
        rintro e w1 ⟨rfl, rfl⟩
        go_wp2_with fail
        go_ret
        exact ⟨rfl, HH.out, grew_refl _ _⟩
    · rw [spE_ok k0' (by omega), spC_ok k0' (by omega)]
      have hs : c + n ≤ m := by omega
      go_enter Try.func50, Try.ntmps50
      go_wp2_with fail
      go_loopw [4] (fun x wr => x = .int .i64 0 ∧ w = wr) (fun _ _ => 0)
      case atStart => exact ⟨rfl, rfl⟩
      case round =>
        obtain ⟨rfl, rfl⟩ := hrel
        go_wp2_with fail
        refine (load64 w ⟨p, 1, none⟩ c (HH.out.whole.cell 1)).mono ?_
        rintro e w1 ⟨rfl, rfl⟩
        go_wp2_with fail
        refine (cas64 w ⟨p, 1, none⟩ c (c + n) (HH.out.whole.cell 1) (HH.out.whole.frozen 1)).mono ?_
        rintro e w1 ⟨rfl, rfl⟩
        go_wp2_with fail
        go_ret
        exact ⟨rfl, ⟨HH.out.whole.set 1 _, by omega, hs, b3⟩, grew_set (grew_refl _ _) _ _ _⟩

end Go.Proofs.Ytdamjbngopfpkaa

