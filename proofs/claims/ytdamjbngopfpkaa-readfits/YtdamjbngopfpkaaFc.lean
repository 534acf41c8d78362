/- Check, Open, Least, Most of any form; the statements' own example. -/
import Derived.Test.YtdamjbngopfpkaaFa
namespace Go.Proofs.Ytdamjbngopfpkaa
open Go.RowKit Fo

theorem val_eq (f : Fo) : f.val = .agg #[.int .i64 f.k, .int .i64 f.s, .int .i64 f.l, .int .i64 f.h, .int .i64 f.t, .slice f.A f.ps.length f.c] := rfl

theorem check_any (w : World) (f : Fo) (hf : f.In w) :
    Calls Try.prog 35 #[f.val] w fun e w' => e = .returned (.int .i64 f.chk) ∧ Grew w w' none := by
  have HD := Lib.hid (fun (w1 : World) (g : Grew w w1 none) => deeper_any f 8 w1 (by omega) (by omega) (hf.grew g))
  have HW := Lib.hid (fun (w1 : World) (g : Grew w w1 none) => wrong_any f w1 (hf.grew g))
  clear hf
  have hC : f.chk = if 8 < f.dep then 14 else f.wrg := rfl
  generalize f.chk = C at *
  rw [val_eq] at *
  by_cases hd : 8 < f.dep
  · rw [if_pos hd] at hC
    have e : decide ((8 : Int) < (f.dep : Int)) = true := by simp; omega
    rw [e] at HD
    subst hC
    clear e hd
    go_enter Try.func35, Try.ntmps35
    go_wp2_with fail
    refine (HD.out _ (grew_alloc (grew_refl _ _) _)).mono ?_
    rintro e w1 ⟨rfl, g1⟩
    go_wp2_with fail
    go_ret
    exact ⟨rfl, grew_trans (grew_alloc (grew_refl _ _) _) g1⟩
  · rw [if_neg hd] at hC
    have e : decide ((8 : Int) < (f.dep : Int)) = false := by simp; omega
    rw [e] at HD
    subst hC
    clear e hd
    go_enter Try.func35, Try.ntmps35
    go_wp2_with fail
    refine (HD.out _ (grew_alloc (grew_refl _ _) _)).mono ?_
    rintro e w1 ⟨rfl, g1⟩
    have hw1 := (Whole.new w #[.int .i64 f.k, .int .i64 f.s, .int .i64 f.l, .int .i64 f.h, .int .i64 f.t, .slice f.A f.ps.length f.c] 24).grew g1 (by simp)
    obtain ⟨c0, c1, c2, c3, c4, c5⟩ := hw1.six
    have HG := Lib.hid (grew_trans (grew_alloc (grew_refl w none) _) g1)
    clear hw1 g1
    go_wp2_with fail
    refine (HW.out _ HG.out).mono ?_
    rintro e w2 ⟨rfl, g2⟩
    go_wp2_with fail
    go_ret
    exact ⟨rfl, grew_trans HG.out g2⟩

/-- What Open tells. -/
def openV (f : Fo) : Bool := if f.chk = 0 then f.opn else false
/-- What Least tells. -/
def leastV (f : Fo) : Int := if f.chk = 0 then f.len false else 0
/-- What Most tells. -/
def mostV (f : Fo) : Int := if f.chk = 0 then f.len true else 0
/-- The example's form. -/
theorem ex_chk (A : Option Addr) (c : Nat) : chk (.mk 2 2 2 65534 2 A c [.mk 0 2 0 0 0 none 0 []]) = 0 := by kernel_rfl
theorem ex_least (A : Option Addr) (c : Nat) : leastV (.mk 2 2 2 65534 2 A c [.mk 0 2 0 0 0 none 0 []]) = 4 := by kernel_rfl
theorem ex_most (A : Option Addr) (c : Nat) : mostV (.mk 2 2 2 65534 2 A c [.mk 0 2 0 0 0 none 0 []]) = 65536 := by kernel_rfl
theorem ex_none (A : Option Addr) (c : Nat) : chk (.mk 2 1 0 9 1 A c [.mk 5 0 0 0 0 none 0 []]) = 15 := by kernel_rfl
theorem plain_in (w : World) (k s l h t : Int) : In w (.mk k s l h t none 0 []) := .mk (by simp) (by simp) (Lie.nil _ _) (fun p hp => by simp at hp)

end Go.Proofs.Ytdamjbngopfpkaa

