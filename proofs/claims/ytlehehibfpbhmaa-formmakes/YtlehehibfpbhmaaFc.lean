/- Check, Open, Least, Most of any form; the statements' own example. -/
import Derived.Test.YtlehehibfpbhmaaFa
namespace Go.Proofs.Ytlehehibfpbhmaa
open Go.RowKit Fo

theorem val_eq (f : Fo) : f.val = .agg #[.int .i64 f.k, .int .i64 f.s, .int .i64 f.l, .int .i64 f.h, .int .i64 f.t, .slice f.A f.ps.length f.c] := rfl

theorem check_any (w : World) (f : Fo) (hf : f.In w) :
    Calls Try.prog 23 #[f.val] w fun e w' => e = .returned (.int .i64 f.chk) ∧ Grew w w' none := by
  have HD := Lib.hid (fun (w1 : World) (g : Grew w w1 none) => deeper_any f 8 w1 (by omega) (by omega) (hf.grew g))
  have HW := Lib.hid (fun (w1 : World) (g : Grew w w1 none) => wrong_any f w1 (hf.grew g))
  clear hf
  have hC : f.chk = if 8 < f.dep then 14 else f.wrg := rfl
  generalize f.chk = C at *
  rw [val_eq] at *
  by_cases hd : 8 < f.dep
  · rw [if_pos hd] at hC
    have e : decide ((8 : Int) < (f.dep : Int)) = true := by simp; omega
    rw [e] at HD
    subst hC
    clear e hd
    go_enter Try.func23, Try.ntmps23
    go_wp2_with fail
    refine (HD.out _ (grew_alloc (grew_refl _ _) _)).mono ?_
    rintro e w1 ⟨rfl, g1⟩
    go_wp2_with fail
    go_ret
    exact ⟨rfl, grew_trans (grew_alloc (grew_refl _ _) _) g1⟩
  · rw [if_neg hd] at hC
    have e : decide ((8 : Int) < (f.dep : Int)) = false := by simp; omega
    rw [e] at HD
    subst hC
    clear e hd
    go_enter Try.func23, Try.ntmps23
    go_wp2_with fail
    refine (HD.out _ (grew_alloc (grew_refl _ _) _)).mono ?_
    rintro e w1 ⟨rfl, g1⟩
    have hw1 := (Whole.new w #[.int .i64 f.k, .int .i64 f.s, .int .i64 f.l, .int .i64 f.h, .int .i64 f.t, .slice f.A f.ps.length f.c] 24).grew g1 (by simp)
    obtain ⟨c0, c1, c2, c3, c4, c5⟩ := hw1.six
    have HG := Lib.hid (grew_trans (grew_alloc (grew_refl w none) _) g1)
    clear hw1 g1
    go_wp2_with fail
    refine (HW.out _ HG.out).mono ?_
    rintro e w2 ⟨rfl, g2⟩
    go_wp2_with fail
    go_ret
    exact ⟨rfl, grew_trans HG.out g2⟩

/-- What Open tells. -/
def openV (f : Fo) : Bool := if f.chk = 0 then f.opn else false
theorem opens_any (w : World) (f : Fo) (hf : f.In w) :
    Calls Try.prog 20 #[f.val] w fun e w' => e = .returned (.bool (openV f)) ∧ Grew w w' none := by
  have HD := Lib.hid (fun (w1 : World) (g : Grew w w1 none) => check_any w1 f (hf.grew g))
  have HW := Lib.hid (fun (w1 : World) (g : Grew w w1 none) => open_any f w1 (hf.grew g))
  clear hf
  have hC : openV f = if f.chk = 0 then f.opn else false := rfl
  generalize openV f = C at *
  rw [val_eq] at *
  by_cases hd : f.chk = 0
  · rw [if_pos hd] at hC
    rw [hd] at HD
    subst hC
    clear hd
    generalize f.opn = R at *
    go_enter Try.func20, Try.ntmps20
    go_wp2_with fail
    refine (HD.out _ (grew_alloc (grew_refl _ _) _)).mono ?_
    rintro e w1 ⟨rfl, g1⟩
    have hw1 := (Whole.new w #[.int .i64 f.k, .int .i64 f.s, .int .i64 f.l, .int .i64 f.h, .int .i64 f.t, .slice f.A f.ps.length f.c] 24).grew g1 (by simp)
    obtain ⟨c0, c1, c2, c3, c4, c5⟩ := hw1.six
    have HG := Lib.hid (grew_trans (grew_alloc (grew_refl w none) _) g1)
    clear hw1 g1
    go_wp2_with fail
    refine (HW.out _ HG.out).mono ?_
    rintro e w2 ⟨rfl, g2⟩
    go_wp2_with fail
    go_ret
    exact ⟨rfl, grew_trans HG.out g2⟩
  · rw [if_neg hd] at hC
    have hb := ne_beq hd
    subst hC
    generalize f.chk = K at *
    clear hd
    go_enter Try.func20, Try.ntmps20
    go_wp2_with fail
    refine (HD.out _ (grew_alloc (grew_refl _ _) _)).mono ?_
    rintro e w1 ⟨rfl, g1⟩
    go_wp2_with fail
    go_ret
    exact ⟨rfl, grew_trans (grew_alloc (grew_refl _ _) _) g1⟩

/-- What Least tells. -/
def leastV (f : Fo) : Int := if f.chk = 0 then f.len false else 0
theorem least_any (w : World) (f : Fo) (hf : f.In w) :
    Calls Try.prog 21 #[f.val] w fun e w' => e = .returned (.int .i64 (leastV f)) ∧ Grew w w' none := by
  have HD := Lib.hid (fun (w1 : World) (g : Grew w w1 none) => check_any w1 f (hf.grew g))
  have HW := Lib.hid (fun (w1 : World) (g : Grew w w1 none) => length_low f w1 (hf.grew g))
  clear hf
  have hC : leastV f = if f.chk = 0 then f.len false else 0 := rfl
  generalize leastV f = C at *
  rw [val_eq] at *
  by_cases hd : f.chk = 0
  · rw [if_pos hd] at hC
    rw [hd] at HD
    subst hC
    clear hd
    generalize f.len false = R at *
    go_enter Try.func21, Try.ntmps21
    go_wp2_with fail
    refine (HD.out _ (grew_alloc (grew_refl _ _) _)).mono ?_
    rintro e w1 ⟨rfl, g1⟩
    have hw1 := (Whole.new w #[.int .i64 f.k, .int .i64 f.s, .int .i64 f.l, .int .i64 f.h, .int .i64 f.t, .slice f.A f.ps.length f.c] 24).grew g1 (by simp)
    obtain ⟨c0, c1, c2, c3, c4, c5⟩ := hw1.six
    have HG := Lib.hid (grew_trans (grew_alloc (grew_refl w none) _) g1)
    clear hw1 g1
    go_wp2_with fail
    refine (HW.out _ HG.out).mono ?_
    rintro e w2 ⟨rfl, g2⟩
    go_wp2_with fail
    go_ret
    exact ⟨rfl, grew_trans HG.out g2⟩
  · rw [if_neg hd] at hC
    have hb := ne_beq hd
    subst hC
    generalize f.chk = K at *
    clear hd
    go_enter Try.func21, Try.ntmps21
    go_wp2_with fail
    refine (HD.out _ (grew_alloc (grew_refl _ _) _)).mono ?_
    rintro e w1 ⟨rfl, g1⟩
    go_wp2_with fail
    go_ret
    exact ⟨rfl, grew_trans (grew_alloc (grew_refl _ _) _) g1⟩

/-- What Most tells. -/
def mostV (f : Fo) : Int := if f.chk = 0 then f.len true else 0
theorem most_any (w : World) (f : Fo) (hf : f.In w) :
    Calls Try.prog 22 #[f.val] w fun e w' => e = .returned (.int .i64 (mostV f)) ∧ Grew w w' none := by
  have HD := Lib.hid (fun (w1 : World) (g : Grew w w1 none) => check_any w1 f (hf.grew g))
  have HW := Lib.hid (fun (w1 : World) (g : Grew w w1 none) => length_high f w1 (hf.grew g))
  clear hf
  have hC : mostV f = if f.chk = 0 then f.len true else 0 := rfl
  generalize mostV f = C at *
  rw [val_eq] at *
  by_cases hd : f.chk = 0
  · rw [if_pos hd] at hC
    rw [hd] at HD
    subst hC
    clear hd
    generalize f.len true = R at *
    go_enter Try.func22, Try.ntmps22
    go_wp2_with fail
    refine (HD.out _ (grew_alloc (grew_refl _ _) _)).mono ?_
    rintro e w1 ⟨rfl, g1⟩
    have hw1 := (Whole.new w #[.int .i64 f.k, .int .i64 f.s, .int .i64 f.l, .int .i64 f.h, .int .i64 f.t, .slice f.A f.ps.length f.c] 24).grew g1 (by simp)
    obtain ⟨c0, c1, c2, c3, c4, c5⟩ := hw1.six
    have HG := Lib.hid (grew_trans (grew_alloc (grew_refl w none) _) g1)
    clear hw1 g1
    go_wp2_with fail
    refine (HW.out _ HG.out).mono ?_
    rintro e w2 ⟨rfl, g2⟩
    go_wp2_with fail
    go_ret
    exact ⟨rfl, grew_trans HG.out g2⟩
  · rw [if_neg hd] at hC
    have hb := ne_beq hd
    subst hC
    generalize f.chk = K at *
    clear hd
    go_enter Try.func22, Try.ntmps22
    go_wp2_with fail
    refine (HD.out _ (grew_alloc (grew_refl _ _) _)).mono ?_
    rintro e w1 ⟨rfl, g1⟩
    go_wp2_with fail
    go_ret
    exact ⟨rfl, grew_trans (grew_alloc (grew_refl _ _) _) g1⟩

/-- The example's form. -/
theorem ex_chk (A : Option Addr) (c : Nat) : chk (.mk 2 2 2 65534 2 A c [.mk 0 2 0 0 0 none 0 []]) = 0 := by kernel_rfl
theorem ex_least (A : Option Addr) (c : Nat) : leastV (.mk 2 2 2 65534 2 A c [.mk 0 2 0 0 0 none 0 []]) = 4 := by kernel_rfl
theorem ex_most (A : Option Addr) (c : Nat) : mostV (.mk 2 2 2 65534 2 A c [.mk 0 2 0 0 0 none 0 []]) = 65536 := by kernel_rfl
theorem ex_none (A : Option Addr) (c : Nat) : chk (.mk 2 1 0 9 1 A c [.mk 5 0 0 0 0 none 0 []]) = 15 := by kernel_rfl
theorem plain_in (w : World) (k s l h t : Int) : In w (.mk k s l h t none 0 []) := .mk (by simp) (by simp) (Lie.nil _ _) (fun p hp => by simp at hp)

set_option maxHeartbeats 2000000 in
theorem alive4_any (w : World) :
    Calls Try.prog 8 #[] w fun e w' => e = .returned (.bool true) ∧ Grew w w' none := by
  go_enter Try.func8, Try.ntmps8
  go_wp2_with fail
  refine (number_any w 2).mono ?_
  rintro e w1 ⟨rfl, g1⟩
  go_wp2_with fail
  refine (list_any w1 2 2 65534 2 (.mk 0 2 0 0 0 none 0 []) (plain_in _ _ _ _ _ _)).mono ?_
  rintro e w2 ⟨A, c, rfl, h2, g2, _⟩
  have HG := Lib.hid (grew_alloc (grew_trans g1 g2) (.cells #[.int .i64 2, .int .i64 2, .int .i64 2, .int .i64 65534, .int .i64 2, .slice A 1 c] 24))
  have HI := Lib.hid (h2.grew (grew_alloc (grew_refl w2 none) (.cells #[.int .i64 2, .int .i64 2, .int .i64 2, .int .i64 65534, .int .i64 2, .slice A 1 c] 24)))
  have HW := Lib.hid (Whole.new w2 #[.int .i64 2, .int .i64 2, .int .i64 2, .int .i64 65534, .int .i64 2, .slice A 1 c] 24)
  clear g1 g2 h2
  change Hid (Whole (w2.alloc (.cells #[.int .i64 2, .int .i64 2, .int .i64 2, .int .i64 65534, .int .i64 2, .slice A 1 c] 24)) w2.heap.size _ _) at HW
  rw [val_eq]
  simp only [Fo.k, Fo.s, Fo.l, Fo.h, Fo.t, Fo.A, Fo.c, Fo.ps, List.length_singleton]
  go_wp2_with fail
  generalize w2.alloc (.cells #[.int .i64 2, .int .i64 2, .int .i64 2, .int .i64 65534, .int .i64 2, .slice A 1 c] 24) = W at *
  generalize w2.heap.size = q at *
  refine (check_any W (.mk 2 2 2 65534 2 A c [.mk 0 2 0 0 0 none 0 []]) HI.out).mono ?_
  rintro e w3 ⟨rfl, g3⟩
  rw [ex_chk]
  obtain ⟨c0, c1, c2, c3, c4, c5⟩ := (HW.out.grew g3 (by simp)).six
  have HW3 := Lib.hid (HW.out.grew g3 (by simp))
  have HG3 := Lib.hid (grew_trans HG.out g3)
  have HI3 := Lib.hid (HI.out.grew g3)
  clear HW HG HI g3
  go_wp2_with fail
  refine (least_any w3 (.mk 2 2 2 65534 2 A c [.mk 0 2 0 0 0 none 0 []]) HI3.out).mono ?_
  rintro e w4 ⟨rfl, g4⟩
  rw [ex_least]
  obtain ⟨d0, d1, d2, d3, d4, d5⟩ := (HW3.out.grew g4 (by simp)).six
  have HG4 := Lib.hid (grew_trans HG3.out g4)
  have HI4 := Lib.hid (HI3.out.grew g4)
  clear HW3 HG3 HI3 g4 c0 c1 c2 c3 c4 c5
  go_wp2_with fail
  refine (most_any w4 (.mk 2 2 2 65534 2 A c [.mk 0 2 0 0 0 none 0 []]) HI4.out).mono ?_
  rintro e w5 ⟨rfl, g5⟩
  rw [ex_most]
  have HG5 := Lib.hid (grew_trans HG4.out g5)
  clear g5 d0 d1 d2 d3 d4 d5 HG4 HI4
  go_wp2_with fail
  refine (fixed_any w5 0).mono ?_
  rintro e w6 ⟨rfl, g6⟩
  have HG6 := Lib.hid (grew_trans HG5.out g6)
  clear g6 HG5
  go_wp2_with fail
  refine (list_any w6 1 0 9 1 (.mk 5 0 0 0 0 none 0 []) (plain_in _ _ _ _ _ _)).mono ?_
  rintro e w7 ⟨A', c', rfl, h7, g7, _⟩
  have HG7 := Lib.hid (grew_trans HG6.out g7)
  have HI7 := Lib.hid h7
  clear g7 HG6 h7
  go_wp2_with fail
  refine (check_any w7 (.mk 2 1 0 9 1 A' c' [.mk 5 0 0 0 0 none 0 []]) HI7.out).mono ?_
  rintro e w8 ⟨rfl, g8⟩
  rw [ex_none]
  have HG8 := Lib.hid (grew_trans HG7.out g8)
  clear g8
  go_wp2_with fail
  go_ret
  exact ⟨rfl, HG8.out⟩

end Go.Proofs.Ytlehehibfpbhmaa

