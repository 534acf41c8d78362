/- A date and a time of day are told as they were written, both ways; too many days, hours, minutes, seconds aren't: the law returns true. -/
import Derived.Test.YtnegakobammljaaTv
import Derived.Test.YtnegakobammljaaLp3
import Derived.Test.YtnegakobammljaaLp4
import Derived.Test.YtnegakobammljaaOpen
import Derived.Lib.ConvBytes
import Derived.Deep.RegionHeld3
namespace Go.Proofs.Ytnegakobammljaa
open Go.ChangeShapes Go.WideShapes Go.ChangeAt Go.RowKit

/-- '[]byte(s)'. -/
theorem conv_bytes (w : World) (xs : List UInt8) : ∃ (A : Option Addr) (c : Nat) (w' : World), (convert 9 22 (.string (txt xs))).run Try.prog w = .ok (.slice A xs.length c) w' ∧ Byt w' w'.heap.size A xs ∧ xs.length ≤ c ∧ Below w.heap.size w w' := by
  have hr := Lib.run_convert_string_bytes (P := Try.prog) w 9 22 5 (txt xs) Try.underlying9 Try.underlying22 Try.underlying5
  rw [txt_size] at hr
  refine ⟨_, _, _, hr, fun _ => ⟨w.heap.size, 0, rfl, by rw [Lib.bytesWorld_size]; omega, fun i hi => ?_⟩, ?_, ⟨rfl, rfl, rfl, by rw [Lib.bytesWorld_size]; omega, fun k hk => Lib.bytesWorld_at_old w _ _ k hk⟩⟩
  · have := Lib.bytesWorld_cell w 5 (txt xs) i (by rw [txt_size]; exact hi)
    rw [Nat.zero_add, this]
    simp [txt]
  · have := grownCap_ge w xs.length 0 5
    exact this
theorem conv_str (w : World) (S : ByteArray) (xs : List UInt8) (n : Nat) (hS : S = txt xs) (hn : xs.length = n) : ∃ (A : Option Addr) (c : Nat) (w' : World), (convert 9 22 (.string S)).run Try.prog w = .ok (.slice A n c) w' ∧ Byt w' w'.heap.size A xs ∧ n ≤ c ∧ Below w.heap.size w w' := by
  subst hS
  subst hn
  exact conv_bytes w xs
/-- The year's hundreds. -/
def hun (y : Nat) : Nat := y / 100
theorem ok_28 (m d h i s : Nat) (Y : Int) (hm : 1 ≤ m ∧ m ≤ 12) (hd : 1 ≤ d ∧ d ≤ 28) (hh : h ≤ 23 ∧ i ≤ 59 ∧ s ≤ 59) :
    decide (1 ≤ (m : Int) ∧ (m : Int) ≤ 12 ∧ 1 ≤ (d : Int) ∧ (d : Int) ≤ dys Y m ∧ (h : Int) ≤ 23 ∧ (i : Int) ≤ 59 ∧ (s : Int) ≤ 59) = true := by
  have := dys_low Y (m : Int)
  exact decide_eq_true (by omega)
theorem time_24 (W : World) (y m d h i s : Nat) (hy : y < 10000) (hm : 1 ≤ m ∧ m ≤ 12) (hd : 1 ≤ d ∧ d ≤ 28) (hh : h ≤ 23 ∧ i ≤ 59 ∧ s ≤ 59) (A : Option Addr) (c : Nat) (hb : Byt W W.heap.size A (tw (hun y) ++ (tw y ++ tx m d h i s 90))) (hc : 15 ≤ c) :
    Calls Try.prog 18 #[.int .i64 24, .slice A 15 c] W fun e w' => e = .returned (.tuple #[mo6 y m d h i s, .int .i64 0]) ∧ Below W.heap.size W w' := by
  have hl : (tw (hun y) ++ (tw y ++ tx m d h i s 90)).length = 15 := rfl
  have r := timeC W 24 A c _ (by omega) hb (by rw [hl]; exact hc) (by rw [hl]; unfold mxB; omega)
  rw [hl] at r
  have e1 := tyL24 (hun y) y m d h i s 90 rfl (by unfold hun; omega) (by omega) (by omega) (by omega) (by omega) (by omega)
  have e2 := tyOk24 (hun y) y m d h i s 90 rfl (by unfold hun; omega) (by omega) (by omega) (by omega) (by omega) (by omega)
  rw [ok_28 m d h i s _ hm hd hh] at e2
  rw [e2, e1] at r
  exact r
theorem time_23 (W : World) (y m d h i s : Nat) (hm : 1 ≤ m ∧ m ≤ 12) (hd : 1 ≤ d ∧ d ≤ 28) (hh : h ≤ 23 ∧ i ≤ 59 ∧ s ≤ 59) (A : Option Addr) (c : Nat) (hb : Byt W W.heap.size A (tw y ++ tx m d h i s 90)) (hc : 13 ≤ c) :
    Calls Try.prog 18 #[.int .i64 23, .slice A 13 c] W fun e w' => e = .returned (.tuple #[mo6 (tyY 23 (y % 100 : Nat)) m d h i s, .int .i64 0]) ∧ Below W.heap.size W w' := by
  have hl : (tw y ++ tx m d h i s 90).length = 13 := rfl
  have r := timeC W 23 A c _ (by omega) hb (by rw [hl]; exact hc) (by rw [hl]; unfold mxB; omega)
  rw [hl] at r
  have e1 := tyL23 y m d h i s 90 (by omega) (by omega) (by omega) (by omega) (by omega)
  have e2 := tyOk23 y m d h i s 90 (by omega) (by omega) (by omega) (by omega) (by omega)
  rw [ok_28 m d h i s _ hm hd hh] at e2
  rw [e2, e1] at r
  exact r
/-- Check of a time of four digits a year. -/
theorem check_24 (W : World) (y m d h i s : Nat) (z : UInt8) (hy : y < 10000) (hm : m < 100) (hd : d < 100) (hh : h < 100) (hi : i < 100) (hs : s < 100) (A : Option Addr) (c : Nat) (hb : Byt W W.heap.size A (tw (hun y) ++ (tw y ++ tx m d h i s z))) (hc : 15 ≤ c) (E : Int)
    (hE : (if (z.toNat == 90 && decide (1 ≤ (m : Int) ∧ (m : Int) ≤ 12 ∧ 1 ≤ (d : Int) ∧ (d : Int) ≤ dys y m ∧ (h : Int) ≤ 23 ∧ (i : Int) ≤ 59 ∧ (s : Int) ≤ 59)) = true then (0 : Int) else 13) = E) :
    Calls Try.prog 10 #[.int .i64 24, .slice A 15 c] W fun e w' => e = .returned (.int .i64 E) ∧ Below W.heap.size W w' := by
  have hl : (tw (hun y) ++ (tw y ++ tx m d h i s z)).length = 15 := rfl
  have r := checkC W 24 A c _ (by omega) hb (by rw [hl]; exact hc) (by rw [hl]; unfold mxB; omega)
  rw [hl] at r
  have e2 := tyOk24 (hun y) y m d h i s z rfl (by unfold hun; omega) hm hd hh hi hs
  have e3 : ckE 24 (tw (hun y) ++ (tw y ++ tx m d h i s z)) = E := by
    rw [← hE, ← e2]
    rfl
  rw [e3] at r
  exact r
/-- How many days a month has that isn't in a leap year. -/
def lngN (m : Nat) : Nat := if m = 2 then 28 else if m = 4 ∨ m = 6 ∨ m = 9 ∨ m = 11 then 30 else 31
set_option maxRecDepth 100000 in
theorem idx_13 (m : Nat) (h : 1 ≤ m ∧ m ≤ 12) (W : World) : (Instr.index 50 (.agg #[.int .i64 0, .int .i64 31, .int .i64 28, .int .i64 31, .int .i64 30, .int .i64 31, .int .i64 30, .int .i64 31, .int .i64 31, .int .i64 30, .int .i64 31, .int .i64 30, .int .i64 31]) (.int .i64 (m : Int))).run Try.prog W = .ok (.int .i64 (lngN m : Nat)) W := by
  have key : m = 1 ∨ m = 2 ∨ m = 3 ∨ m = 4 ∨ m = 5 ∨ m = 6 ∨ m = 7 ∨ m = 8 ∨ m = 9 ∨ m = 10 ∨ m = 11 ∨ m = 12 := by omega
  rcases key with rfl | rfl | rfl | rfl | rfl | rfl | rfl | rfl | rfl | rfl | rfl | rfl
  all_goals (show _ = _; kernel_rfl)
theorem dys_lng (y m : Nat) (B : Bool) (hB : (decide (m = 2) && lp (y : Int)) = B) : dys (y : Int) (m : Int) = if B then 29 else (lngN m : Nat) := by
  subst hB
  unfold dys lngN
  by_cases h2 : m = 2
  · subst h2
    cases lp (y : Int) <;> rfl
  · rw [decide_eq_false h2, Bool.false_and, if_neg h2]
    by_cases h4 : m = 4 ∨ m = 6 ∨ m = 9 ∨ m = 11
    · rw [if_pos h4, if_pos (by omega)]; rfl
    · rw [if_neg h4, if_neg (by omega), if_neg (by omega)]; rfl
theorem act_letterC {P : Program} {c : Code} {Q : Exit → Act → World → Prop} {a : Act} {w : World} (h : ∀ A, a = A → c.wp P Q A w) : c.wp P Q a w := h a rfl
/-- The clock's block. -/
structure Clk (w W : World) (q b : Nat) (h i s : Int) : Prop where
  bel : Below q w W
  sz : q ≤ W.heap.size
  blk : Whole W b #[.int .i64 h, .int .i64 i, .int .i64 s] 48
theorem Clk.under {w W W' : World} {q b : Nat} {h i s : Int} (k : Clk w W q b h i s) (hB : Below W.heap.size W W') : Clk w W' q b h i s :=
  ⟨k.bel.trans (hB.mono k.sz), Nat.le_trans k.sz hB.size, (hB.block b k.blk.lt).trans k.blk⟩
theorem Clk.cells {w W : World} {q b : Nat} {h i s : Int} (k : Clk w W q b h i s) : W.cell? ⟨b, 0, none⟩ = some (.int .i64 h) ∧ W.cell? ⟨b, 1, none⟩ = some (.int .i64 i) ∧ W.cell? ⟨b, 2, none⟩ = some (.int .i64 s) := ⟨k.blk.cell 0, k.blk.cell 1, k.blk.cell 2⟩

set_option maxRecDepth 100000 in
set_option maxHeartbeats 4000000 in
theorem dertypeTimes_walk (w : World) (n : Int) (_ : (Lit.int .i64 n).wf = true) :
    Calls Try.prog 6 #[.int .i64 n] w fun e w' => e = .returned (.bool true) ∧ Below w.heap.size w w' := by
  obtain ⟨U, hU⟩ : ∃ U : Nat, IntKind.u64.wrap n = (U : Int) := by
    have : 0 ≤ IntKind.u64.wrap n := by simp [IntKind.wrap, IntKind.bits, IntKind.signed]; omega
    exact ⟨(IntKind.u64.wrap n).toNat, by omega⟩
  obtain ⟨K, hK⟩ : ∃ K, U % 12648960000 = K := ⟨_, rfl⟩
  have hK1 : (IntKind.u64.wrap n).tmod 12648960000 = (K : Int) := by
    rw [hU, Int.tmod_eq_emod_of_nonneg (by omega)]
    omega
  have hKl : K < 12648960000 := by omega
  have hKI : (K : Int) < 12648960000 := by omega
  obtain ⟨y, hy⟩ : ∃ y, 1900 + K % 400 = y := ⟨_, rfl⟩
  obtain ⟨m, hm⟩ : ∃ m, 1 + K / 400 % 12 = m := ⟨_, rfl⟩
  obtain ⟨d, hd⟩ : ∃ d, 1 + K / 4800 % 28 = d := ⟨_, rfl⟩
  obtain ⟨h, hh⟩ : ∃ h, K / 7 % 24 = h := ⟨_, rfl⟩
  obtain ⟨i, hi⟩ : ∃ i, K / 11 % 60 = i := ⟨_, rfl⟩
  obtain ⟨s, hs⟩ : ∃ s, K / 13 % 60 = s := ⟨_, rfl⟩
  have e1 : 1900 + (K : Int) % 400 = (y : Int) := by clear hK1; omega
  have e2 : 1 + (K : Int) / 400 % 12 = (m : Int) := by clear hK1 e1; omega
  have e3 : 1 + (K : Int) / 4800 % 28 = (d : Int) := by clear hK1 e1 e2; omega
  have e4 : (K : Int) / 7 % 24 = (h : Int) := by clear hK1 e1 e2 e3; omega
  have e5 : (K : Int) / 11 % 60 = (i : Int) := by clear hK1 e1 e2 e3 e4; omega
  have e6 : (K : Int) / 13 % 60 = (s : Int) := by clear hK1 e1 e2 e3 e4 e5; omega
  have HYB := Lib.hid (show 1900 ≤ y ∧ y < 2300 by clear hK1 e1 e2 e3 e4 e5 e6; omega)
  have HMB := Lib.hid (show 1 ≤ m ∧ m ≤ 12 by clear hK1 e1 e2 e3 e4 e5 e6; omega)
  have HDB := Lib.hid (show 1 ≤ d ∧ d ≤ 28 by clear hK1 e1 e2 e3 e4 e5 e6; omega)
  have HHB := Lib.hid (show h ≤ 23 ∧ i ≤ 59 ∧ s ≤ 59 by clear hK1 e1 e2 e3 e4 e5 e6; omega)
  clear hU hK hKl hy hm hd hh hi hs
  go_enter Try.func6, Try.ntmps6
  go_upto_region 2 with (fail)
  have HCK := Lib.hid (show Clk w (w.alloc (.cells #[.int .i64 (h : Int), .int .i64 (i : Int), .int .i64 (s : Int)] 48)).drew w.heap.size w.heap.size h i s from
    ⟨((Below.refl _ w).alloc (Nat.le_refl _) _).drew, by show w.heap.size ≤ (w.alloc _).heap.size; simp, (Whole.new w _ _)⟩)
  go_upto_region 4 with (fail)
  clear hK1 hKI e1 e2 e3 e4 e5 e6
  generalize w.alloc (.cells #[.int .i64 (h : Int), .int .i64 (i : Int), .int .i64 (s : Int)] 48) = W0 at *
  obtain ⟨q, hq⟩ : ∃ q, w.heap.size = q := ⟨_, rfl⟩
  rw [hq] at HCK ⊢
  have HQ := Lib.hid hq
  clear hq
  have hz2 : ∀ z : Int, (txt (tw z)).size = 2 := fun _ => rfl
  go_region_held3 (fun W => W.cell? ⟨q, 0, none⟩ = some (.int .i64 (h : Int)) ∧ W.cell? ⟨q, 1, none⟩ = some (.int .i64 (i : Int)) ∧ W.cell? ⟨q, 2, none⟩ = some (.int .i64 (s : Int))) (exact (Hid.out (by assumption : Hid (Clk w _ q q h i s))).cells)
    ((go_at_call 21; refine (two_any _ _ (by first | (have := HMB.out; omega) | (have := HDB.out; omega) | (have := HHB.out; omega))).mono ?_; rintro e wn ⟨rfl, hB⟩; have HCn := Lib.hid (Clk.under (Hid.out (by assumption : Hid (Clk w _ q q h i s))) hB); clear hB))
  have hcat : txt (tw m) ++ txt (tw d) ++ txt (tw h) ++ txt (tw i) ++ txt (tw s) ++ (⟨#[90]⟩ : ByteArray) = txt (tx m d h i s 90) := by
    rw [show (⟨#[90]⟩ : ByteArray) = txt [90] from rfl]
    simp only [txt_append, tx, List.append_assoc]
  rw [hcat]
  have HC1 := Lib.hid (show Clk w wn q q h i s from HCn.out)
  obtain ⟨C, hC⟩ : ∃ C, hun y = C := ⟨_, rfl⟩
  have HCB := Lib.hid (show C < 23 by have := HYB.out; rw [← hC]; unfold hun; omega)
  have hyc : (y : Int) / 100 = (C : Int) := by rw [← hC]; unfold hun; omega
  have hyI : (y : Int) < 2300 := by have := HYB.out; omega
  have hzx : (txt (tx m d h i s 90)).size = 11 := rfl
  have T24 := Lib.hid (fun W A c => time_24 W y m d h i s (by have := HYB.out; omega) HMB.out HDB.out HHB.out A c)
  rw [hC] at T24
  have HCC := Lib.hid hC
  obtain ⟨X, hX⟩ : ∃ X, tx m d h i s 90 = X := ⟨_, rfl⟩
  have HXX := Lib.hid hX
  rw [hX] at hzx T24 ⊢
  clear hcat HCK hC hX
  go_upto_region 5 with (fail)
  generalize wn = W1 at *
  go_wp2_with fail
  with_reducible refine (two_any W1 C (by have := HCB.out; omega)).mono ?_
  rintro e W2 ⟨rfl, hB2⟩
  have HC2 := Lib.hid (HC1.out.under hB2)
  clear hB2 HC1
  go_wp2_with fail
  with_reducible refine (two_any W2 y (by have := HYB.out; omega)).mono ?_
  rintro e W3 ⟨rfl, hB3⟩
  have HC3 := Lib.hid (HC2.out.under hB3)
  obtain ⟨A4, c4, W4, hcv, hby4, hc4, hB4⟩ := conv_str W3 (txt (tw C) ++ txt (tw y) ++ txt X) (tw C ++ (tw y ++ X)) 15 (by simp only [txt_append, List.append_assoc]) (by rw [← HXX.out]; rfl)
  have HC4 := Lib.hid (HC3.out.under hB4)
  have HT4 := Lib.hid (T24.out W4 A4 c4 hby4 hc4)
  clear hB3 HC2 HC3 hby4 hc4 hB4
  go_wp2_with fail
  refine HT4.out.mono ?_
  rintro e V0 ⟨rfl, hB5⟩
  have HC5 := Lib.hid ((HC4.out.under hB5).under (show Below V0.heap.size V0 (V0.alloc (.cells #[.int .i64 (y : Int), .int .i64 (m : Int), .int .i64 (d : Int), .int .i64 (h : Int), .int .i64 (i : Int), .int .i64 (s : Int)] 40)) from (Below.refl _ _).alloc (Nat.le_refl _) _))
  have HK9 := Lib.hid (Whole.new V0 #[.int .i64 (y : Int), .int .i64 (m : Int), .int .i64 (d : Int), .int .i64 (h : Int), .int .i64 (i : Int), .int .i64 (s : Int)] 40)
  have HSZ9 := Lib.hid (show V0.heap.size < (V0.alloc (.cells #[.int .i64 (y : Int), .int .i64 (m : Int), .int .i64 (d : Int), .int .i64 (h : Int), .int .i64 (i : Int), .int .i64 (s : Int)] 40)).heap.size by simp)
  clear hB5 HT4 HC4 T24 hcv HCn
  go_upto_region 6 with (fail)
  generalize V0.alloc (.cells #[.int .i64 (y : Int), .int .i64 (m : Int), .int .i64 (d : Int), .int .i64 (h : Int), .int .i64 (i : Int), .int .i64 (s : Int)] 40) = W5 at *
  generalize V0.heap.size = p9 at *
  obtain ⟨kc0, kc1, kc2⟩ := HC5.out.cells
  have HB6 := Lib.hid (show Below q w (W5.alloc (.cells #[.int .i64 (y : Int), .int .i64 (m : Int), .int .i64 (d : Int), .int .i64 (h : Int), .int .i64 (i : Int), .int .i64 (s : Int)] 40)) ∧ q ≤ (W5.alloc (.cells #[.int .i64 (y : Int), .int .i64 (m : Int), .int .i64 (d : Int), .int .i64 (h : Int), .int .i64 (i : Int), .int .i64 (s : Int)] 40)).heap.size from ⟨HC5.out.bel.alloc HC5.out.sz _, by have := HC5.out.sz; simp; omega⟩)
  have HK11 := Lib.hid (Whole.new W5 #[.int .i64 (y : Int), .int .i64 (m : Int), .int .i64 (d : Int), .int .i64 (h : Int), .int .i64 (i : Int), .int .i64 (s : Int)] 40)
  have HK9b := Lib.hid (HK9.out.grew (grew_alloc (grew_refl W5 none) (.cells #[.int .i64 (y : Int), .int .i64 (m : Int), .int .i64 (d : Int), .int .i64 (h : Int), .int .i64 (i : Int), .int .i64 (s : Int)] 40)) (by simp))
  clear HK9 HSZ9
  go_upto_region 7 with (fail)
  clear kc0 kc1 kc2 HC5
  generalize W5.alloc (.cells #[.int .i64 (y : Int), .int .i64 (m : Int), .int .i64 (d : Int), .int .i64 (h : Int), .int .i64 (i : Int), .int .i64 (s : Int)] 40) = W6 at *
  generalize W5.heap.size = p11 at *
  go_wp2_with fail
  refine (aliveC W6).mono ?_
  rintro e W7 ⟨rfl, hB7⟩
  have HB7 := Lib.hid (show Below q w W7 ∧ q ≤ W7.heap.size from ⟨HB6.out.1.trans (hB7.mono HB6.out.2), Nat.le_trans HB6.out.2 hB7.size⟩)
  have HK9 := Lib.hid (show Whole W7 p9 #[.int .i64 (y : Int), .int .i64 (m : Int), .int .i64 (d : Int), .int .i64 (h : Int), .int .i64 (i : Int), .int .i64 (s : Int)] 40 from (hB7.block p9 HK9b.out.lt).trans HK9b.out)
  have HW7 := Lib.hid (show Whole W7 p11 #[.int .i64 (y : Int), .int .i64 (m : Int), .int .i64 (d : Int), .int .i64 (h : Int), .int .i64 (i : Int), .int .i64 (s : Int)] 40 from (hB7.block p11 HK11.out.lt).trans HK11.out)
  clear hB7 HB6 HK9b HK11
  have hq6 := neq6 (y : Int) m d h i s
  have hgd := guard6
  have a0 : W7.cell? ⟨p9, 0, none⟩ = some (.int .i64 (y : Int)) := HK9.out.cell 0
  have a1 : W7.cell? ⟨p9, 1, none⟩ = some (.int .i64 (m : Int)) := HK9.out.cell 1
  have a2 : W7.cell? ⟨p9, 2, none⟩ = some (.int .i64 (d : Int)) := HK9.out.cell 2
  have a3 : W7.cell? ⟨p9, 3, none⟩ = some (.int .i64 (h : Int)) := HK9.out.cell 3
  have a4 : W7.cell? ⟨p9, 4, none⟩ = some (.int .i64 (i : Int)) := HK9.out.cell 4
  have a5 : W7.cell? ⟨p9, 5, none⟩ = some (.int .i64 (s : Int)) := HK9.out.cell 5
  have b0 : W7.cell? ⟨p11, 0, none⟩ = some (.int .i64 (y : Int)) := HW7.out.cell 0
  have b1 : W7.cell? ⟨p11, 1, none⟩ = some (.int .i64 (m : Int)) := HW7.out.cell 1
  have b2 : W7.cell? ⟨p11, 2, none⟩ = some (.int .i64 (d : Int)) := HW7.out.cell 2
  have b3 : W7.cell? ⟨p11, 3, none⟩ = some (.int .i64 (h : Int)) := HW7.out.cell 3
  have b4 : W7.cell? ⟨p11, 4, none⟩ = some (.int .i64 (i : Int)) := HW7.out.cell 4
  have b5 : W7.cell? ⟨p11, 5, none⟩ = some (.int .i64 (s : Int)) := HW7.out.cell 5
  go_upto_region 9 with (fail)
  clear a0 a1 a2 a3 a4 a5 b0 b1 b2 b3 b4 b5 HK9
  go_wp2_with fail
  with_reducible refine (two_any W7 y (by have := HYB.out; omega)).mono ?_
  rintro e W8 ⟨rfl, hB8⟩
  have HB8 := Lib.hid (show Below q w W8 ∧ q ≤ W8.heap.size from ⟨HB7.out.1.trans (hB8.mono HB7.out.2), Nat.le_trans HB7.out.2 hB8.size⟩)
  obtain ⟨A10, c10, W10, hcv, hby10, hc10, hB10⟩ := conv_str W8 (txt (tw y) ++ txt X) (tw y ++ X) 13 (by simp only [txt_append]) (by rw [← HXX.out]; rfl)
  have HB10 := Lib.hid (show Below q w W10 ∧ q ≤ W10.heap.size from ⟨HB8.out.1.trans (hB10.mono HB8.out.2), Nat.le_trans HB8.out.2 hB10.size⟩)
  have HW10 := Lib.hid (show Whole W10 p11 #[.int .i64 (y : Int), .int .i64 (m : Int), .int .i64 (d : Int), .int .i64 (h : Int), .int .i64 (i : Int), .int .i64 (s : Int)] 40 from
    (hB10.block p11 (Nat.lt_of_lt_of_le HW7.out.lt hB8.size)).trans ((hB8.block p11 HW7.out.lt).trans HW7.out))
  have HT10 := Lib.hid (time_23 W10 y m d h i s HMB.out HDB.out HHB.out A10 c10 (by rw [HXX.out]; exact hby10) hc10)
  obtain ⟨Y2, hY2⟩ : ∃ Y2, tyY 23 (y % 100 : Nat) = Y2 := ⟨_, rfl⟩
  have HNEAR := Lib.hid (show 1950 ≤ y → y < 2050 → Y2 = (y : Int) from fun h1 h2 => by rw [← hY2]; exact tyY_near y h1 h2)
  rw [hY2] at HT10
  clear hB8 hB10 HB8 HB7 HW7 hby10 hc10 hY2
  go_wp2_with fail
  refine HT10.out.mono ?_
  rintro e W11 ⟨rfl, hB11⟩
  have HB12 := Lib.hid (show Below q w (W11.alloc (.cells #[.int .i64 Y2, .int .i64 (m : Int), .int .i64 (d : Int), .int .i64 (h : Int), .int .i64 (i : Int), .int .i64 (s : Int)] 40)) ∧ q ≤ (W11.alloc (.cells #[.int .i64 Y2, .int .i64 (m : Int), .int .i64 (d : Int), .int .i64 (h : Int), .int .i64 (i : Int), .int .i64 (s : Int)] 40)).heap.size from ⟨(HB10.out.1.trans (hB11.mono HB10.out.2)).alloc (Nat.le_trans HB10.out.2 hB11.size) _, by have := Nat.le_trans HB10.out.2 hB11.size; simp; omega⟩)
  have HK12 := Lib.hid (Whole.new W11 #[.int .i64 Y2, .int .i64 (m : Int), .int .i64 (d : Int), .int .i64 (h : Int), .int .i64 (i : Int), .int .i64 (s : Int)] 40)
  have HW12 := Lib.hid (show Whole (W11.alloc (.cells #[.int .i64 Y2, .int .i64 (m : Int), .int .i64 (d : Int), .int .i64 (h : Int), .int .i64 (i : Int), .int .i64 (s : Int)] 40)) p11 #[.int .i64 (y : Int), .int .i64 (m : Int), .int .i64 (d : Int), .int .i64 (h : Int), .int .i64 (i : Int), .int .i64 (s : Int)] 40 from
    (show Whole W11 p11 #[.int .i64 (y : Int), .int .i64 (m : Int), .int .i64 (d : Int), .int .i64 (h : Int), .int .i64 (i : Int), .int .i64 (s : Int)] 40 from (hB11.block p11 HW10.out.lt).trans HW10.out).grew (grew_alloc (grew_refl W11 none) _) (by simp))
  clear hB11 HT10 HB10 HW10 hcv
  go_upto_region 10 with (fail)
  generalize W11.alloc (.cells #[.int .i64 Y2, .int .i64 (m : Int), .int .i64 (d : Int), .int .i64 (h : Int), .int .i64 (i : Int), .int .i64 (s : Int)] 40) = W12 at *
  generalize W11.heap.size = p12 at *
  have a0 : W12.cell? ⟨p12, 0, none⟩ = some (.int .i64 Y2) := HK12.out.cell 0
  have a1 : W12.cell? ⟨p12, 1, none⟩ = some (.int .i64 (m : Int)) := HK12.out.cell 1
  have a2 : W12.cell? ⟨p12, 2, none⟩ = some (.int .i64 (d : Int)) := HK12.out.cell 2
  have a3 : W12.cell? ⟨p12, 3, none⟩ = some (.int .i64 (h : Int)) := HK12.out.cell 3
  have a4 : W12.cell? ⟨p12, 4, none⟩ = some (.int .i64 (i : Int)) := HK12.out.cell 4
  have a5 : W12.cell? ⟨p12, 5, none⟩ = some (.int .i64 (s : Int)) := HK12.out.cell 5
  have b0 : W12.cell? ⟨p11, 0, none⟩ = some (.int .i64 (y : Int)) := HW12.out.cell 0
  have b1 : W12.cell? ⟨p11, 1, none⟩ = some (.int .i64 (m : Int)) := HW12.out.cell 1
  have b2 : W12.cell? ⟨p11, 2, none⟩ = some (.int .i64 (d : Int)) := HW12.out.cell 2
  have b3 : W12.cell? ⟨p11, 3, none⟩ = some (.int .i64 (h : Int)) := HW12.out.cell 3
  have b4 : W12.cell? ⟨p11, 4, none⟩ = some (.int .i64 (i : Int)) := HW12.out.cell 4
  have b5 : W12.cell? ⟨p11, 5, none⟩ = some (.int .i64 (s : Int)) := HW12.out.cell 5
  refine act_letterC (fun A0 hA0 => ?_)
  refine Code.wp_mono (Q := fun e a' X => e = .normal ∧ X = W12 ∧ ∃ v103 v104 v105 v106 v107 v108 v109 v110 v111 v112 v113 v114 v115 v116 : Value, a' = (((((((((((((((A0.put (some 103) v103).put (some 104) v104).put (some 105) v105).put (some 106) v106).put (some 107) v107).put (some 108) v108).put (some 109) v109).put (some 110) v110).put (some 111) v111).put (some 112) v112).put (some 113) v113).put (some 114) v114).put (some 115) v115).put (some 116) v116).put (some 117) (.bool false))) (fun e a' XW hX => ?_) ?_
  · obtain ⟨rfl, hXW, v103, v104, v105, v106, v107, v108, v109, v110, v111, v112, v113, v114, v115, v116, rfl⟩ := hX
    subst hXW
    subst hA0
    clear a0 a1 a2 a3 a4 a5 b0 b1 b2 b3 b4 b5 HNEAR HK12 HW12 hq6 hgd
    simp only [Act.put, List.setIfInBounds_toArray, List.set_cons_succ, List.set_cons_zero]
    obtain ⟨Bb, hBb⟩ : ∃ Bb, (decide (m = 2) && lp (y : Int)) = Bb := ⟨_, rfl⟩
    have hdy := dys_lng y m Bb hBb
    have hix := idx_13 m HMB.out
    obtain ⟨G, hG⟩ : ∃ G, lngN m = G := ⟨_, rfl⟩
    rw [hG] at hdy hix
    have HG := Lib.hid (show 28 ≤ G ∧ G ≤ 31 by rw [← hG]; unfold lngN; split <;> (try split) <;> omega)
    have HG2 := Lib.hid (show Bb = true → G = 28 from fun hb => by
      rw [hb, Bool.and_eq_true] at hBb
      rw [← hG, of_decide_eq_true hBb.1]
      rfl)
    have HDY := Lib.hid hdy
    have HBB := Lib.hid hBb
    have hmI : (m : Int) ≤ 12 := by have := HMB.out; omega
    clear hdy hG hBb
    go_upto_region 13 with (fail)
    clear hix
    refine act_letterC (fun A1 hA1 => ?_)
    refine Code.wp_mono (Q := fun e a' X => e = .normal ∧ X = XW ∧ ∃ v121 v122 v123 v124 v125 v126 v127 v128 v129 v130 v131 v132 v133 v134 v135 v136 : Value, a' = (((((((((((((((((A1.put (some 121) v121).put (some 122) v122).put (some 123) v123).put (some 124) v124).put (some 125) v125).put (some 126) v126).put (some 127) v127).put (some 128) v128).put (some 129) v129).put (some 130) v130).put (some 131) v131).put (some 132) v132).put (some 133) v133).put (some 134) v134).put (some 135) v135).put (some 136) v136).put (some 137) (.bool Bb))) (fun e a' XW2 hX => ?_) ?_
    · obtain ⟨rfl, hXW, v121, v122, v123, v124, v125, v126, v127, v128, v129, v130, v131, v132, v133, v134, v135, v136, rfl⟩ := hX
      subst hXW
      subst hA1
      simp only [Act.put, List.setIfInBounds_toArray, List.set_cons_succ, List.set_cons_zero]
      cases Bb with
      | true =>
        obtain rfl := HG2.out rfl
        have hDY := HDY.out
        have HDD := Lib.hid (show dys (y : Int) (m : Int) = (29 : Int) from by rw [hDY]; rfl)
        clear hDY HG2 HDY HBB
        go_upto_region 15 with (fail)
        go_wp2_with fail
        with_reducible refine (two_any XW2 C (by have := HCB.out; omega)).mono ?_
        rintro e Z1 ⟨rfl, hZ1⟩
        have HZ1 := Lib.hid (show Below q w Z1 ∧ q ≤ Z1.heap.size from ⟨HB12.out.1.trans (hZ1.mono HB12.out.2), Nat.le_trans HB12.out.2 hZ1.size⟩)
        clear hZ1 HB12
        go_wp2_with fail
        with_reducible refine (two_any Z1 y (by have := HYB.out; omega)).mono ?_
        rintro e Z2 ⟨rfl, hZ2⟩
        have HZ2 := Lib.hid (show Below q w Z2 ∧ q ≤ Z2.heap.size from ⟨HZ1.out.1.trans (hZ2.mono HZ1.out.2), Nat.le_trans HZ1.out.2 hZ2.size⟩)
        clear hZ2 HZ1
        go_wp2_with fail
        with_reducible refine (two_any Z2 m (by have := HMB.out; omega)).mono ?_
        rintro e Z3 ⟨rfl, hZ3⟩
        have HZ3 := Lib.hid (show Below q w Z3 ∧ q ≤ Z3.heap.size from ⟨HZ2.out.1.trans (hZ3.mono HZ2.out.2), Nat.le_trans HZ2.out.2 hZ3.size⟩)
        clear hZ3 HZ2
        go_upto_region 16 with (fail)
        have hc3 : txt (tw C) ++ txt (tw y) ++ txt (tw m) = txt (tw C ++ (tw y ++ tw m)) := by simp only [txt_append, List.append_assoc]
        rw [hc3]
        obtain ⟨HL, hHL⟩ : ∃ HL, tw C ++ (tw y ++ tw m) = HL := ⟨_, rfl⟩
        rw [hHL]
        have hz6 : (txt HL).size = 6 := by rw [← hHL]; rfl
        have HHL := Lib.hid hHL
        clear hc3 hHL
        have CV := Lib.hid (fun (W : World) (d' h' i' s' : Nat) (z : UInt8) (S : ByteArray) (hS : S = txt HL ++ txt (tw d') ++ txt (tw h' ++ (tw i' ++ (tw s' ++ [z])))) => conv_str W S (tw C ++ (tw y ++ tx m d' h' i' s' z)) 15 (by rw [hS, ← HHL.out]; simp only [txt_append, tx, List.append_assoc]) rfl)
        have CC := Lib.hid (fun (W : World) (d' h' i' s' : Nat) (z : UInt8) (hd' : d' < 100) (hh' : h' < 100) (hi' : i' < 100) (hs' : s' < 100) (A : Option Addr) (c : Nat) (hb : Byt W W.heap.size A (tw C ++ (tw y ++ tx m d' h' i' s' z))) (hc : 15 ≤ c) (E : Int) (hE : (if (z.toNat == 90 && decide (1 ≤ (m : Int) ∧ (m : Int) ≤ 12 ∧ 1 ≤ (d' : Int) ∧ (d' : Int) ≤ (29 : Int) ∧ (h' : Int) ≤ 23 ∧ (i' : Int) ≤ 59 ∧ (s' : Int) ≤ 59)) = true then (0 : Int) else 13) = E) =>
          check_24 W y m d' h' i' s' z (by have := HYB.out; omega) (by have := HMB.out; omega) hd' hh' hi' hs' A c (by rw [HCC.out]; exact hb) hc E (by rw [HDD.out]; exact hE))
        go_upto_region 17 with (fail)
        go_loopw [16] (fun v wr => ∃ j : Nat, 1 ≤ j ∧ j ≤ 33 ∧ v = .int .i64 j ∧ Hid (Below q w wr ∧ q ≤ wr.heap.size)) (fun v _ => 33 - (intOf v).toNat)
        case atStart => exact ⟨1, by omega, by omega, rfl, HZ3⟩
        case round =>
          clear HZ3
          obtain ⟨j, hj1, hj2, rfl, HBJ⟩ := hrel
          have hjI : (j : Int) ≤ 33 := by omega
          by_cases hlt : j ≤ 32
          · have hltI : (j : Int) ≤ 32 := by omega
            go_wp2_with fail
            with_reducible refine (two_any wr j (by omega)).mono ?_
            rintro e Z4 ⟨rfl, hZ4⟩
            obtain ⟨A5, c5, Z5, hcv, hby5, hc5, hB5⟩ := CV.out Z4 j 0 0 0 90 (txt HL ++ txt (tw j) ++ ⟨#[48, 48, 48, 48, 48, 48, 90]⟩) rfl
            have HZ5 := Lib.hid (show Below q w Z5 ∧ q ≤ Z5.heap.size from ⟨(HBJ.out.1.trans (hZ4.mono HBJ.out.2)).trans (hB5.mono (Nat.le_trans HBJ.out.2 hZ4.size)), Nat.le_trans (Nat.le_trans HBJ.out.2 hZ4.size) hB5.size⟩)
            by_cases hle : j ≤ 29
            · have hck := CC.out Z5 j 0 0 0 90 (by omega) (by omega) (by omega) (by omega) A5 c5 hby5 hc5 0 (by rw [if_pos (by have := HMB.out; simp; omega)])
              have hleI : (j : Int) ≤ (29 : Int) := by omega
              have HCH := Lib.hid hck
              clear hZ4 hB5 HBJ hby5 hc5 hck
              go_wp2_with fail
              refine HCH.out.mono ?_
              rintro e Z6 ⟨rfl, hB6⟩
              have HZ6 := Lib.hid (show Below q w Z6 ∧ q ≤ Z6.heap.size from ⟨HZ5.out.1.trans (hB6.mono HZ5.out.2), Nat.le_trans HZ5.out.2 hB6.size⟩)
              clear hB6 HZ5 HCH hcv
              go_wp2_with fail
              go_roundw
              case rel => exact ⟨j + 1, by omega, by omega, rfl, HZ6⟩
              case measure => simp [intOf]; omega
            · have hck := CC.out Z5 j 0 0 0 90 (by omega) (by omega) (by omega) (by omega) A5 c5 hby5 hc5 13 (by rw [if_neg (by have := HMB.out; simp; omega)])
              have hleI : ¬ (j : Int) ≤ (29 : Int) := by omega
              have HCH := Lib.hid hck
              clear hZ4 hB5 HBJ hby5 hc5 hck
              go_wp2_with fail
              refine HCH.out.mono ?_
              rintro e Z6 ⟨rfl, hB6⟩
              have HZ6 := Lib.hid (show Below q w Z6 ∧ q ≤ Z6.heap.size from ⟨HZ5.out.1.trans (hB6.mono HZ5.out.2), Nat.le_trans HZ5.out.2 hB6.size⟩)
              clear hB6 HZ5 HCH hcv
              go_wp2_with fail
              go_roundw
              case rel => exact ⟨j + 1, by omega, by omega, rfl, HZ6⟩
              case measure => simp [intOf]; omega
          · obtain rfl : j = 33 := by omega
            obtain ⟨A5, c5, Z5, hcv, hby5, hc5, hB5⟩ := CV.out wr 1 24 0 0 90 (txt HL ++ ⟨#[48, 49, 50, 52, 48, 48, 48, 48, 90]⟩) (by rw [ByteArray.append_assoc]; rfl)
            have HZ5 := Lib.hid (show Below q w Z5 ∧ q ≤ Z5.heap.size from ⟨HBJ.out.1.trans (hB5.mono HBJ.out.2), Nat.le_trans HBJ.out.2 hB5.size⟩)
            have hck := CC.out Z5 1 24 0 0 90 (by omega) (by omega) (by omega) (by omega) A5 c5 hby5 hc5 13 (by rw [if_neg (by simp)])
            have HCH := Lib.hid hck
            clear hB5 HBJ hby5 hc5 hck hjI hj1 hj2 hlt
            go_wp2_with fail
            refine HCH.out.mono ?_
            rintro e Z6 ⟨rfl, hB6⟩
            have HZ6 := Lib.hid (show Below q w Z6 ∧ q ≤ Z6.heap.size from ⟨HZ5.out.1.trans (hB6.mono HZ5.out.2), Nat.le_trans HZ5.out.2 hB6.size⟩)
            clear hB6 HZ5 HCH hcv
            obtain ⟨A6, c6, Z7, hcv, hby6, hc6, hB7⟩ := CV.out Z6 1 0 60 0 90 (txt HL ++ ⟨#[48, 49, 48, 48, 54, 48, 48, 48, 90]⟩) (by rw [ByteArray.append_assoc]; rfl)
            have HZ7 := Lib.hid (show Below q w Z7 ∧ q ≤ Z7.heap.size from ⟨HZ6.out.1.trans (hB7.mono HZ6.out.2), Nat.le_trans HZ6.out.2 hB7.size⟩)
            have hck := CC.out Z7 1 0 60 0 90 (by omega) (by omega) (by omega) (by omega) A6 c6 hby6 hc6 13 (by rw [if_neg (by simp)])
            have HCH := Lib.hid hck
            clear hB7 HZ6 hby6 hc6 hck
            go_wp2_with fail
            refine HCH.out.mono ?_
            rintro e Z8 ⟨rfl, hB8⟩
            have HZ8 := Lib.hid (show Below q w Z8 ∧ q ≤ Z8.heap.size from ⟨HZ7.out.1.trans (hB8.mono HZ7.out.2), Nat.le_trans HZ7.out.2 hB8.size⟩)
            clear hB8 HZ7 HCH hcv
            obtain ⟨A7, c7, Z9, hcv, hby7, hc7, hB9⟩ := CV.out Z8 1 0 0 60 90 (txt HL ++ ⟨#[48, 49, 48, 48, 48, 48, 54, 48, 90]⟩) (by rw [ByteArray.append_assoc]; rfl)
            have HZ9 := Lib.hid (show Below q w Z9 ∧ q ≤ Z9.heap.size from ⟨HZ8.out.1.trans (hB9.mono HZ8.out.2), Nat.le_trans HZ8.out.2 hB9.size⟩)
            have hck := CC.out Z9 1 0 0 60 90 (by omega) (by omega) (by omega) (by omega) A7 c7 hby7 hc7 13 (by rw [if_neg (by simp)])
            have HCH := Lib.hid hck
            clear hB9 HZ8 hby7 hc7 hck
            go_wp2_with fail
            refine HCH.out.mono ?_
            rintro e Za ⟨rfl, hBa⟩
            have HZa := Lib.hid (show Below q w Za ∧ q ≤ Za.heap.size from ⟨HZ9.out.1.trans (hBa.mono HZ9.out.2), Nat.le_trans HZ9.out.2 hBa.size⟩)
            clear hBa HZ9 HCH hcv
            obtain ⟨A8, c8, Zb, hcv, hby8, hc8, hBb⟩ := CV.out Za 1 0 0 0 122 (txt HL ++ ⟨#[48, 49, 48, 48, 48, 48, 48, 48, 122]⟩) (by rw [ByteArray.append_assoc]; rfl)
            have HZb := Lib.hid (show Below q w Zb ∧ q ≤ Zb.heap.size from ⟨HZa.out.1.trans (hBb.mono HZa.out.2), Nat.le_trans HZa.out.2 hBb.size⟩)
            have hck := CC.out Zb 1 0 0 0 122 (by omega) (by omega) (by omega) (by omega) A8 c8 hby8 hc8 13 (by rw [if_neg (by simp)])
            have HCH := Lib.hid hck
            clear hBb HZa hby8 hc8 hck
            go_wp2_with fail
            refine HCH.out.mono ?_
            rintro e Zc ⟨rfl, hBc⟩
            have HZc := Lib.hid (show Below q w Zc from HZb.out.1.trans (hBc.mono HZb.out.2))
            clear hBc HZb HCH hcv
            go_wp2_with fail
            go_ret
            exact ⟨rfl, by rw [HQ.out]; exact HZc.out⟩
      | false =>
        have hGI : (G : Int) ≤ 31 := by have := HG.out; omega
        have hDY := HDY.out
        have HDD := Lib.hid (show dys (y : Int) (m : Int) = (G : Int) from by rw [hDY]; rfl)
        clear hDY HG2 HDY HBB
        go_upto_region 15 with (fail)
        go_wp2_with fail
        with_reducible refine (two_any XW2 C (by have := HCB.out; omega)).mono ?_
        rintro e Z1 ⟨rfl, hZ1⟩
        have HZ1 := Lib.hid (show Below q w Z1 ∧ q ≤ Z1.heap.size from ⟨HB12.out.1.trans (hZ1.mono HB12.out.2), Nat.le_trans HB12.out.2 hZ1.size⟩)
        clear hZ1 HB12
        go_wp2_with fail
        with_reducible refine (two_any Z1 y (by have := HYB.out; omega)).mono ?_
        rintro e Z2 ⟨rfl, hZ2⟩
        have HZ2 := Lib.hid (show Below q w Z2 ∧ q ≤ Z2.heap.size from ⟨HZ1.out.1.trans (hZ2.mono HZ1.out.2), Nat.le_trans HZ1.out.2 hZ2.size⟩)
        clear hZ2 HZ1
        go_wp2_with fail
        with_reducible refine (two_any Z2 m (by have := HMB.out; omega)).mono ?_
        rintro e Z3 ⟨rfl, hZ3⟩
        have HZ3 := Lib.hid (show Below q w Z3 ∧ q ≤ Z3.heap.size from ⟨HZ2.out.1.trans (hZ3.mono HZ2.out.2), Nat.le_trans HZ2.out.2 hZ3.size⟩)
        clear hZ3 HZ2
        go_upto_region 16 with (fail)
        have hc3 : txt (tw C) ++ txt (tw y) ++ txt (tw m) = txt (tw C ++ (tw y ++ tw m)) := by simp only [txt_append, List.append_assoc]
        rw [hc3]
        obtain ⟨HL, hHL⟩ : ∃ HL, tw C ++ (tw y ++ tw m) = HL := ⟨_, rfl⟩
        rw [hHL]
        have hz6 : (txt HL).size = 6 := by rw [← hHL]; rfl
        have HHL := Lib.hid hHL
        clear hc3 hHL
        have CV := Lib.hid (fun (W : World) (d' h' i' s' : Nat) (z : UInt8) (S : ByteArray) (hS : S = txt HL ++ txt (tw d') ++ txt (tw h' ++ (tw i' ++ (tw s' ++ [z])))) => conv_str W S (tw C ++ (tw y ++ tx m d' h' i' s' z)) 15 (by rw [hS, ← HHL.out]; simp only [txt_append, tx, List.append_assoc]) rfl)
        have CC := Lib.hid (fun (W : World) (d' h' i' s' : Nat) (z : UInt8) (hd' : d' < 100) (hh' : h' < 100) (hi' : i' < 100) (hs' : s' < 100) (A : Option Addr) (c : Nat) (hb : Byt W W.heap.size A (tw C ++ (tw y ++ tx m d' h' i' s' z))) (hc : 15 ≤ c) (E : Int) (hE : (if (z.toNat == 90 && decide (1 ≤ (m : Int) ∧ (m : Int) ≤ 12 ∧ 1 ≤ (d' : Int) ∧ (d' : Int) ≤ (G : Int) ∧ (h' : Int) ≤ 23 ∧ (i' : Int) ≤ 59 ∧ (s' : Int) ≤ 59)) = true then (0 : Int) else 13) = E) =>
          check_24 W y m d' h' i' s' z (by have := HYB.out; omega) (by have := HMB.out; omega) hd' hh' hi' hs' A c (by rw [HCC.out]; exact hb) hc E (by rw [HDD.out]; exact hE))
        go_upto_region 17 with (fail)
        go_loopw [16] (fun v wr => ∃ j : Nat, 1 ≤ j ∧ j ≤ 33 ∧ v = .int .i64 j ∧ Hid (Below q w wr ∧ q ≤ wr.heap.size)) (fun v _ => 33 - (intOf v).toNat)
        case atStart => exact ⟨1, by omega, by omega, rfl, HZ3⟩
        case round =>
          clear HZ3
          obtain ⟨j, hj1, hj2, rfl, HBJ⟩ := hrel
          have hjI : (j : Int) ≤ 33 := by omega
          by_cases hlt : j ≤ 32
          · have hltI : (j : Int) ≤ 32 := by omega
            go_wp2_with fail
            with_reducible refine (two_any wr j (by omega)).mono ?_
            rintro e Z4 ⟨rfl, hZ4⟩
            obtain ⟨A5, c5, Z5, hcv, hby5, hc5, hB5⟩ := CV.out Z4 j 0 0 0 90 (txt HL ++ txt (tw j) ++ ⟨#[48, 48, 48, 48, 48, 48, 90]⟩) rfl
            have HZ5 := Lib.hid (show Below q w Z5 ∧ q ≤ Z5.heap.size from ⟨(HBJ.out.1.trans (hZ4.mono HBJ.out.2)).trans (hB5.mono (Nat.le_trans HBJ.out.2 hZ4.size)), Nat.le_trans (Nat.le_trans HBJ.out.2 hZ4.size) hB5.size⟩)
            by_cases hle : j ≤ G
            · have hck := CC.out Z5 j 0 0 0 90 (by omega) (by omega) (by omega) (by omega) A5 c5 hby5 hc5 0 (by rw [if_pos (by have := HMB.out; simp; omega)])
              have hleI : (j : Int) ≤ (G : Int) := by omega
              have HCH := Lib.hid hck
              clear hZ4 hB5 HBJ hby5 hc5 hck
              go_wp2_with fail
              refine HCH.out.mono ?_
              rintro e Z6 ⟨rfl, hB6⟩
              have HZ6 := Lib.hid (show Below q w Z6 ∧ q ≤ Z6.heap.size from ⟨HZ5.out.1.trans (hB6.mono HZ5.out.2), Nat.le_trans HZ5.out.2 hB6.size⟩)
              clear hB6 HZ5 HCH hcv
              go_wp2_with fail
              go_roundw
              case rel => exact ⟨j + 1, by omega, by omega, rfl, HZ6⟩
              case measure => simp [intOf]; omega
            · have hck := CC.out Z5 j 0 0 0 90 (by omega) (by omega) (by omega) (by omega) A5 c5 hby5 hc5 13 (by rw [if_neg (by have := HMB.out; simp; omega)])
              have hleI : ¬ (j : Int) ≤ (G : Int) := by omega
              have HCH := Lib.hid hck
              clear hZ4 hB5 HBJ hby5 hc5 hck
              go_wp2_with fail
              refine HCH.out.mono ?_
              rintro e Z6 ⟨rfl, hB6⟩
              have HZ6 := Lib.hid (show Below q w Z6 ∧ q ≤ Z6.heap.size from ⟨HZ5.out.1.trans (hB6.mono HZ5.out.2), Nat.le_trans HZ5.out.2 hB6.size⟩)
              clear hB6 HZ5 HCH hcv
              go_wp2_with fail
              go_roundw
              case rel => exact ⟨j + 1, by omega, by omega, rfl, HZ6⟩
              case measure => simp [intOf]; omega
          · obtain rfl : j = 33 := by omega
            obtain ⟨A5, c5, Z5, hcv, hby5, hc5, hB5⟩ := CV.out wr 1 24 0 0 90 (txt HL ++ ⟨#[48, 49, 50, 52, 48, 48, 48, 48, 90]⟩) (by rw [ByteArray.append_assoc]; rfl)
            have HZ5 := Lib.hid (show Below q w Z5 ∧ q ≤ Z5.heap.size from ⟨HBJ.out.1.trans (hB5.mono HBJ.out.2), Nat.le_trans HBJ.out.2 hB5.size⟩)
            have hck := CC.out Z5 1 24 0 0 90 (by omega) (by omega) (by omega) (by omega) A5 c5 hby5 hc5 13 (by rw [if_neg (by simp)])
            have HCH := Lib.hid hck
            clear hB5 HBJ hby5 hc5 hck hjI hj1 hj2 hlt
            go_wp2_with fail
            refine HCH.out.mono ?_
            rintro e Z6 ⟨rfl, hB6⟩
            have HZ6 := Lib.hid (show Below q w Z6 ∧ q ≤ Z6.heap.size from ⟨HZ5.out.1.trans (hB6.mono HZ5.out.2), Nat.le_trans HZ5.out.2 hB6.size⟩)
            clear hB6 HZ5 HCH hcv
            obtain ⟨A6, c6, Z7, hcv, hby6, hc6, hB7⟩ := CV.out Z6 1 0 60 0 90 (txt HL ++ ⟨#[48, 49, 48, 48, 54, 48, 48, 48, 90]⟩) (by rw [ByteArray.append_assoc]; rfl)
            have HZ7 := Lib.hid (show Below q w Z7 ∧ q ≤ Z7.heap.size from ⟨HZ6.out.1.trans (hB7.mono HZ6.out.2), Nat.le_trans HZ6.out.2 hB7.size⟩)
            have hck := CC.out Z7 1 0 60 0 90 (by omega) (by omega) (by omega) (by omega) A6 c6 hby6 hc6 13 (by rw [if_neg (by simp)])
            have HCH := Lib.hid hck
            clear hB7 HZ6 hby6 hc6 hck
            go_wp2_with fail
            refine HCH.out.mono ?_
            rintro e Z8 ⟨rfl, hB8⟩
            have HZ8 := Lib.hid (show Below q w Z8 ∧ q ≤ Z8.heap.size from ⟨HZ7.out.1.trans (hB8.mono HZ7.out.2), Nat.le_trans HZ7.out.2 hB8.size⟩)
            clear hB8 HZ7 HCH hcv
            obtain ⟨A7, c7, Z9, hcv, hby7, hc7, hB9⟩ := CV.out Z8 1 0 0 60 90 (txt HL ++ ⟨#[48, 49, 48, 48, 48, 48, 54, 48, 90]⟩) (by rw [ByteArray.append_assoc]; rfl)
            have HZ9 := Lib.hid (show Below q w Z9 ∧ q ≤ Z9.heap.size from ⟨HZ8.out.1.trans (hB9.mono HZ8.out.2), Nat.le_trans HZ8.out.2 hB9.size⟩)
            have hck := CC.out Z9 1 0 0 60 90 (by omega) (by omega) (by omega) (by omega) A7 c7 hby7 hc7 13 (by rw [if_neg (by simp)])
            have HCH := Lib.hid hck
            clear hB9 HZ8 hby7 hc7 hck
            go_wp2_with fail
            refine HCH.out.mono ?_
            rintro e Za ⟨rfl, hBa⟩
            have HZa := Lib.hid (show Below q w Za ∧ q ≤ Za.heap.size from ⟨HZ9.out.1.trans (hBa.mono HZ9.out.2), Nat.le_trans HZ9.out.2 hBa.size⟩)
            clear hBa HZ9 HCH hcv
            obtain ⟨A8, c8, Zb, hcv, hby8, hc8, hBb⟩ := CV.out Za 1 0 0 0 122 (txt HL ++ ⟨#[48, 49, 48, 48, 48, 48, 48, 48, 122]⟩) (by rw [ByteArray.append_assoc]; rfl)
            have HZb := Lib.hid (show Below q w Zb ∧ q ≤ Zb.heap.size from ⟨HZa.out.1.trans (hBb.mono HZa.out.2), Nat.le_trans HZa.out.2 hBb.size⟩)
            have hck := CC.out Zb 1 0 0 0 122 (by omega) (by omega) (by omega) (by omega) A8 c8 hby8 hc8 13 (by rw [if_neg (by simp)])
            have HCH := Lib.hid hck
            clear hBb HZa hby8 hc8 hck
            go_wp2_with fail
            refine HCH.out.mono ?_
            rintro e Zc ⟨rfl, hBc⟩
            have HZc := Lib.hid (show Below q w Zc from HZb.out.1.trans (hBc.mono HZb.out.2))
            clear hBc HZb HCH hcv
            go_wp2_with fail
            go_ret
            exact ⟨rfl, by rw [HQ.out]; exact HZc.out⟩
    · subst hA1
      by_cases g1 : m = 2
      · have g1' : ((m : Int) == 2) = true := by rw [g1]; rfl
        have hl : lp (y : Int) = Bb := by rw [← HBB.out, decide_eq_true g1, Bool.true_and]
        unfold lp at hl
        cases h4 : ((y : Int) % 4 == 0)
        · cases h400 : ((y : Int) % 400 == 0)
          · rw [h4, h400] at hl
            obtain rfl : Bb = false := by simpa using hl.symm
            clear hl g1
            go_wp2_with fail
          · exact absurd (beq_iff_eq.1 h400) (by have := beq_eq_false_iff_ne.1 h4; omega)
        · cases h100 : ((y : Int) % 100 != 0)
          · cases h400 : ((y : Int) % 400 == 0)
            all_goals
              rw [h4, h100, h400] at hl
              subst hl
              clear g1
              go_wp2_with fail
          · rw [h4, h100] at hl
            obtain rfl : Bb = true := by simpa using hl.symm
            clear hl g1
            go_wp2_with fail
      · have g1' : ((m : Int) == 2) = false := beq_eq_false_iff_ne.2 (by omega)
        obtain rfl : Bb = false := by rw [← HBB.out, decide_eq_false g1]; rfl
        clear g1
        go_wp2_with fail
  · subst hA0
    by_cases g1 : 1950 ≤ y
    · by_cases g2 : y < 2050
      · obtain rfl := HNEAR.out g1 g2
        have g1' : 1950 ≤ (y : Int) := by omega
        have g2' : (y : Int) < 2050 := by omega
        go_wp2_with fail
      · have g1' : 1950 ≤ (y : Int) := by omega
        have g2' : ¬ (y : Int) < 2050 := by omega
        go_wp2_with fail
    · have g1' : ¬ 1950 ≤ (y : Int) := by omega
      go_wp2_with fail

set_option maxRecDepth 100000 in
theorem dertypeTimes_lifted (os : Os) (started : os.Started) (H : Type) (enc : TypeId × Value → H) :
    ReturnsInHanded {} Try.checked os 6 .any (Rows.dertypeTimesSpec.pre6 enc Try.prog Try.f6 Rows.dertypeTimesRow.domain false) (Rows.dertypeTimesSpec.post enc Try.prog Try.f6 false true false false) := by
  refine returnsInHanded_of_change_sized (C := Try.checked) own started (by kernel_rfl) Try.func6
    (ChangeSpec.witness6 (enc := enc) (C := Try.checked) false ⟨#[], #[.int .i64 0], []⟩ 8 (by kernel_rfl) (by kernel_rfl) (by kernel_rfl) (by kernel_rfl)) ?_
  intro W base args ds gs before hval0 hW hcnd hsz0 _
  have hval : ∀ (j : Nat) t v, Try.f6.params[j]? = some t → args[j]? = some v → Value.okWide Try.prog W .any base t v := hval0
  have hsz : (DataW.weightsEach Try.prog (Try.f6.params.toList ++ Rows.dertypeTimesSpec.plain.varTypes Try.prog) (ds ++ gs)).all (· ≤ reachBytes) = true := hsz0
  have hW' := hW
  obtain ⟨p, q, hA0, hV, rfl, hfz, hnd⟩ := hW
  have hA : DataW.TrodAll enc Try.prog W 0 (fun _ => true) true Try.f6.params.toList args.toList ds p := hA0
  rw [Try.params6] at hA hval hsz
  obtain ⟨v0, vs0, d0, ds0, p0, q0, hargs, rfl, rfl, h0, r0⟩ := trodAll_cons hA
  obtain ⟨rfl, rfl, rfl⟩ := trodAll_nil r0
  obtain rfl : args = #[v0] := by cases args; simp_all
  obtain ⟨rfl, rfl⟩ := trodVars_none hV
  obtain ⟨a0, rfl, rfl, rfl, w0⟩ := open_int Try.underlying2 (hval 0 2 v0 rfl rfl) h0
  clear hA0 hval0 hsz0
  refine (dertypeTimes_walk W a0 w0).mono fun e W' ⟨he, bel⟩ => ?_
  subst he
  exact ⟨_, rfl, _, _, _, [], _, [], hW', trodAll_mk1 (shut_bool Try.underlying4 _), (trodAll_cons_mk (shut_int Try.underlying2 w0) trodAll_mk0), rfl, bel.frame _, fun h => by cases h⟩

theorem dertypeTimes_over : Rows.dertypeTimesRow.holds Try.pinned (OpenSpec.ofChange Rows.dertypeTimesSpec) :=
  OpenClaim.holds_of_wide 6 Try.f6 rfl rfl rfl rfl rfl rfl rfl ⟨rfl, rfl, rfl, rfl, rfl⟩ rfl rfl rfl rfl rfl (by kernel_rfl) Try.func6 (by kernel_rfl)
    (of_decide_eq_true (by kernel_rfl)) (by unfold Func.isWrapper; first | (rw [if_pos (by decide +kernel)]; kernel_rfl) | (rw [if_neg (by decide +kernel)]; exact ⟨rfl, rfl⟩))
    (fun os started H enc _ => dertypeTimes_lifted os started H enc)

theorem dertypeTimes_holds : Rows.DertypeTimesSaid := dertypeTimes_over
#print axioms dertypeTimes_holds
end Go.Proofs.Ytnegakobammljaa

