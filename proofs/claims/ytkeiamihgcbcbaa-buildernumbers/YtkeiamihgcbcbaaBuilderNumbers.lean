/- A number of some bytes is written as these, one by one; one that is too great isn't written at all: for every size and number the law returns true, and they read as they did. No condition. -/
import Derived.Test.YtkeiamihgcbcbaaBd4
import Derived.Test.YtkeiamihgcbcbaaOpen
namespace Go.Proofs.Ytkeiamihgcbcbaa
open Go.ChangeShapes Go.WideShapes Go.ChangeAt Go.RowKit

theorem bnumber_one (w : World) (F : Nat → Prop) (p most : Nat) (xs : List UInt8) (ps : List (Nat × Nat)) (h : Bd w F p most xs ps) (v : Nat) (hv : v < 256) (hf : xs.length + 1 ≤ most) :
    Calls Try.prog 19 #[.pointer (some ⟨p, 0, none⟩), .int .i64 1, .int .u64 v] w fun e w' => e = .returned (.int .i64 0) ∧ BdOut w w' F p most (xs ++ [UInt8.ofNat v]) ps := by
  have h1 := bnumber_any w F p most xs ps h 1 v (by omega)
  have e1 : nbE most xs.length 1 v = 0 := by
    simp [nbE, sizeOk, adE, hv]
    omega
  have e2 : nbX most xs 1 v = xs ++ [UInt8.ofNat v] := by
    have : v % 256 = v := by omega
    simp [nbX, sizeOk, adX, hv, be, this]
    omega
  rw [e1, e2] at h1
  exact h1

theorem apart_fr {w w' : World} {F G : Nat → Prop} {p most : Nat} {xs : List UInt8} {ps : List (Nat × Nat)} (h : Bd w F p most xs ps) (g : Fr w w' G) (ha : ∀ i, F i → ¬ G i) : Bd w' F p most xs ps := h.fr g ha
/-- What a call leaves is apart from what was apart. -/
theorem apart_out {w : World} {F F' G : Nat → Prop} (hn : ∀ i, F' i → F i ∨ w.heap.size ≤ i) (ha : ∀ i, F i → ¬ G i) (hG : ∀ i, G i → i < w.heap.size) : ∀ i, F' i → ¬ G i := by
  intro i hi hg
  rcases hn i hi with h | h
  · exact ha i h hg
  · have := hG i hg; omega

set_option maxRecDepth 100000 in
set_option maxHeartbeats 4000000 in
theorem builderNumbers_arg (w : World) (k : Int) (x : Nat) (hx : x < 18446744073709551616) (hk : ¬ sizeOk k) :
    Calls Try.prog 8 #[.int .i64 k, .int .u64 x] w fun e w' => e = .returned (.bool true) ∧ Below w.heap.size w w' := by
  have hk' : k < 1 ∨ (4 < k ∧ k ≠ 8) := by unfold sizeOk at hk; omega
  have hE : nbE 100 ([] : List UInt8).length k x = 2 := by simp [nbE, hk]
  have hX : nbX 100 [] k x = [] := by simp [nbX, hk]
  have HE := Lib.hid hE
  have HX := Lib.hid hX
  clear hE hX hk
  have hd : (decide (k < 1) = true) ∨ (decide (k < 1) = false ∧ decide (4 < k) = true ∧ (k == 8) = false ∧ (k != 8) = true) := by
    rcases hk' with h | ⟨h, h'⟩
    · exact .inl (by simpa using h)
    · exact .inr ⟨by simp; omega, by simpa using h, by simpa using h', by simpa using h'⟩
  clear hk'
  go_enter Try.func8, Try.ntmps8
  go_wp2_with fail
  refine (bnew_ok w 100 (by omega)).mono ?_
  rintro e w1 ⟨rfl, h1, g1⟩
  generalize hp : w.heap.size = p at *
  have HP := Lib.hid hp
  have H1 := Lib.hid h1
  clear h1 hp
  go_wp2_with fail
  refine (bnew_ok w1 100 (by omega)).mono ?_
  rintro e w2 ⟨rfl, h2, g2⟩
  have hl1 := H1.out.lt
  generalize w1.heap.size = q at *
  have H2 := Lib.hid (H1.out.fr (Fr.of_grew g2) (fun _ _ h => by cases h))
  clear h2
  go_wp2_with fail
  with_reducible refine (alive2_any w2).mono ?_
  rintro e w3 ⟨rfl, g3⟩
  have H3 := Lib.hid (H2.out.fr (Fr.of_grew g3) (fun _ _ h => by cases h))
  have g4 := grew_trans (grew_trans g1 g2) g3
  clear g1 g2 g3 H1 H2
  go_wp2_with fail
  with_reducible refine (bnumber_any w3 _ p 100 [] [] H3.out k x hx).mono ?_
  rintro e w4 ⟨rfl, h4⟩
  rw [HE.out]
  rw [HX.out] at h4
  obtain ⟨F4, h4, g5, f4, _⟩ := h4.grew g4 (fun i hi => by have := HP.out; omega)
  have H4 := Lib.hid h4
  have G5 := Lib.hid g5
  clear h4 f4 g5 g4
  rcases hd with hd | ⟨hd, hd1, hd2, hd3⟩
  all_goals
    go_wp2_with fail
    with_reducible refine (blen_any w4 _ p 100 _ _ H4.out).mono ?_
    rintro e w5 ⟨rfl, rfl⟩
    simp only [List.length_nil]
    go_wp2_with fail
    go_ret
    exact ⟨rfl, grew_below G5.out (Nat.le_refl _) (fun _ h => by cases h)⟩

set_option maxRecDepth 100000 in
set_option maxHeartbeats 4000000 in
theorem builderNumbers_range (w : World) (k : Nat) (x : Nat) (hx : x < 18446744073709551616) (hk : sizeOk k) (hl : ¬ x < 256 ^ k) :
    Calls Try.prog 8 #[.int .i64 k, .int .u64 x] w fun e w' => e = .returned (.bool true) ∧ Below w.heap.size w w' := by
  have hk' : k = 1 ∨ k = 2 ∨ k = 3 ∨ k = 4 := by
    have h8 : k ≠ 8 := by rintro rfl; exact hl (by simpa using hx)
    unfold sizeOk at hk; omega
  have hE : nbE 100 ([] : List UInt8).length k x = 3 := by simp [nbE, hk, hl]
  have hX : nbX 100 [] k x = [] := by simp [nbX, hl]
  have HE := Lib.hid hE
  have HX := Lib.hid hX
  clear hE hX hk
  go_enter Try.func8, Try.ntmps8
  go_wp2_with fail
  refine (bnew_ok w 100 (by omega)).mono ?_
  rintro e w1 ⟨rfl, h1, g1⟩
  generalize hp : w.heap.size = p at *
  have HP := Lib.hid hp
  have H1 := Lib.hid h1
  clear h1 hp
  go_wp2_with fail
  refine (bnew_ok w1 100 (by omega)).mono ?_
  rintro e w2 ⟨rfl, h2, g2⟩
  have hl1 := H1.out.lt
  generalize w1.heap.size = q at *
  have H2 := Lib.hid (H1.out.fr (Fr.of_grew g2) (fun _ _ h => by cases h))
  clear h2
  go_wp2_with fail
  with_reducible refine (alive2_any w2).mono ?_
  rintro e w3 ⟨rfl, g3⟩
  have H3 := Lib.hid (H2.out.fr (Fr.of_grew g3) (fun _ _ h => by cases h))
  have g4 := grew_trans (grew_trans g1 g2) g3
  clear g1 g2 g3 H1 H2
  go_wp2_with fail
  with_reducible refine (bnumber_any w3 _ p 100 [] [] H3.out k x hx).mono ?_
  rintro e w4 ⟨rfl, h4⟩
  rw [HE.out]
  rw [HX.out] at h4
  obtain ⟨F4, h4, g5, f4, _⟩ := h4.grew g4 (fun i hi => by have := HP.out; omega)
  have H4 := Lib.hid h4
  have G5 := Lib.hid g5
  clear h4 f4 g5 g4 HE HX H3
  rcases hk' with rfl | rfl | rfl | rfl
  · have hpos : 0 < (x : Int) / 256 := by omega
    go_wp2_with fail
    with_reducible refine (blen_any w4 _ p 100 _ _ H4.out).mono ?_
    rintro e w5 ⟨rfl, rfl⟩
    simp only [List.length_nil]
    go_wp2_with fail
    go_ret
    exact ⟨rfl, grew_below G5.out (Nat.le_refl _) (fun _ h => by cases h)⟩
  · have hpos : 0 < (x : Int) / 65536 := by omega
    go_wp2_with fail
    with_reducible refine (blen_any w4 _ p 100 _ _ H4.out).mono ?_
    rintro e w5 ⟨rfl, rfl⟩
    simp only [List.length_nil]
    go_wp2_with fail
    go_ret
    exact ⟨rfl, grew_below G5.out (Nat.le_refl _) (fun _ h => by cases h)⟩
  · have hpos : 0 < (x : Int) / 16777216 := by omega
    go_wp2_with fail
    with_reducible refine (blen_any w4 _ p 100 _ _ H4.out).mono ?_
    rintro e w5 ⟨rfl, rfl⟩
    simp only [List.length_nil]
    go_wp2_with fail
    go_ret
    exact ⟨rfl, grew_below G5.out (Nat.le_refl _) (fun _ h => by cases h)⟩
  · have hpos : 0 < (x : Int) / 4294967296 := by omega
    go_wp2_with fail
    with_reducible refine (blen_any w4 _ p 100 _ _ H4.out).mono ?_
    rintro e w5 ⟨rfl, rfl⟩
    simp only [List.length_nil]
    go_wp2_with fail
    go_ret
    exact ⟨rfl, grew_below G5.out (Nat.le_refl _) (fun _ h => by cases h)⟩

/-- What holds ahead of each round. -/
def NumRel (w wr : World) (p q : Nat) (F : Nat → Prop) (k x j : Nat) : Prop :=
  (∃ G, Bd wr G q 100 (be (k - j) (x / 256 ^ j)) [] ∧ (∀ i, F i → ¬ G i) ∧ ∀ i, G i → p ≤ i) ∧ Bd wr F p 100 (be k x) [] ∧ Grew w wr none

theorem and255 (y : Nat) (hy : y < 18446744073709551616) : bits BinOp.and IntKind.u64 (y : Int) 255 = ((y % 256 : Nat) : Int) := by
  have := u64_and_nat y 255 hy (by omega)
  rw [show ((255 : Nat) : Int) = 255 from rfl] at this
  rw [this, show (255 : Nat) = 2 ^ 8 - 1 from rfl, Nat.and_two_pow_sub_one_eq_mod]

theorem be_step (k j x : Nat) (h : j < k) : be (k - (j + 1)) (x / 256 ^ (j + 1)) ++ [UInt8.ofNat (x / 256 ^ j % 256)] = be (k - j) (x / 256 ^ j) := by
  have e : k - j = (k - (j + 1)) + 1 := by omega
  rw [e, be, Nat.div_div_eq_div_mul, ← Nat.pow_succ]

set_option maxRecDepth 100000 in
set_option maxHeartbeats 8000000 in
theorem builderNumbers_ok (w : World) (k : Nat) (x : Nat) (hx : x < 18446744073709551616) (hk : sizeOk k) (hl : x < 256 ^ k) :
    Calls Try.prog 8 #[.int .i64 k, .int .u64 x] w fun e w' => e = .returned (.bool true) ∧ Below w.heap.size w w' := by
  have hk' : k = 1 ∨ k = 2 ∨ k = 3 ∨ k = 4 ∨ k = 8 := by unfold sizeOk at hk; omega
  have hE : nbE 100 ([] : List UInt8).length k x = 0 := by simp [nbE, hk, hl, adE]; omega
  have hX : nbX 100 [] k x = be k x := by simp [nbX, hk, hl, adX, be_length]; omega
  have HE := Lib.hid hE
  have HX := Lib.hid hX
  have t1 : decide ((k : Int) < 1) = false := by simp; omega
  have t2 : (decide (4 < (k : Int)) = false) ∨ (decide (4 < (k : Int)) = true ∧ ((k : Int) == 8) = true ∧ ((k : Int) != 8) = false) := by
    rcases hk' with h | h | h | h | h <;> subst h <;> simp
  have t3 : (decide ((k : Int) < 8) = false) ∨ (decide ((k : Int) < 8) = true) := by
    cases decide ((k : Int) < 8) <;> simp
  clear hE hX hk
  go_enter Try.func8, Try.ntmps8
  go_wp2_with fail
  refine (bnew_ok w 100 (by omega)).mono ?_
  rintro e w1 ⟨rfl, h1, g1⟩
  generalize hp : w.heap.size = p at *
  have HP := Lib.hid hp
  have H1 := Lib.hid h1
  clear h1 hp
  go_wp2_with fail
  refine (bnew_ok w1 100 (by omega)).mono ?_
  rintro e w2 ⟨rfl, h2, g2⟩
  have hl1 := H1.out.lt
  generalize w1.heap.size = q at *
  have hl2 := h2.lt
  have H2 := Lib.hid (H1.out.fr (Fr.of_grew g2) (fun _ _ h => by cases h))
  have H2b := Lib.hid h2
  clear h2
  go_wp2_with fail
  with_reducible refine (alive2_any w2).mono ?_
  rintro e w3 ⟨rfl, g3⟩
  have H3 := Lib.hid (H2.out.fr (Fr.of_grew g3) (fun _ _ h => by cases h))
  have H3b := Lib.hid (H2b.out.fr (Fr.of_grew g3) (fun _ _ h => by cases h))
  have g4 := grew_trans (grew_trans g1 g2) g3
  clear g1 g2 g3 H1 H2 H2b
  go_wp2_with fail
  with_reducible refine (bnumber_any w3 _ p 100 [] [] H3.out k x hx).mono ?_
  rintro e w4 ⟨rfl, h4⟩
  rw [HE.out]
  rw [HX.out] at h4
  obtain ⟨F4, h4, g5, f4, r4, n4⟩ := h4.grew g4 (fun i hi => by have := HP.out; omega)
  have H4b := Lib.hid (H3b.out.fr r4 (fun i hi hj => by omega))
  have A4 := Lib.hid (apart_out n4 (G := fun i => i = q) (fun i hi hj => by omega) H3b.out.has)
  have H4 := Lib.hid h4
  have G5 := Lib.hid g5
  have FF4 := Lib.hid f4
  clear h4 f4 g5 g4 HE HX H3 H3b r4 n4
  have HL := Lib.hid hl
  clear hl t1 t2 t3
  rcases hk' with rfl | rfl | rfl | rfl | rfl
  · skip
    have hneg : ¬ 0 < (x : Int) / 256 := by have := HL.out; omega
    go_wp2_with fail
    go_loopw [10] (fun i wr => ∃ j : Nat, j ≤ 1 ∧ i = .int .i64 ((j : Int) - 1) ∧ Hid (NumRel w wr p q F4 1 x j)) (fun i _ => (intOf i + 1).toNat)
    case atStart => exact ⟨1, by omega, by simp, Lib.hid ⟨⟨_, H4b.out, A4.out, fun i hi => by omega⟩, H4.out, G5.out⟩⟩
    case round =>
      obtain ⟨j, hj, rfl, R⟩ := hrel
      have hj' : j = 0 ∨ j = 1 := by omega
      obtain ⟨⟨G, r1, r2, r3⟩, r4, r5⟩ := R.out
      have R1 := Lib.hid r1
      have R2 := Lib.hid r2
      have R3 := Lib.hid r3
      have R4 := Lib.hid r4
      have R5 := Lib.hid r5
      clear r1 r2 r3 r4 r5 R
      rcases hj' with rfl | rfl
      · go_wp2_with fail
        with_reducible refine (bdone_ok wr _ p 100 _ R4.out).mono ?_
        rintro e w5 ⟨rfl, b5, g5, l5⟩
        have B5 := Lib.hid b5
        have R1' := Lib.hid (R1.out.fr (Fr.of_grew g5) (fun _ _ h => by cases h))
        clear b5
        rw [be_length]
        generalize hy : wr.heap.size = y at *
        have HY := Lib.hid hy
        clear hy
        go_wp2_with fail
        with_reducible refine (bdone_ok w5 _ q 100 _ R1'.out).mono ?_
        rintro e w6 ⟨rfl, b6, g6, l6⟩
        rw [be_length]
        have b5' := B5.out.fr (Fr.of_grew g6) (fun _ _ h => by cases h)
        have c5 := conv_txt w6 Try.underlying32 Try.underlying5 Try.underlying9 b5'.byt (be_length _ _).symm 1
        have c6 := conv_txt w6 Try.underlying32 Try.underlying5 Try.underlying9 b6.byt (be_length _ _).symm 1
        simp only [Nat.sub_zero, Nat.pow_zero, Nat.div_one] at c6
        generalize txt (be 1 x) = X at *
        clear b5' b6
        go_wp2_with fail
        go_ret
        exact ⟨rfl, grew_below (grew_trans (grew_trans R5.out g5) g6) (Nat.le_refl _) (fun _ h => by cases h)⟩
      · have hv : bits BinOp.and IntKind.u64 (x : Int) 255 = ((x / 256 ^ 0 % 256 : Nat) : Int) := by
          rw [show (x : Int) = ((x / 256 ^ 0 : Nat) : Int) from by simp]
          exact and255 _ (by omega)
        have hVl : x / 256 ^ 0 % 256 < 256 := by omega
        generalize hV : x / 256 ^ 0 % 256 = V at *
        have HV := Lib.hid hV
        clear hV
        go_wp2_with fail
        with_reducible refine (bnumber_one wr _ q 100 _ _ R1.out V hVl (by rw [be_length]; omega)).mono ?_
        rintro e w5 ⟨rfl, h5⟩
        rw [← HV.out] at h5
        rw [show be (1 - 1) (x / 256 ^ 1) ++ [UInt8.ofNat (x / 256 ^ 0 % 256)] = be (1 - 0) (x / 256 ^ 0) from be_step 1 0 x (by omega)] at h5
        obtain ⟨G', h6, g6, f6, r6, n6⟩ := h5.grew R5.out (fun i hi => by have := R3.out i hi; have := HP.out; omega)
        have HR := Lib.hid (show NumRel w w5 p q F4 1 x 0 from ⟨⟨G', h6, fun i hi hg => apart_out n6 (fun i hi hj => R2.out i hj hi) R4.out.has i hg hi, fun i hi => by have := f6 i hi; have := HP.out; omega⟩, R4.out.fr r6 R2.out, g6⟩)
        clear h5 h6 g6 f6 r6 n6 hv
        go_wp2_with fail
        go_roundw
        case rel => exact ⟨0, by omega, rfl, HR⟩
        case measure => simp [intOf]
  · skip
    have hneg : ¬ 0 < (x : Int) / 65536 := by have := HL.out; omega
    go_wp2_with fail
    go_loopw [10] (fun i wr => ∃ j : Nat, j ≤ 2 ∧ i = .int .i64 ((j : Int) - 1) ∧ Hid (NumRel w wr p q F4 2 x j)) (fun i _ => (intOf i + 1).toNat)
    case atStart => exact ⟨2, by omega, by simp, Lib.hid ⟨⟨_, H4b.out, A4.out, fun i hi => by omega⟩, H4.out, G5.out⟩⟩
    case round =>
      obtain ⟨j, hj, rfl, R⟩ := hrel
      have hj' : j = 0 ∨ j = 1 ∨ j = 2 := by omega
      obtain ⟨⟨G, r1, r2, r3⟩, r4, r5⟩ := R.out
      have R1 := Lib.hid r1
      have R2 := Lib.hid r2
      have R3 := Lib.hid r3
      have R4 := Lib.hid r4
      have R5 := Lib.hid r5
      clear r1 r2 r3 r4 r5 R
      rcases hj' with rfl | rfl | rfl
      · go_wp2_with fail
        with_reducible refine (bdone_ok wr _ p 100 _ R4.out).mono ?_
        rintro e w5 ⟨rfl, b5, g5, l5⟩
        have B5 := Lib.hid b5
        have R1' := Lib.hid (R1.out.fr (Fr.of_grew g5) (fun _ _ h => by cases h))
        clear b5
        rw [be_length]
        generalize hy : wr.heap.size = y at *
        have HY := Lib.hid hy
        clear hy
        go_wp2_with fail
        with_reducible refine (bdone_ok w5 _ q 100 _ R1'.out).mono ?_
        rintro e w6 ⟨rfl, b6, g6, l6⟩
        rw [be_length]
        have b5' := B5.out.fr (Fr.of_grew g6) (fun _ _ h => by cases h)
        have c5 := conv_txt w6 Try.underlying32 Try.underlying5 Try.underlying9 b5'.byt (be_length _ _).symm 2
        have c6 := conv_txt w6 Try.underlying32 Try.underlying5 Try.underlying9 b6.byt (be_length _ _).symm 2
        simp only [Nat.sub_zero, Nat.pow_zero, Nat.div_one] at c6
        generalize txt (be 2 x) = X at *
        clear b5' b6
        go_wp2_with fail
        go_ret
        exact ⟨rfl, grew_below (grew_trans (grew_trans R5.out g5) g6) (Nat.le_refl _) (fun _ h => by cases h)⟩
      · have hv : bits BinOp.and IntKind.u64 (x : Int) 255 = ((x / 256 ^ 0 % 256 : Nat) : Int) := by
          rw [show (x : Int) = ((x / 256 ^ 0 : Nat) : Int) from by simp]
          exact and255 _ (by omega)
        have hVl : x / 256 ^ 0 % 256 < 256 := by omega
        generalize hV : x / 256 ^ 0 % 256 = V at *
        have HV := Lib.hid hV
        clear hV
        go_wp2_with fail
        with_reducible refine (bnumber_one wr _ q 100 _ _ R1.out V hVl (by rw [be_length]; omega)).mono ?_
        rintro e w5 ⟨rfl, h5⟩
        rw [← HV.out] at h5
        rw [show be (2 - 1) (x / 256 ^ 1) ++ [UInt8.ofNat (x / 256 ^ 0 % 256)] = be (2 - 0) (x / 256 ^ 0) from be_step 2 0 x (by omega)] at h5
        obtain ⟨G', h6, g6, f6, r6, n6⟩ := h5.grew R5.out (fun i hi => by have := R3.out i hi; have := HP.out; omega)
        have HR := Lib.hid (show NumRel w w5 p q F4 2 x 0 from ⟨⟨G', h6, fun i hi hg => apart_out n6 (fun i hi hj => R2.out i hj hi) R4.out.has i hg hi, fun i hi => by have := f6 i hi; have := HP.out; omega⟩, R4.out.fr r6 R2.out, g6⟩)
        clear h5 h6 g6 f6 r6 n6 hv
        go_wp2_with fail
        go_roundw
        case rel => exact ⟨0, by omega, rfl, HR⟩
        case measure => simp [intOf]
      · have hv : bits BinOp.and IntKind.u64 ((x : Int) / 256) 255 = ((x / 256 ^ 1 % 256 : Nat) : Int) := by
          rw [show ((x : Int) / 256) = ((x / 256 ^ 1 : Nat) : Int) from by simp]
          exact and255 _ (by omega)
        have hVl : x / 256 ^ 1 % 256 < 256 := by omega
        generalize hV : x / 256 ^ 1 % 256 = V at *
        have HV := Lib.hid hV
        clear hV
        go_wp2_with fail
        with_reducible refine (bnumber_one wr _ q 100 _ _ R1.out V hVl (by rw [be_length]; omega)).mono ?_
        rintro e w5 ⟨rfl, h5⟩
        rw [← HV.out] at h5
        rw [show be (2 - 2) (x / 256 ^ 2) ++ [UInt8.ofNat (x / 256 ^ 1 % 256)] = be (2 - 1) (x / 256 ^ 1) from be_step 2 1 x (by omega)] at h5
        obtain ⟨G', h6, g6, f6, r6, n6⟩ := h5.grew R5.out (fun i hi => by have := R3.out i hi; have := HP.out; omega)
        have HR := Lib.hid (show NumRel w w5 p q F4 2 x 1 from ⟨⟨G', h6, fun i hi hg => apart_out n6 (fun i hi hj => R2.out i hj hi) R4.out.has i hg hi, fun i hi => by have := f6 i hi; have := HP.out; omega⟩, R4.out.fr r6 R2.out, g6⟩)
        clear h5 h6 g6 f6 r6 n6 hv
        go_wp2_with fail
        go_roundw
        case rel => exact ⟨1, by omega, rfl, HR⟩
        case measure => simp [intOf]
  · skip
    have hneg : ¬ 0 < (x : Int) / 16777216 := by have := HL.out; omega
    go_wp2_with fail
    go_loopw [10] (fun i wr => ∃ j : Nat, j ≤ 3 ∧ i = .int .i64 ((j : Int) - 1) ∧ Hid (NumRel w wr p q F4 3 x j)) (fun i _ => (intOf i + 1).toNat)
    case atStart => exact ⟨3, by omega, by simp, Lib.hid ⟨⟨_, H4b.out, A4.out, fun i hi => by omega⟩, H4.out, G5.out⟩⟩
    case round =>
      obtain ⟨j, hj, rfl, R⟩ := hrel
      have hj' : j = 0 ∨ j = 1 ∨ j = 2 ∨ j = 3 := by omega
      obtain ⟨⟨G, r1, r2, r3⟩, r4, r5⟩ := R.out
      have R1 := Lib.hid r1
      have R2 := Lib.hid r2
      have R3 := Lib.hid r3
      have R4 := Lib.hid r4
      have R5 := Lib.hid r5
      clear r1 r2 r3 r4 r5 R
      rcases hj' with rfl | rfl | rfl | rfl
      · go_wp2_with fail
        with_reducible refine (bdone_ok wr _ p 100 _ R4.out).mono ?_
        rintro e w5 ⟨rfl, b5, g5, l5⟩
        have B5 := Lib.hid b5
        have R1' := Lib.hid (R1.out.fr (Fr.of_grew g5) (fun _ _ h => by cases h))
        clear b5
        rw [be_length]
        generalize hy : wr.heap.size = y at *
        have HY := Lib.hid hy
        clear hy
        go_wp2_with fail
        with_reducible refine (bdone_ok w5 _ q 100 _ R1'.out).mono ?_
        rintro e w6 ⟨rfl, b6, g6, l6⟩
        rw [be_length]
        have b5' := B5.out.fr (Fr.of_grew g6) (fun _ _ h => by cases h)
        have c5 := conv_txt w6 Try.underlying32 Try.underlying5 Try.underlying9 b5'.byt (be_length _ _).symm 3
        have c6 := conv_txt w6 Try.underlying32 Try.underlying5 Try.underlying9 b6.byt (be_length _ _).symm 3
        simp only [Nat.sub_zero, Nat.pow_zero, Nat.div_one] at c6
        generalize txt (be 3 x) = X at *
        clear b5' b6
        go_wp2_with fail
        go_ret
        exact ⟨rfl, grew_below (grew_trans (grew_trans R5.out g5) g6) (Nat.le_refl _) (fun _ h => by cases h)⟩
      · have hv : bits BinOp.and IntKind.u64 (x : Int) 255 = ((x / 256 ^ 0 % 256 : Nat) : Int) := by
          rw [show (x : Int) = ((x / 256 ^ 0 : Nat) : Int) from by simp]
          exact and255 _ (by omega)
        have hVl : x / 256 ^ 0 % 256 < 256 := by omega
        generalize hV : x / 256 ^ 0 % 256 = V at *
        have HV := Lib.hid hV
        clear hV
        go_wp2_with fail
        with_reducible refine (bnumber_one wr _ q 100 _ _ R1.out V hVl (by rw [be_length]; omega)).mono ?_
        rintro e w5 ⟨rfl, h5⟩
        rw [← HV.out] at h5
        rw [show be (3 - 1) (x / 256 ^ 1) ++ [UInt8.ofNat (x / 256 ^ 0 % 256)] = be (3 - 0) (x / 256 ^ 0) from be_step 3 0 x (by omega)] at h5
        obtain ⟨G', h6, g6, f6, r6, n6⟩ := h5.grew R5.out (fun i hi => by have := R3.out i hi; have := HP.out; omega)
        have HR := Lib.hid (show NumRel w w5 p q F4 3 x 0 from ⟨⟨G', h6, fun i hi hg => apart_out n6 (fun i hi hj => R2.out i hj hi) R4.out.has i hg hi, fun i hi => by have := f6 i hi; have := HP.out; omega⟩, R4.out.fr r6 R2.out, g6⟩)
        clear h5 h6 g6 f6 r6 n6 hv
        go_wp2_with fail
        go_roundw
        case rel => exact ⟨0, by omega, rfl, HR⟩
        case measure => simp [intOf]
      · have hv : bits BinOp.and IntKind.u64 ((x : Int) / 256) 255 = ((x / 256 ^ 1 % 256 : Nat) : Int) := by
          rw [show ((x : Int) / 256) = ((x / 256 ^ 1 : Nat) : Int) from by simp]
          exact and255 _ (by omega)
        have hVl : x / 256 ^ 1 % 256 < 256 := by omega
        generalize hV : x / 256 ^ 1 % 256 = V at *
        have HV := Lib.hid hV
        clear hV
        go_wp2_with fail
        with_reducible refine (bnumber_one wr _ q 100 _ _ R1.out V hVl (by rw [be_length]; omega)).mono ?_
        rintro e w5 ⟨rfl, h5⟩
        rw [← HV.out] at h5
        rw [show be (3 - 2) (x / 256 ^ 2) ++ [UInt8.ofNat (x / 256 ^ 1 % 256)] = be (3 - 1) (x / 256 ^ 1) from be_step 3 1 x (by omega)] at h5
        obtain ⟨G', h6, g6, f6, r6, n6⟩ := h5.grew R5.out (fun i hi => by have := R3.out i hi; have := HP.out; omega)
        have HR := Lib.hid (show NumRel w w5 p q F4 3 x 1 from ⟨⟨G', h6, fun i hi hg => apart_out n6 (fun i hi hj => R2.out i hj hi) R4.out.has i hg hi, fun i hi => by have := f6 i hi; have := HP.out; omega⟩, R4.out.fr r6 R2.out, g6⟩)
        clear h5 h6 g6 f6 r6 n6 hv
        go_wp2_with fail
        go_roundw
        case rel => exact ⟨1, by omega, rfl, HR⟩
        case measure => simp [intOf]
      · have hv : bits BinOp.and IntKind.u64 ((x : Int) / 65536) 255 = ((x / 256 ^ 2 % 256 : Nat) : Int) := by
          rw [show ((x : Int) / 65536) = ((x / 256 ^ 2 : Nat) : Int) from by simp]
          exact and255 _ (by omega)
        have hVl : x / 256 ^ 2 % 256 < 256 := by omega
        generalize hV : x / 256 ^ 2 % 256 = V at *
        have HV := Lib.hid hV
        clear hV
        go_wp2_with fail
        with_reducible refine (bnumber_one wr _ q 100 _ _ R1.out V hVl (by rw [be_length]; omega)).mono ?_
        rintro e w5 ⟨rfl, h5⟩
        rw [← HV.out] at h5
        rw [show be (3 - 3) (x / 256 ^ 3) ++ [UInt8.ofNat (x / 256 ^ 2 % 256)] = be (3 - 2) (x / 256 ^ 2) from be_step 3 2 x (by omega)] at h5
        obtain ⟨G', h6, g6, f6, r6, n6⟩ := h5.grew R5.out (fun i hi => by have := R3.out i hi; have := HP.out; omega)
        have HR := Lib.hid (show NumRel w w5 p q F4 3 x 2 from ⟨⟨G', h6, fun i hi hg => apart_out n6 (fun i hi hj => R2.out i hj hi) R4.out.has i hg hi, fun i hi => by have := f6 i hi; have := HP.out; omega⟩, R4.out.fr r6 R2.out, g6⟩)
        clear h5 h6 g6 f6 r6 n6 hv
        go_wp2_with fail
        go_roundw
        case rel => exact ⟨2, by omega, rfl, HR⟩
        case measure => simp [intOf]
  · skip
    have hneg : ¬ 0 < (x : Int) / 4294967296 := by have := HL.out; omega
    go_wp2_with fail
    go_loopw [10] (fun i wr => ∃ j : Nat, j ≤ 4 ∧ i = .int .i64 ((j : Int) - 1) ∧ Hid (NumRel w wr p q F4 4 x j)) (fun i _ => (intOf i + 1).toNat)
    case atStart => exact ⟨4, by omega, by simp, Lib.hid ⟨⟨_, H4b.out, A4.out, fun i hi => by omega⟩, H4.out, G5.out⟩⟩
    case round =>
      obtain ⟨j, hj, rfl, R⟩ := hrel
      have hj' : j = 0 ∨ j = 1 ∨ j = 2 ∨ j = 3 ∨ j = 4 := by omega
      obtain ⟨⟨G, r1, r2, r3⟩, r4, r5⟩ := R.out
      have R1 := Lib.hid r1
      have R2 := Lib.hid r2
      have R3 := Lib.hid r3
      have R4 := Lib.hid r4
      have R5 := Lib.hid r5
      clear r1 r2 r3 r4 r5 R
      rcases hj' with rfl | rfl | rfl | rfl | rfl
      · go_wp2_with fail
        with_reducible refine (bdone_ok wr _ p 100 _ R4.out).mono ?_
        rintro e w5 ⟨rfl, b5, g5, l5⟩
        have B5 := Lib.hid b5
        have R1' := Lib.hid (R1.out.fr (Fr.of_grew g5) (fun _ _ h => by cases h))
        clear b5
        rw [be_length]
        generalize hy : wr.heap.size = y at *
        have HY := Lib.hid hy
        clear hy
        go_wp2_with fail
        with_reducible refine (bdone_ok w5 _ q 100 _ R1'.out).mono ?_
        rintro e w6 ⟨rfl, b6, g6, l6⟩
        rw [be_length]
        have b5' := B5.out.fr (Fr.of_grew g6) (fun _ _ h => by cases h)
        have c5 := conv_txt w6 Try.underlying32 Try.underlying5 Try.underlying9 b5'.byt (be_length _ _).symm 4
        have c6 := conv_txt w6 Try.underlying32 Try.underlying5 Try.underlying9 b6.byt (be_length _ _).symm 4
        simp only [Nat.sub_zero, Nat.pow_zero, Nat.div_one] at c6
        generalize txt (be 4 x) = X at *
        clear b5' b6
        go_wp2_with fail
        go_ret
        exact ⟨rfl, grew_below (grew_trans (grew_trans R5.out g5) g6) (Nat.le_refl _) (fun _ h => by cases h)⟩
      · have hv : bits BinOp.and IntKind.u64 (x : Int) 255 = ((x / 256 ^ 0 % 256 : Nat) : Int) := by
          rw [show (x : Int) = ((x / 256 ^ 0 : Nat) : Int) from by simp]
          exact and255 _ (by omega)
        have hVl : x / 256 ^ 0 % 256 < 256 := by omega
        generalize hV : x / 256 ^ 0 % 256 = V at *
        have HV := Lib.hid hV
        clear hV
        go_wp2_with fail
        with_reducible refine (bnumber_one wr _ q 100 _ _ R1.out V hVl (by rw [be_length]; omega)).mono ?_
        rintro e w5 ⟨rfl, h5⟩
        rw [← HV.out] at h5
        rw [show be (4 - 1) (x / 256 ^ 1) ++ [UInt8.ofNat (x / 256 ^ 0 % 256)] = be (4 - 0) (x / 256 ^ 0) from be_step 4 0 x (by omega)] at h5
        obtain ⟨G', h6, g6, f6, r6, n6⟩ := h5.grew R5.out (fun i hi => by have := R3.out i hi; have := HP.out; omega)
        have HR := Lib.hid (show NumRel w w5 p q F4 4 x 0 from ⟨⟨G', h6, fun i hi hg => apart_out n6 (fun i hi hj => R2.out i hj hi) R4.out.has i hg hi, fun i hi => by have := f6 i hi; have := HP.out; omega⟩, R4.out.fr r6 R2.out, g6⟩)
        clear h5 h6 g6 f6 r6 n6 hv
        go_wp2_with fail
        go_roundw
        case rel => exact ⟨0, by omega, rfl, HR⟩
        case measure => simp [intOf]
      · have hv : bits BinOp.and IntKind.u64 ((x : Int) / 256) 255 = ((x / 256 ^ 1 % 256 : Nat) : Int) := by
          rw [show ((x : Int) / 256) = ((x / 256 ^ 1 : Nat) : Int) from by simp]
          exact and255 _ (by omega)
        have hVl : x / 256 ^ 1 % 256 < 256 := by omega
        generalize hV : x / 256 ^ 1 % 256 = V at *
        have HV := Lib.hid hV
        clear hV
        go_wp2_with fail
        with_reducible refine (bnumber_one wr _ q 100 _ _ R1.out V hVl (by rw [be_length]; omega)).mono ?_
        rintro e w5 ⟨rfl, h5⟩
        rw [← HV.out] at h5
        rw [show be (4 - 2) (x / 256 ^ 2) ++ [UInt8.ofNat (x / 256 ^ 1 % 256)] = be (4 - 1) (x / 256 ^ 1) from be_step 4 1 x (by omega)] at h5
        obtain ⟨G', h6, g6, f6, r6, n6⟩ := h5.grew R5.out (fun i hi => by have := R3.out i hi; have := HP.out; omega)
        have HR := Lib.hid (show NumRel w w5 p q F4 4 x 1 from ⟨⟨G', h6, fun i hi hg => apart_out n6 (fun i hi hj => R2.out i hj hi) R4.out.has i hg hi, fun i hi => by have := f6 i hi; have := HP.out; omega⟩, R4.out.fr r6 R2.out, g6⟩)
        clear h5 h6 g6 f6 r6 n6 hv
        go_wp2_with fail
        go_roundw
        case rel => exact ⟨1, by omega, rfl, HR⟩
        case measure => simp [intOf]
      · have hv : bits BinOp.and IntKind.u64 ((x : Int) / 65536) 255 = ((x / 256 ^ 2 % 256 : Nat) : Int) := by
          rw [show ((x : Int) / 65536) = ((x / 256 ^ 2 : Nat) : Int) from by simp]
          exact and255 _ (by omega)
        have hVl : x / 256 ^ 2 % 256 < 256 := by omega
        generalize hV : x / 256 ^ 2 % 256 = V at *
        have HV := Lib.hid hV
        clear hV
        go_wp2_with fail
        with_reducible refine (bnumber_one wr _ q 100 _ _ R1.out V hVl (by rw [be_length]; omega)).mono ?_
        rintro e w5 ⟨rfl, h5⟩
        rw [← HV.out] at h5
        rw [show be (4 - 3) (x / 256 ^ 3) ++ [UInt8.ofNat (x / 256 ^ 2 % 256)] = be (4 - 2) (x / 256 ^ 2) from be_step 4 2 x (by omega)] at h5
        obtain ⟨G', h6, g6, f6, r6, n6⟩ := h5.grew R5.out (fun i hi => by have := R3.out i hi; have := HP.out; omega)
        have HR := Lib.hid (show NumRel w w5 p q F4 4 x 2 from ⟨⟨G', h6, fun i hi hg => apart_out n6 (fun i hi hj => R2.out i hj hi) R4.out.has i hg hi, fun i hi => by have := f6 i hi; have := HP.out; omega⟩, R4.out.fr r6 R2.out, g6⟩)
        clear h5 h6 g6 f6 r6 n6 hv
        go_wp2_with fail
        go_roundw
        case rel => exact ⟨2, by omega, rfl, HR⟩
        case measure => simp [intOf]
      · have hv : bits BinOp.and IntKind.u64 ((x : Int) / 16777216) 255 = ((x / 256 ^ 3 % 256 : Nat) : Int) := by
          rw [show ((x : Int) / 16777216) = ((x / 256 ^ 3 : Nat) : Int) from by simp]
          exact and255 _ (by omega)
        have hVl : x / 256 ^ 3 % 256 < 256 := by omega
        generalize hV : x / 256 ^ 3 % 256 = V at *
        have HV := Lib.hid hV
        clear hV
        go_wp2_with fail
        with_reducible refine (bnumber_one wr _ q 100 _ _ R1.out V hVl (by rw [be_length]; omega)).mono ?_
        rintro e w5 ⟨rfl, h5⟩
        rw [← HV.out] at h5
        rw [show be (4 - 4) (x / 256 ^ 4) ++ [UInt8.ofNat (x / 256 ^ 3 % 256)] = be (4 - 3) (x / 256 ^ 3) from be_step 4 3 x (by omega)] at h5
        obtain ⟨G', h6, g6, f6, r6, n6⟩ := h5.grew R5.out (fun i hi => by have := R3.out i hi; have := HP.out; omega)
        have HR := Lib.hid (show NumRel w w5 p q F4 4 x 3 from ⟨⟨G', h6, fun i hi hg => apart_out n6 (fun i hi hj => R2.out i hj hi) R4.out.has i hg hi, fun i hi => by have := f6 i hi; have := HP.out; omega⟩, R4.out.fr r6 R2.out, g6⟩)
        clear h5 h6 g6 f6 r6 n6 hv
        go_wp2_with fail
        go_roundw
        case rel => exact ⟨3, by omega, rfl, HR⟩
        case measure => simp [intOf]
  · skip
    go_wp2_with fail
    go_loopw [10] (fun i wr => ∃ j : Nat, j ≤ 8 ∧ i = .int .i64 ((j : Int) - 1) ∧ Hid (NumRel w wr p q F4 8 x j)) (fun i _ => (intOf i + 1).toNat)
    case atStart => exact ⟨8, by omega, by simp, Lib.hid ⟨⟨_, H4b.out, A4.out, fun i hi => by omega⟩, H4.out, G5.out⟩⟩
    case round =>
      obtain ⟨j, hj, rfl, R⟩ := hrel
      have hj' : j = 0 ∨ j = 1 ∨ j = 2 ∨ j = 3 ∨ j = 4 ∨ j = 5 ∨ j = 6 ∨ j = 7 ∨ j = 8 := by omega
      obtain ⟨⟨G, r1, r2, r3⟩, r4, r5⟩ := R.out
      have R1 := Lib.hid r1
      have R2 := Lib.hid r2
      have R3 := Lib.hid r3
      have R4 := Lib.hid r4
      have R5 := Lib.hid r5
      clear r1 r2 r3 r4 r5 R
      rcases hj' with rfl | rfl | rfl | rfl | rfl | rfl | rfl | rfl | rfl
      · go_wp2_with fail
        with_reducible refine (bdone_ok wr _ p 100 _ R4.out).mono ?_
        rintro e w5 ⟨rfl, b5, g5, l5⟩
        have B5 := Lib.hid b5
        have R1' := Lib.hid (R1.out.fr (Fr.of_grew g5) (fun _ _ h => by cases h))
        clear b5
        rw [be_length]
        generalize hy : wr.heap.size = y at *
        have HY := Lib.hid hy
        clear hy
        go_wp2_with fail
        with_reducible refine (bdone_ok w5 _ q 100 _ R1'.out).mono ?_
        rintro e w6 ⟨rfl, b6, g6, l6⟩
        rw [be_length]
        have b5' := B5.out.fr (Fr.of_grew g6) (fun _ _ h => by cases h)
        have c5 := conv_txt w6 Try.underlying32 Try.underlying5 Try.underlying9 b5'.byt (be_length _ _).symm 8
        have c6 := conv_txt w6 Try.underlying32 Try.underlying5 Try.underlying9 b6.byt (be_length _ _).symm 8
        simp only [Nat.sub_zero, Nat.pow_zero, Nat.div_one] at c6
        generalize txt (be 8 x) = X at *
        clear b5' b6
        go_wp2_with fail
        go_ret
        exact ⟨rfl, grew_below (grew_trans (grew_trans R5.out g5) g6) (Nat.le_refl _) (fun _ h => by cases h)⟩
      · have hv : bits BinOp.and IntKind.u64 (x : Int) 255 = ((x / 256 ^ 0 % 256 : Nat) : Int) := by
          rw [show (x : Int) = ((x / 256 ^ 0 : Nat) : Int) from by simp]
          exact and255 _ (by omega)
        have hVl : x / 256 ^ 0 % 256 < 256 := by omega
        generalize hV : x / 256 ^ 0 % 256 = V at *
        have HV := Lib.hid hV
        clear hV
        go_wp2_with fail
        with_reducible refine (bnumber_one wr _ q 100 _ _ R1.out V hVl (by rw [be_length]; omega)).mono ?_
        rintro e w5 ⟨rfl, h5⟩
        rw [← HV.out] at h5
        rw [show be (8 - 1) (x / 256 ^ 1) ++ [UInt8.ofNat (x / 256 ^ 0 % 256)] = be (8 - 0) (x / 256 ^ 0) from be_step 8 0 x (by omega)] at h5
        obtain ⟨G', h6, g6, f6, r6, n6⟩ := h5.grew R5.out (fun i hi => by have := R3.out i hi; have := HP.out; omega)
        have HR := Lib.hid (show NumRel w w5 p q F4 8 x 0 from ⟨⟨G', h6, fun i hi hg => apart_out n6 (fun i hi hj => R2.out i hj hi) R4.out.has i hg hi, fun i hi => by have := f6 i hi; have := HP.out; omega⟩, R4.out.fr r6 R2.out, g6⟩)
        clear h5 h6 g6 f6 r6 n6 hv
        go_wp2_with fail
        go_roundw
        case rel => exact ⟨0, by omega, rfl, HR⟩
        case measure => simp [intOf]
      · have hv : bits BinOp.and IntKind.u64 ((x : Int) / 256) 255 = ((x / 256 ^ 1 % 256 : Nat) : Int) := by
          rw [show ((x : Int) / 256) = ((x / 256 ^ 1 : Nat) : Int) from by simp]
          exact and255 _ (by omega)
        have hVl : x / 256 ^ 1 % 256 < 256 := by omega
        generalize hV : x / 256 ^ 1 % 256 = V at *
        have HV := Lib.hid hV
        clear hV
        go_wp2_with fail
        with_reducible refine (bnumber_one wr _ q 100 _ _ R1.out V hVl (by rw [be_length]; omega)).mono ?_
        rintro e w5 ⟨rfl, h5⟩
        rw [← HV.out] at h5
        rw [show be (8 - 2) (x / 256 ^ 2) ++ [UInt8.ofNat (x / 256 ^ 1 % 256)] = be (8 - 1) (x / 256 ^ 1) from be_step 8 1 x (by omega)] at h5
        obtain ⟨G', h6, g6, f6, r6, n6⟩ := h5.grew R5.out (fun i hi => by have := R3.out i hi; have := HP.out; omega)
        have HR := Lib.hid (show NumRel w w5 p q F4 8 x 1 from ⟨⟨G', h6, fun i hi hg => apart_out n6 (fun i hi hj => R2.out i hj hi) R4.out.has i hg hi, fun i hi => by have := f6 i hi; have := HP.out; omega⟩, R4.out.fr r6 R2.out, g6⟩)
        clear h5 h6 g6 f6 r6 n6 hv
        go_wp2_with fail
        go_roundw
        case rel => exact ⟨1, by omega, rfl, HR⟩
        case measure => simp [intOf]
      · have hv : bits BinOp.and IntKind.u64 ((x : Int) / 65536) 255 = ((x / 256 ^ 2 % 256 : Nat) : Int) := by
          rw [show ((x : Int) / 65536) = ((x / 256 ^ 2 : Nat) : Int) from by simp]
          exact and255 _ (by omega)
        have hVl : x / 256 ^ 2 % 256 < 256 := by omega
        generalize hV : x / 256 ^ 2 % 256 = V at *
        have HV := Lib.hid hV
        clear hV
        go_wp2_with fail
        with_reducible refine (bnumber_one wr _ q 100 _ _ R1.out V hVl (by rw [be_length]; omega)).mono ?_
        rintro e w5 ⟨rfl, h5⟩
        rw [← HV.out] at h5
        rw [show be (8 - 3) (x / 256 ^ 3) ++ [UInt8.ofNat (x / 256 ^ 2 % 256)] = be (8 - 2) (x / 256 ^ 2) from be_step 8 2 x (by omega)] at h5
        obtain ⟨G', h6, g6, f6, r6, n6⟩ := h5.grew R5.out (fun i hi => by have := R3.out i hi; have := HP.out; omega)
        have HR := Lib.hid (show NumRel w w5 p q F4 8 x 2 from ⟨⟨G', h6, fun i hi hg => apart_out n6 (fun i hi hj => R2.out i hj hi) R4.out.has i hg hi, fun i hi => by have := f6 i hi; have := HP.out; omega⟩, R4.out.fr r6 R2.out, g6⟩)
        clear h5 h6 g6 f6 r6 n6 hv
        go_wp2_with fail
        go_roundw
        case rel => exact ⟨2, by omega, rfl, HR⟩
        case measure => simp [intOf]
      · have hv : bits BinOp.and IntKind.u64 ((x : Int) / 16777216) 255 = ((x / 256 ^ 3 % 256 : Nat) : Int) := by
          rw [show ((x : Int) / 16777216) = ((x / 256 ^ 3 : Nat) : Int) from by simp]
          exact and255 _ (by omega)
        have hVl : x / 256 ^ 3 % 256 < 256 := by omega
        generalize hV : x / 256 ^ 3 % 256 = V at *
        have HV := Lib.hid hV
        clear hV
        go_wp2_with fail
        with_reducible refine (bnumber_one wr _ q 100 _ _ R1.out V hVl (by rw [be_length]; omega)).mono ?_
        rintro e w5 ⟨rfl, h5⟩
        rw [← HV.out] at h5
        rw [show be (8 - 4) (x / 256 ^ 4) ++ [UInt8.ofNat (x / 256 ^ 3 % 256)] = be (8 - 3) (x / 256 ^ 3) from be_step 8 3 x (by omega)] at h5
        obtain ⟨G', h6, g6, f6, r6, n6⟩ := h5.grew R5.out (fun i hi => by have := R3.out i hi; have := HP.out; omega)
        have HR := Lib.hid (show NumRel w w5 p q F4 8 x 3 from ⟨⟨G', h6, fun i hi hg => apart_out n6 (fun i hi hj => R2.out i hj hi) R4.out.has i hg hi, fun i hi => by have := f6 i hi; have := HP.out; omega⟩, R4.out.fr r6 R2.out, g6⟩)
        clear h5 h6 g6 f6 r6 n6 hv
        go_wp2_with fail
        go_roundw
        case rel => exact ⟨3, by omega, rfl, HR⟩
        case measure => simp [intOf]
      · have hv : bits BinOp.and IntKind.u64 ((x : Int) / 4294967296) 255 = ((x / 256 ^ 4 % 256 : Nat) : Int) := by
          rw [show ((x : Int) / 4294967296) = ((x / 256 ^ 4 : Nat) : Int) from by simp]
          exact and255 _ (by omega)
        have hVl : x / 256 ^ 4 % 256 < 256 := by omega
        generalize hV : x / 256 ^ 4 % 256 = V at *
        have HV := Lib.hid hV
        clear hV
        go_wp2_with fail
        with_reducible refine (bnumber_one wr _ q 100 _ _ R1.out V hVl (by rw [be_length]; omega)).mono ?_
        rintro e w5 ⟨rfl, h5⟩
        rw [← HV.out] at h5
        rw [show be (8 - 5) (x / 256 ^ 5) ++ [UInt8.ofNat (x / 256 ^ 4 % 256)] = be (8 - 4) (x / 256 ^ 4) from be_step 8 4 x (by omega)] at h5
        obtain ⟨G', h6, g6, f6, r6, n6⟩ := h5.grew R5.out (fun i hi => by have := R3.out i hi; have := HP.out; omega)
        have HR := Lib.hid (show NumRel w w5 p q F4 8 x 4 from ⟨⟨G', h6, fun i hi hg => apart_out n6 (fun i hi hj => R2.out i hj hi) R4.out.has i hg hi, fun i hi => by have := f6 i hi; have := HP.out; omega⟩, R4.out.fr r6 R2.out, g6⟩)
        clear h5 h6 g6 f6 r6 n6 hv
        go_wp2_with fail
        go_roundw
        case rel => exact ⟨4, by omega, rfl, HR⟩
        case measure => simp [intOf]
      · have hv : bits BinOp.and IntKind.u64 ((x : Int) / 1099511627776) 255 = ((x / 256 ^ 5 % 256 : Nat) : Int) := by
          rw [show ((x : Int) / 1099511627776) = ((x / 256 ^ 5 : Nat) : Int) from by simp]
          exact and255 _ (by omega)
        have hVl : x / 256 ^ 5 % 256 < 256 := by omega
        generalize hV : x / 256 ^ 5 % 256 = V at *
        have HV := Lib.hid hV
        clear hV
        go_wp2_with fail
        with_reducible refine (bnumber_one wr _ q 100 _ _ R1.out V hVl (by rw [be_length]; omega)).mono ?_
        rintro e w5 ⟨rfl, h5⟩
        rw [← HV.out] at h5
        rw [show be (8 - 6) (x / 256 ^ 6) ++ [UInt8.ofNat (x / 256 ^ 5 % 256)] = be (8 - 5) (x / 256 ^ 5) from be_step 8 5 x (by omega)] at h5
        obtain ⟨G', h6, g6, f6, r6, n6⟩ := h5.grew R5.out (fun i hi => by have := R3.out i hi; have := HP.out; omega)
        have HR := Lib.hid (show NumRel w w5 p q F4 8 x 5 from ⟨⟨G', h6, fun i hi hg => apart_out n6 (fun i hi hj => R2.out i hj hi) R4.out.has i hg hi, fun i hi => by have := f6 i hi; have := HP.out; omega⟩, R4.out.fr r6 R2.out, g6⟩)
        clear h5 h6 g6 f6 r6 n6 hv
        go_wp2_with fail
        go_roundw
        case rel => exact ⟨5, by omega, rfl, HR⟩
        case measure => simp [intOf]
      · have hv : bits BinOp.and IntKind.u64 ((x : Int) / 281474976710656) 255 = ((x / 256 ^ 6 % 256 : Nat) : Int) := by
          rw [show ((x : Int) / 281474976710656) = ((x / 256 ^ 6 : Nat) : Int) from by simp]
          exact and255 _ (by omega)
        have hVl : x / 256 ^ 6 % 256 < 256 := by omega
        generalize hV : x / 256 ^ 6 % 256 = V at *
        have HV := Lib.hid hV
        clear hV
        go_wp2_with fail
        with_reducible refine (bnumber_one wr _ q 100 _ _ R1.out V hVl (by rw [be_length]; omega)).mono ?_
        rintro e w5 ⟨rfl, h5⟩
        rw [← HV.out] at h5
        rw [show be (8 - 7) (x / 256 ^ 7) ++ [UInt8.ofNat (x / 256 ^ 6 % 256)] = be (8 - 6) (x / 256 ^ 6) from be_step 8 6 x (by omega)] at h5
        obtain ⟨G', h6, g6, f6, r6, n6⟩ := h5.grew R5.out (fun i hi => by have := R3.out i hi; have := HP.out; omega)
        have HR := Lib.hid (show NumRel w w5 p q F4 8 x 6 from ⟨⟨G', h6, fun i hi hg => apart_out n6 (fun i hi hj => R2.out i hj hi) R4.out.has i hg hi, fun i hi => by have := f6 i hi; have := HP.out; omega⟩, R4.out.fr r6 R2.out, g6⟩)
        clear h5 h6 g6 f6 r6 n6 hv
        go_wp2_with fail
        go_roundw
        case rel => exact ⟨6, by omega, rfl, HR⟩
        case measure => simp [intOf]
      · have hv : bits BinOp.and IntKind.u64 ((x : Int) / 72057594037927936) 255 = ((x / 256 ^ 7 % 256 : Nat) : Int) := by
          rw [show ((x : Int) / 72057594037927936) = ((x / 256 ^ 7 : Nat) : Int) from by simp]
          exact and255 _ (by omega)
        have hVl : x / 256 ^ 7 % 256 < 256 := by omega
        generalize hV : x / 256 ^ 7 % 256 = V at *
        have HV := Lib.hid hV
        clear hV
        go_wp2_with fail
        with_reducible refine (bnumber_one wr _ q 100 _ _ R1.out V hVl (by rw [be_length]; omega)).mono ?_
        rintro e w5 ⟨rfl, h5⟩
        rw [← HV.out] at h5
        rw [show be (8 - 8) (x / 256 ^ 8) ++ [UInt8.ofNat (x / 256 ^ 7 % 256)] = be (8 - 7) (x / 256 ^ 7) from be_step 8 7 x (by omega)] at h5
        obtain ⟨G', h6, g6, f6, r6, n6⟩ := h5.grew R5.out (fun i hi => by have := R3.out i hi; have := HP.out; omega)
        have HR := Lib.hid (show NumRel w w5 p q F4 8 x 7 from ⟨⟨G', h6, fun i hi hg => apart_out n6 (fun i hi hj => R2.out i hj hi) R4.out.has i hg hi, fun i hi => by have := f6 i hi; have := HP.out; omega⟩, R4.out.fr r6 R2.out, g6⟩)
        clear h5 h6 g6 f6 r6 n6 hv
        go_wp2_with fail
        go_roundw
        case rel => exact ⟨7, by omega, rfl, HR⟩
        case measure => simp [intOf]

theorem builderNumbers_walk (w : World) (k : Int) (_ : (Lit.int .i64 k).wf = true) (x : Int) (hx : (Lit.int .u64 x).wf = true) :
    Calls Try.prog 8 #[.int .i64 k, .int .u64 x] w fun e w' => e = .returned (.bool true) ∧ Below w.heap.size w w' := by
  have hb := bounds_u64 hx
  obtain ⟨y, rfl⟩ := Int.eq_ofNat_of_zero_le (a := x) (by omega)
  by_cases hk : sizeOk k
  · obtain ⟨n, rfl⟩ := Int.eq_ofNat_of_zero_le (a := k) (by unfold sizeOk at hk; omega)
    by_cases hl : y < 256 ^ n
    · exact builderNumbers_ok w n y (by omega) hk hl
    · exact builderNumbers_range w n y (by omega) hk hl
  · exact builderNumbers_arg w k y (by omega) hk

set_option maxRecDepth 100000 in
theorem builderNumbers_lifted (os : Os) (started : os.Started) (H : Type) (enc : TypeId × Value → H) :
    ReturnsInHanded {} Try.checked os 8 .any (Rows.builderNumbersSpec.pre6 enc Try.prog Try.f8 Rows.builderNumbersRow.domain false) (Rows.builderNumbersSpec.post enc Try.prog Try.f8 false true false false) := by
  refine returnsInHanded_of_change_sized (C := Try.checked) own started (by kernel_rfl) Try.func8
    (ChangeSpec.witness6 (enc := enc) (C := Try.checked) false ⟨#[], #[.int .i64 0, .int .u64 0], []⟩ 8 (by kernel_rfl) (by kernel_rfl) (by kernel_rfl) (by kernel_rfl)) ?_
  intro W base args ds gs before hval0 hW hcnd hsz0 _
  have hval : ∀ (j : Nat) t v, Try.f8.params[j]? = some t → args[j]? = some v → Value.okWide Try.prog W .any base t v := hval0
  have hsz : (DataW.weightsEach Try.prog (Try.f8.params.toList ++ Rows.builderNumbersSpec.plain.varTypes Try.prog) (ds ++ gs)).all (· ≤ reachBytes) = true := hsz0
  have hW' := hW
  obtain ⟨p, q, hA0, hV, rfl, hfz, hnd⟩ := hW
  have hA : DataW.TrodAll enc Try.prog W 0 (fun _ => true) true Try.f8.params.toList args.toList ds p := hA0
  rw [Try.params8] at hA hval hsz
  obtain ⟨v0, vs0, d0, ds0, p0, q0, hargs, rfl, rfl, h0, r0⟩ := trodAll_cons hA
  obtain ⟨v1, vs1, d1, ds1, p1, q1, rfl, rfl, rfl, h1, r1⟩ := trodAll_cons r0
  obtain ⟨rfl, rfl, rfl⟩ := trodAll_nil r1
  obtain rfl : args = #[v0, v1] := by cases args; simp_all
  obtain ⟨rfl, rfl⟩ := trodVars_none hV
  obtain ⟨a0, rfl, rfl, rfl, w0⟩ := open_int Try.underlying3 (hval 0 3 v0 rfl rfl) h0
  obtain ⟨a1, rfl, rfl, rfl, w1⟩ := open_int Try.underlying31 (hval 1 31 v1 rfl rfl) h1
  clear hA0 hval0 hsz0
  refine (builderNumbers_walk W a0 w0 a1 w1).mono fun e W' ⟨he, bel⟩ => ?_
  subst he
  exact ⟨_, rfl, _, _, _, [], _, [], hW', trodAll_mk1 (shut_bool Try.underlying4 _), (trodAll_cons_mk (shut_int Try.underlying3 w0) (trodAll_cons_mk (shut_int Try.underlying31 w1) trodAll_mk0)), rfl, bel.frame _, fun h => by cases h⟩

theorem builderNumbers_over : Rows.builderNumbersRow.holds Try.pinned (OpenSpec.ofChange Rows.builderNumbersSpec) :=
  OpenClaim.holds_of_wide 8 Try.f8 rfl rfl rfl rfl rfl rfl rfl ⟨rfl, rfl, rfl, rfl, rfl⟩ rfl rfl rfl rfl rfl (by kernel_rfl) Try.func8 (by kernel_rfl)
    (of_decide_eq_true (by kernel_rfl)) (by unfold Func.isWrapper; first | (rw [if_pos (by decide +kernel)]; kernel_rfl) | (rw [if_neg (by decide +kernel)]; exact ⟨rfl, rfl⟩))
    (fun os started H enc _ => builderNumbers_lifted os started H enc)

theorem builderNumbers_holds : Rows.BuilderNumbersSaid := builderNumbers_over
#print axioms builderNumbers_holds
end Go.Proofs.Ytkeiamihgcbcbaa

