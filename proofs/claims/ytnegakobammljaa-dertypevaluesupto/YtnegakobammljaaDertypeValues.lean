/- Of any bytes the number, the numbers of an identifier, the bits, and the times, are the document's: the law returns true. Condition: the argument holds at most 1048576 values and letters. -/
import Derived.Test.YtnegakobammljaaTv
import Derived.Test.YtnegakobammljaaOb
import Derived.Deep.RegionHeld3
namespace Go.Proofs.Ytnegakobammljaa
open Go.ChangeShapes Go.WideShapes Go.ChangeAt Go.RowKit

theorem wf_tag {n : Int} (h : (Lit.int .i64 n).wf = true) : -9223372036854775808 ≤ n ∧ n ≤ 9223372036854775807 := wf_range h

theorem arF_len : ∀ (xs : List UInt8) (x : Nat) (out r : List Nat), arF x out xs = some r → r.length ≤ out.length + xs.length + (if out = [] then 1 else 0) := by
  intro xs
  induction xs with
  | nil =>
    intro x out r h
    simp only [arF] at h
    injection h with h
    subst h
    omega
  | cons c cs ih =>
    intro x out r h
    unfold arF at h
    split at h
    · cases h
    · split at h
      · have := ih _ _ _ h
        rw [List.length_cons]
        omega
      · have := ih _ _ _ h
        by_cases h0 : out = []
        · rw [if_pos h0] at this ⊢
          subst h0
          have hne : ¬ ([] ++ arH (128 * x + c.toNat % 128) = []) := by
            unfold arH
            split
            · simp
            · split <;> simp
          have hl : (arH (128 * x + c.toNat % 128)).length = 2 := by
            unfold arH
            split
            · simp
            · split <;> simp
          rw [if_neg hne] at this
          simp only [List.nil_append, hl, List.length_nil, List.length_cons] at this ⊢
          omega
        · rw [if_neg h0] at this ⊢
          rw [if_neg (by simp)] at this
          simp only [List.length_append, List.length_cons, List.length_nil] at this ⊢
          omega
theorem arR_len (xs : List UInt8) : (arR xs).length ≤ xs.length + 1 := by
  unfold arR
  split
  · cases h : arF 0 [] xs with
    | none => simp
    | some r =>
      have := arF_len xs 0 [] r h
      simpa using this
  · simp

set_option maxRecDepth 100000 in
set_option maxHeartbeats 4000000 in
theorem dertypeValues_in (w : World) (tag : Int) (ht : (Lit.int .i64 tag).wf = true) (A : Option Addr) (c : Nat) (xs : List UInt8) (hl : xs.length ≤ c) (hb : Byt w w.heap.size A xs) (hm : xs.length ≤ 1099511627776) :
    Calls Try.prog 4 #[.int .i64 tag, .slice A xs.length c] w fun e w' => e = .returned (.bool true) ∧ Below w.heap.size w w' := by
  have htr := wf_tag ht
  obtain ⟨q, hq⟩ : ∃ q, w.heap.size = q := ⟨_, rfl⟩
  have HQ := Lib.hid hq
  have HBy := Lib.hid (show ∀ W, Below q w W ∧ q ≤ W.heap.size → Byt W W.heap.size A xs from fun W hW => byt_up (byt_below hb (hq ▸ hW.1) (Nat.le_refl _)) (by rw [hq]; exact hW.2))
  have r1 := numberC w A c xs hb hl (by unfold mxB; omega)
  have R2 := Lib.hid (fun W (h : Byt W W.heap.size A xs) => rnumber_any W A c xs h)
  have R3 := Lib.hid (fun W (h : Byt W W.heap.size A xs) => arcsC W A c xs h hl hm)
  have R4 := Lib.hid (fun W (h : Byt W W.heap.size A xs) => rarcs_any W A c xs h hm)
  have R5 := Lib.hid (fun W (h : Byt W W.heap.size A xs) => bitsC W A c xs h hl (by unfold mxB; omega))
  have R6 := Lib.hid (fun W (h : Byt W W.heap.size A xs) => rcheck_any W 3 A c xs h hl (by omega))
  have R7 := Lib.hid (fun W (h : Byt W W.heap.size A xs) => timeC W tag A c xs htr h hl (by unfold mxB; omega))
  have R8 := Lib.hid (fun W (h : Byt W W.heap.size A xs) (h23 : tag = 23 ∨ tag = 24) => show Calls Try.prog 19 #[.int .i64 tag, .slice A xs.length c] W (TimePost W tag xs) from by
    rcases h23 with rfl | rfl
    · exact rtime23 W A c xs h hl
    · exact rtime24 W A c xs h hl)
  obtain ⟨L, hL⟩ : ∃ L, xs.length = L := ⟨_, rfl⟩
  rw [hL] at r1 R2 R3 R4 R5 R6 R7 R8 hm hl ⊢
  have hck : ckE 3 xs = if bt xs then 0 else 13 := rfl
  have HCK := Lib.hid hck
  have harl : (arR xs).length ≤ 1099511627777 := by have := arR_len xs; omega
  rw [hq] at r1 ⊢
  clear ht htr hb hq
  generalize nmR xs = NR at *
  generalize nmE xs = NE at *
  go_enter Try.func4, Try.ntmps4
  go_wp2_with fail
  refine r1.mono ?_
  rintro e w1 ⟨rfl, hB1⟩
  have HB1 := Lib.hid (show Below q w w1 ∧ q ≤ w1.heap.size from ⟨hB1, by rw [← HQ.out]; rw [← HQ.out] at hB1; exact hB1.size⟩)
  clear r1 hB1
  go_wp2_with fail
  refine (R2.out w1 (HBy.out w1 HB1.out)).mono ?_
  rintro e w2 ⟨rfl, hB2⟩
  have HB2 := Lib.hid (show Below q w w2 ∧ q ≤ w2.heap.size from ⟨HB1.out.1.trans (hB2.mono HB1.out.2), Nat.le_trans HB1.out.2 hB2.size⟩)
  clear R2 hB2 HB1
  go_wp2_with fail
  refine (R3.out w2 (HBy.out w2 HB2.out)).mono ?_
  rintro e w3 ⟨G1, cg1, rfl, hg1, hB3⟩
  have HG1 := Lib.hid hg1
  have HB3 := Lib.hid (show Below q w w3 ∧ q ≤ w3.heap.size from ⟨HB2.out.1.trans (hB3.mono HB2.out.2), Nat.le_trans HB2.out.2 hB3.size⟩)
  clear R3 hB3 HB2 hg1
  go_wp2_with fail
  refine (R4.out w3 (HBy.out w3 HB3.out)).mono ?_
  rintro e w4 ⟨v4, rfl, ho4, hB4⟩
  obtain ⟨-, G2, cg2, rfl⟩ := own64_form ho4
  have HG2 := Lib.hid (R64.own ho4)
  have HG14 := Lib.hid (show R64 w4 w3.heap.size G1 (arR xs) ∧ w3.heap.size ≤ w4.heap.size from ⟨HG1.out.below hB4 (Nat.le_refl _), hB4.size⟩)
  have HB4 := Lib.hid (show Below q w w4 ∧ q ≤ w4.heap.size from ⟨HB3.out.1.trans (hB4.mono HB3.out.2), Nat.le_trans HB3.out.2 hB4.size⟩)
  clear R4 hB4 HB3 ho4 HG1
  generalize arE xs = AE at *
  go_wp2_with fail
  refine (aliveC w4).mono ?_
  rintro e w5 ⟨rfl, hB5⟩
  have HG5 := Lib.hid (show R64 w5 w5.heap.size G1 (arR xs) ∧ R64 w5 w5.heap.size G2 (arR xs) from ⟨fun h0 => by obtain ⟨b', o', e', h1, h2⟩ := (HG14.out.1.below (hB5.mono HG14.out.2) (Nat.le_refl _)) h0; exact ⟨b', o', e', by have := HG14.out.2; have := hB5.size; omega, h2⟩, fun h0 => by obtain ⟨b', o', e', h1, h2⟩ := (HG2.out.below hB5 (Nat.le_refl _)) h0; exact ⟨b', o', e', by have := hB5.size; omega, h2⟩⟩)
  have HB5 := Lib.hid (show Below q w w5 ∧ q ≤ w5.heap.size from ⟨HB4.out.1.trans (hB5.mono HB4.out.2), Nat.le_trans HB4.out.2 hB5.size⟩)
  clear hB5 HB4 HG2 HG14
  have R9 := Lib.hid (same_n w5 G1 G2 cg1 cg2 (arR xs) (arR xs).length rfl HG5.out.1 HG5.out.2 harl)
  generalize (arR xs).length = n at *
  clear harl HG5
  go_wp2_with fail
  refine R9.out.mono ?_
  rintro e w6 ⟨rfl, hB6⟩
  have HB6 := Lib.hid (show Below q w w6 ∧ q ≤ w6.heap.size from ⟨HB5.out.1.trans (hB6.mono HB5.out.2), Nat.le_trans HB5.out.2 hB6.size⟩)
  clear hB6 HB5 R9
  go_wp2_with fail
  cases hbt : bt xs with
  | false =>
    rw [hbt] at R5 HCK
    have R5' := Lib.hid (fun W (h : Byt W W.heap.size A xs) => (R5.out W h).mono (fun e w' (hh : _) => (by
      obtain ⟨A', c', ys, hys, he, _, _, hB⟩ := hh
      rw [if_neg (by simp)] at hys
      subst hys
      exact ⟨A', c', he, hB⟩ : ∃ (A' : Option Addr) (c' : Nat), e = .returned (.tuple #[.slice A' 0 c', .int .i64 0, .int .i64 13]) ∧ Below W.heap.size W w')))
    have R6' := Lib.hid (fun W (h : Byt W W.heap.size A xs) => (R6.out W h).mono (fun e w' (hh : _ ∧ _) => (⟨by rw [hh.1, HCK.out]; rfl, hh.2⟩ : e = .returned (.int .i64 13) ∧ Below W.heap.size W w')))
    clear R5 R6 HCK hbt hck
    refine (R5'.out w6 (HBy.out w6 HB6.out)).mono ?_
    rintro e w7 ⟨A7, c7, rfl, hB7⟩
    have HB7 := Lib.hid (show Below q w w7 ∧ q ≤ w7.heap.size from ⟨HB6.out.1.trans (hB7.mono HB6.out.2), Nat.le_trans HB6.out.2 hB7.size⟩)
    clear R5' hB7 HB6
    go_wp2_with fail
    refine (R6'.out w7 (HBy.out w7 HB7.out)).mono ?_
    rintro e w8 ⟨rfl, hB8⟩
    have HB8 := Lib.hid (show Below q w w8.drew ∧ q ≤ w8.drew.heap.size from ⟨(HB7.out.1.trans (hB8.mono HB7.out.2)).drew, Nat.le_trans HB7.out.2 hB8.size⟩)
    clear R6' hB8 HB7
    go_upto_region 9 with (fail)
    go_quiet (fail)
    have HB8n := Lib.hid (show Below q w (w8.drewN nq) ∧ q ≤ (w8.drewN nq).heap.size from ⟨⟨HB8.out.1.os, HB8.out.1.tape, HB8.out.1.output, HB8.out.1.size, HB8.out.1.block⟩, HB8.out.2⟩)
    generalize w8.drewN nq = w8n at *
    clear HB8
    by_cases h23 : tag = 23 ∨ tag = 24
    · have R7' := Lib.hid (fun W (h : Byt W W.heap.size A xs) => (R7.out W h).mono (fun e w' (hh : _ ∧ _) => (⟨by rw [hh.1, if_pos h23, show (if (tag = 23 ∨ tag = 24) ∧ tyOk tag xs = true then tyL tag xs else [0, 0, 0, 0, 0, 0]) = (if tyOk tag xs = true then tyL tag xs else [0, 0, 0, 0, 0, 0]) from by
          cases tyOk tag xs
          · rw [if_neg (fun h => by cases h.2), if_neg (by simp)]
          · rw [if_pos ⟨h23, rfl⟩, if_pos rfl]], hh.2⟩ : e = .returned (.tuple #[agg6 (if tyOk tag xs = true then tyL tag xs else [0, 0, 0, 0, 0, 0]), .int .i64 (if tyOk tag xs = true then 0 else 13)]) ∧ Below W.heap.size W w')))
      have R8' := Lib.hid (fun W (h : Byt W W.heap.size A xs) => R8.out W h h23)
      unfold TimePost at R8'
      obtain ⟨R, hR⟩ : ∃ R, tyOk tag xs = R := ⟨_, rfl⟩
      obtain ⟨v0, v1, v2, v3, v4, v5, hv⟩ : ∃ v0 v1 v2 v3 v4 v5 : Int, (if tyOk tag xs = true then tyL tag xs else [0, 0, 0, 0, 0, 0]) = [v0, v1, v2, v3, v4, v5] := agg6_form _ (by split <;> rfl)
      obtain ⟨E7, hE7⟩ : ∃ E7 : Int, (if tyOk tag xs = true then 0 else 13) = E7 := ⟨_, rfl⟩
      have HE7 := Lib.hid (show (R = true ∧ E7 = 0) ∨ (R = false ∧ E7 = 13) by
        rw [hR] at hE7
        cases R
        · exact .inr ⟨rfl, hE7.symm⟩
        · exact .inl ⟨rfl, hE7.symm⟩)
      rw [hv, hE7] at R7'
      rw [hv, hR] at R8'
      rw [show agg6 [v0, v1, v2, v3, v4, v5] = mo6 v0 v1 v2 v3 v4 v5 from rfl] at R7' R8'
      have hq6 := eq6 v0 v1 v2 v3 v4 v5
      have hgd := guard6
      have HT := Lib.hid h23
      clear R7 R8 hR hv hE7
      rcases h23 with rfl | rfl
      all_goals
        clear HT
        go_wp2_with fail
        refine (R7'.out w8n (HBy.out w8n HB8n.out)).mono ?_
        rintro e w9 ⟨rfl, hB9⟩
        have HB9 := Lib.hid (show Below q w (w9.alloc (.cells #[.int .i64 v0, .int .i64 v1, .int .i64 v2, .int .i64 v3, .int .i64 v4, .int .i64 v5] 40)) ∧ q ≤ (w9.alloc (.cells #[.int .i64 v0, .int .i64 v1, .int .i64 v2, .int .i64 v3, .int .i64 v4, .int .i64 v5] 40)).heap.size from ⟨(HB8n.out.1.trans (hB9.mono HB8n.out.2)).alloc (Nat.le_trans HB8n.out.2 hB9.size) _, by have := Nat.le_trans HB8n.out.2 hB9.size; simp; omega⟩)
        have HK9 := Lib.hid (Whole.new w9 #[.int .i64 v0, .int .i64 v1, .int .i64 v2, .int .i64 v3, .int .i64 v4, .int .i64 v5] 40)
        clear hB9 R7'
        go_upto_region 12 with (fail)
        generalize w9.alloc (.cells #[.int .i64 v0, .int .i64 v1, .int .i64 v2, .int .i64 v3, .int .i64 v4, .int .i64 v5] 40) = W9 at *
        generalize w9.heap.size = p9 at *
        go_wp2_with fail
        refine (R8'.out W9 (HBy.out W9 HB9.out)).mono ?_
        rintro e wa ⟨rfl, hBa⟩
        have HBa := Lib.hid (show Below q w (wa.alloc (.cells #[.int .i64 v0, .int .i64 v1, .int .i64 v2, .int .i64 v3, .int .i64 v4, .int .i64 v5] 40)) from (HB9.out.1.trans (hBa.mono HB9.out.2)).alloc (Nat.le_trans HB9.out.2 hBa.size) _)
        have HKa := Lib.hid (Whole.new wa #[.int .i64 v0, .int .i64 v1, .int .i64 v2, .int .i64 v3, .int .i64 v4, .int .i64 v5] 40)
        have HK9a := Lib.hid (show Whole (wa.alloc (.cells #[.int .i64 v0, .int .i64 v1, .int .i64 v2, .int .i64 v3, .int .i64 v4, .int .i64 v5] 40)) p9 #[.int .i64 v0, .int .i64 v1, .int .i64 v2, .int .i64 v3, .int .i64 v4, .int .i64 v5] 40 from
          (show Whole wa p9 #[.int .i64 v0, .int .i64 v1, .int .i64 v2, .int .i64 v3, .int .i64 v4, .int .i64 v5] 40 from (hBa.block p9 HK9.out.lt).trans HK9.out).grew (grew_alloc (grew_refl wa none) _) (by simp))
        clear hBa R8' HK9
        go_upto_region 15 with (fail)
        generalize wa.alloc (.cells #[.int .i64 v0, .int .i64 v1, .int .i64 v2, .int .i64 v3, .int .i64 v4, .int .i64 v5] 40) = Wa at *
        generalize wa.heap.size = pa at *
        have a0 : Wa.cell? ⟨p9, 0, none⟩ = some (.int .i64 v0) := HK9a.out.cell 0
        have a1 : Wa.cell? ⟨p9, 1, none⟩ = some (.int .i64 v1) := HK9a.out.cell 1
        have a2 : Wa.cell? ⟨p9, 2, none⟩ = some (.int .i64 v2) := HK9a.out.cell 2
        have a3 : Wa.cell? ⟨p9, 3, none⟩ = some (.int .i64 v3) := HK9a.out.cell 3
        have a4 : Wa.cell? ⟨p9, 4, none⟩ = some (.int .i64 v4) := HK9a.out.cell 4
        have a5 : Wa.cell? ⟨p9, 5, none⟩ = some (.int .i64 v5) := HK9a.out.cell 5
        have b0 : Wa.cell? ⟨pa, 0, none⟩ = some (.int .i64 v0) := HKa.out.cell 0
        have b1 : Wa.cell? ⟨pa, 1, none⟩ = some (.int .i64 v1) := HKa.out.cell 1
        have b2 : Wa.cell? ⟨pa, 2, none⟩ = some (.int .i64 v2) := HKa.out.cell 2
        have b3 : Wa.cell? ⟨pa, 3, none⟩ = some (.int .i64 v3) := HKa.out.cell 3
        have b4 : Wa.cell? ⟨pa, 4, none⟩ = some (.int .i64 v4) := HKa.out.cell 4
        have b5 : Wa.cell? ⟨pa, 5, none⟩ = some (.int .i64 v5) := HKa.out.cell 5
        rcases HE7.out with ⟨rfl, rfl⟩ | ⟨rfl, rfl⟩
        all_goals
          go_wp2_with fail
          go_ret
          exact ⟨rfl, HBa.out⟩
    · have R7' := Lib.hid (fun W (h : Byt W W.heap.size A xs) => (R7.out W h).mono (fun e w' (hh : _ ∧ _) => (⟨by rw [hh.1, if_neg h23, if_neg (fun h => h23 h.1)]; rfl, hh.2⟩ : e = .returned (.tuple #[mo6 0 0 0 0 0 0, .int .i64 2]) ∧ Below W.heap.size W w')))
      have n23 : (tag != 23) = true := bne_iff_ne.2 (fun h => h23 (.inl h))
      have n24 : (tag != 24) = true := bne_iff_ne.2 (fun h => h23 (.inr h))
      have hq6 := eq6 0 0 0 0 0 0
      have hgd := guard6
      clear R7 R8 h23
      go_wp2_with fail
      refine (R7'.out w8n (HBy.out w8n HB8n.out)).mono ?_
      rintro e w9 ⟨rfl, hB9⟩
      have HB9 := Lib.hid (show Below q w (w9.alloc (.cells #[.int .i64 0, .int .i64 0, .int .i64 0, .int .i64 0, .int .i64 0, .int .i64 0] 40)) from (HB8n.out.1.trans (hB9.mono HB8n.out.2)).alloc (Nat.le_trans HB8n.out.2 hB9.size) _)
      have HK9 := Lib.hid (Whole.new w9 #[.int .i64 0, .int .i64 0, .int .i64 0, .int .i64 0, .int .i64 0, .int .i64 0] 40)
      clear hB9 R7'
      go_upto_region 12 with (fail)
      generalize w9.alloc (.cells #[.int .i64 0, .int .i64 0, .int .i64 0, .int .i64 0, .int .i64 0, .int .i64 0] 40) = W9 at *
      generalize w9.heap.size = p9 at *
      have a0 : W9.cell? ⟨p9, 0, none⟩ = some (.int .i64 0) := HK9.out.cell 0
      have a1 : W9.cell? ⟨p9, 1, none⟩ = some (.int .i64 0) := HK9.out.cell 1
      have a2 : W9.cell? ⟨p9, 2, none⟩ = some (.int .i64 0) := HK9.out.cell 2
      have a3 : W9.cell? ⟨p9, 3, none⟩ = some (.int .i64 0) := HK9.out.cell 3
      have a4 : W9.cell? ⟨p9, 4, none⟩ = some (.int .i64 0) := HK9.out.cell 4
      have a5 : W9.cell? ⟨p9, 5, none⟩ = some (.int .i64 0) := HK9.out.cell 5
      go_wp2_with fail
      go_ret
      exact ⟨rfl, HB9.out⟩
  | true =>
    rw [hbt] at R5 HCK
    obtain ⟨M, hM⟩ : ∃ M, L = M + 1 := by
      cases xs with
      | nil => cases hbt
      | cons x r => exact ⟨r.length, hL.symm⟩
    subst hM
    have htl : xs.tail.length = M := by rw [List.length_tail, hL]; rfl
    obtain ⟨d, hd⟩ : ∃ d, (xs.getD 0 0).toNat = d := ⟨_, rfl⟩
    have hd256 : d < 256 := by rw [← hd]; exact UInt8.toNat_lt _
    have R5' := Lib.hid (fun W (h : Byt W W.heap.size A xs) => (R5.out W h).mono (fun e w' (hh : _) => (by
      obtain ⟨A', c', ys, hys, he, _, hby, hB⟩ := hh
      rw [if_pos rfl] at hys
      subst hys
      rw [htl, if_pos rfl, if_pos rfl, hd] at he
      exact ⟨A', c', he, hby, hB⟩ : ∃ (A' : Option Addr) (c' : Nat), e = .returned (.tuple #[.slice A' M c', .int .i64 (d : Int), .int .i64 0]) ∧ Byt w' w'.heap.size A' xs.tail ∧ Below W.heap.size W w')))
    have R6' := Lib.hid (fun W (h : Byt W W.heap.size A xs) => (R6.out W h).mono (fun e w' (hh : _ ∧ _) => (⟨by rw [hh.1, HCK.out]; rfl, hh.2⟩ : e = .returned (.int .i64 0) ∧ Below W.heap.size W w')))
    obtain ⟨b, o, rfl, -, -⟩ := HBy.out w6 HB6.out (by rw [hL]; omega)
    obtain ⟨A9, hsl, hA9⟩ := slice_rest' b o M c hl
    have HA9 := Lib.hid hA9
    have HL := Lib.hid hL
    have HTL := Lib.hid htl
    have HD := Lib.hid hd
    have f1 : IntKind.i64.wrap (d : Int) = d := by rw [IntWalk.i64_left, IntWalk.wrap64_in _ (by omega)]
    have hl1 : (1 : Int) ≤ (M : Int) + 1 := by omega
    have hl0 : (0 : Int) < (M : Int) + 1 := by omega
    clear R5 R6 HCK hbt hck htl hd hA9 hL
    refine (R5'.out w6 (HBy.out w6 HB6.out)).mono ?_
    rintro e w7 ⟨A7, c7, rfl, hby7, hB7⟩
    have HB7 := Lib.hid (show Below q w w7 ∧ q ≤ w7.heap.size from ⟨HB6.out.1.trans (hB7.mono HB6.out.2), Nat.le_trans HB6.out.2 hB7.size⟩)
    have HY7 := Lib.hid hby7
    clear R5' hB7 HB6 hby7
    go_wp2_with fail
    refine (R6'.out w7 (HBy.out w7 HB7.out)).mono ?_
    rintro e w8 ⟨rfl, hB8⟩
    have HB8 := Lib.hid (show Below q w w8.drew ∧ q ≤ w8.drew.heap.size from ⟨(HB7.out.1.trans (hB8.mono HB7.out.2)).drew, Nat.le_trans HB7.out.2 hB8.size⟩)
    have hY8 : Byt w8.drew w7.heap.size A7 xs.tail := byt_below HY7.out (show Below w7.heap.size w7 w8.drew from hB8.drew) (Nat.le_refl _)
    have hX8 := HBy.out w8.drew HB8.out
    have hYA : Byt w8.drew w8.drew.heap.size A9 xs.tail := by
      intro h0
      rw [HTL.out] at h0
      obtain rfl := HA9.out h0
      have := byt_sub (s := 1) (k := M) hX8
      rw [show (xs.drop 1).take M = xs.tail by rw [List.drop_one, List.take_of_length_le (by rw [HTL.out]; exact Nat.le_refl _)]] at this
      exact this (by rw [HTL.out]; exact h0)
    have hS : w8.drew.cell? ⟨b, o, none⟩ = some (.int .u8 (d : Int)) := by
      obtain ⟨b', o', e', -, hcc⟩ := hX8 (by rw [HL.out]; omega)
      cases e'
      have := hcc 0 (by rw [HL.out]; omega)
      rw [HD.out] at this
      exact this
    have hcv1 : ∀ n, (convert 22 9 (.slice A7 M c7)).run Try.prog (w8.drewN n) = .ok (.string (txt xs.tail)) (w8.drewN n) := fun n => conv_txt (w8.drewN n) Try.underlying22 Try.underlying5 Try.underlying9 (B := w7.heap.size) hY8 HTL.out.symm c7
    have hcv2 : ∀ n, (convert 22 9 (.slice A9 M (c - 1))).run Try.prog (w8.drewN n) = .ok (.string (txt xs.tail)) (w8.drewN n) := fun n => conv_txt (w8.drewN n) Try.underlying22 Try.underlying5 Try.underlying9 (B := w8.drew.heap.size) hYA HTL.out.symm (c - 1)
    have c0 : w8.cell? ⟨b, o, none⟩ = some (.int .u8 (d : Int)) := hS
    clear R6' hB8 HB7 hY8 hX8 hS hYA
    go_upto_region 9 with (fail)
    go_quiet (fail)
    have HB8n := Lib.hid (show Below q w (w8.drewN nq) ∧ q ≤ (w8.drewN nq).heap.size from ⟨⟨HB8.out.1.os, HB8.out.1.tape, HB8.out.1.output, HB8.out.1.size, HB8.out.1.block⟩, HB8.out.2⟩)
    clear hcv1 hcv2 c0
    generalize w8.drewN nq = w8n at *
    clear HB8
    by_cases h23 : tag = 23 ∨ tag = 24
    · have R7' := Lib.hid (fun W (h : Byt W W.heap.size (some ⟨b, o, none⟩) xs) => (R7.out W h).mono (fun e w' (hh : _ ∧ _) => (⟨by rw [hh.1, if_pos h23, show (if (tag = 23 ∨ tag = 24) ∧ tyOk tag xs = true then tyL tag xs else [0, 0, 0, 0, 0, 0]) = (if tyOk tag xs = true then tyL tag xs else [0, 0, 0, 0, 0, 0]) from by
          cases tyOk tag xs
          · rw [if_neg (fun h => by cases h.2), if_neg (by simp)]
          · rw [if_pos ⟨h23, rfl⟩, if_pos rfl]], hh.2⟩ : e = .returned (.tuple #[agg6 (if tyOk tag xs = true then tyL tag xs else [0, 0, 0, 0, 0, 0]), .int .i64 (if tyOk tag xs = true then 0 else 13)]) ∧ Below W.heap.size W w')))
      have R8' := Lib.hid (fun W (h : Byt W W.heap.size (some ⟨b, o, none⟩) xs) => R8.out W h h23)
      unfold TimePost at R8'
      obtain ⟨R, hR⟩ : ∃ R, tyOk tag xs = R := ⟨_, rfl⟩
      obtain ⟨v0, v1, v2, v3, v4, v5, hv⟩ : ∃ v0 v1 v2 v3 v4 v5 : Int, (if tyOk tag xs = true then tyL tag xs else [0, 0, 0, 0, 0, 0]) = [v0, v1, v2, v3, v4, v5] := agg6_form _ (by split <;> rfl)
      obtain ⟨E7, hE7⟩ : ∃ E7 : Int, (if tyOk tag xs = true then 0 else 13) = E7 := ⟨_, rfl⟩
      have HE7 := Lib.hid (show (R = true ∧ E7 = 0) ∨ (R = false ∧ E7 = 13) by
        rw [hR] at hE7
        cases R
        · exact .inr ⟨rfl, hE7.symm⟩
        · exact .inl ⟨rfl, hE7.symm⟩)
      rw [hv, hE7] at R7'
      rw [hv, hR] at R8'
      rw [show agg6 [v0, v1, v2, v3, v4, v5] = mo6 v0 v1 v2 v3 v4 v5 from rfl] at R7' R8'
      have hq6 := eq6 v0 v1 v2 v3 v4 v5
      have hgd := guard6
      have HT := Lib.hid h23
      clear R7 R8 hR hv hE7
      rcases h23 with rfl | rfl
      all_goals
        clear HT
        go_wp2_with fail
        refine (R7'.out w8n (HBy.out w8n HB8n.out)).mono ?_
        rintro e w9 ⟨rfl, hB9⟩
        have HB9 := Lib.hid (show Below q w (w9.alloc (.cells #[.int .i64 v0, .int .i64 v1, .int .i64 v2, .int .i64 v3, .int .i64 v4, .int .i64 v5] 40)) ∧ q ≤ (w9.alloc (.cells #[.int .i64 v0, .int .i64 v1, .int .i64 v2, .int .i64 v3, .int .i64 v4, .int .i64 v5] 40)).heap.size from ⟨(HB8n.out.1.trans (hB9.mono HB8n.out.2)).alloc (Nat.le_trans HB8n.out.2 hB9.size) _, by have := Nat.le_trans HB8n.out.2 hB9.size; simp; omega⟩)
        have HK9 := Lib.hid (Whole.new w9 #[.int .i64 v0, .int .i64 v1, .int .i64 v2, .int .i64 v3, .int .i64 v4, .int .i64 v5] 40)
        clear hB9 R7'
        go_upto_region 12 with (fail)
        generalize w9.alloc (.cells #[.int .i64 v0, .int .i64 v1, .int .i64 v2, .int .i64 v3, .int .i64 v4, .int .i64 v5] 40) = W9 at *
        generalize w9.heap.size = p9 at *
        go_wp2_with fail
        refine (R8'.out W9 (HBy.out W9 HB9.out)).mono ?_
        rintro e wa ⟨rfl, hBa⟩
        have HBa := Lib.hid (show Below q w (wa.alloc (.cells #[.int .i64 v0, .int .i64 v1, .int .i64 v2, .int .i64 v3, .int .i64 v4, .int .i64 v5] 40)) from (HB9.out.1.trans (hBa.mono HB9.out.2)).alloc (Nat.le_trans HB9.out.2 hBa.size) _)
        have HKa := Lib.hid (Whole.new wa #[.int .i64 v0, .int .i64 v1, .int .i64 v2, .int .i64 v3, .int .i64 v4, .int .i64 v5] 40)
        have HK9a := Lib.hid (show Whole (wa.alloc (.cells #[.int .i64 v0, .int .i64 v1, .int .i64 v2, .int .i64 v3, .int .i64 v4, .int .i64 v5] 40)) p9 #[.int .i64 v0, .int .i64 v1, .int .i64 v2, .int .i64 v3, .int .i64 v4, .int .i64 v5] 40 from
          (show Whole wa p9 #[.int .i64 v0, .int .i64 v1, .int .i64 v2, .int .i64 v3, .int .i64 v4, .int .i64 v5] 40 from (hBa.block p9 HK9.out.lt).trans HK9.out).grew (grew_alloc (grew_refl wa none) _) (by simp))
        clear hBa R8' HK9
        go_upto_region 15 with (fail)
        generalize wa.alloc (.cells #[.int .i64 v0, .int .i64 v1, .int .i64 v2, .int .i64 v3, .int .i64 v4, .int .i64 v5] 40) = Wa at *
        generalize wa.heap.size = pa at *
        have a0 : Wa.cell? ⟨p9, 0, none⟩ = some (.int .i64 v0) := HK9a.out.cell 0
        have a1 : Wa.cell? ⟨p9, 1, none⟩ = some (.int .i64 v1) := HK9a.out.cell 1
        have a2 : Wa.cell? ⟨p9, 2, none⟩ = some (.int .i64 v2) := HK9a.out.cell 2
        have a3 : Wa.cell? ⟨p9, 3, none⟩ = some (.int .i64 v3) := HK9a.out.cell 3
        have a4 : Wa.cell? ⟨p9, 4, none⟩ = some (.int .i64 v4) := HK9a.out.cell 4
        have a5 : Wa.cell? ⟨p9, 5, none⟩ = some (.int .i64 v5) := HK9a.out.cell 5
        have b0 : Wa.cell? ⟨pa, 0, none⟩ = some (.int .i64 v0) := HKa.out.cell 0
        have b1 : Wa.cell? ⟨pa, 1, none⟩ = some (.int .i64 v1) := HKa.out.cell 1
        have b2 : Wa.cell? ⟨pa, 2, none⟩ = some (.int .i64 v2) := HKa.out.cell 2
        have b3 : Wa.cell? ⟨pa, 3, none⟩ = some (.int .i64 v3) := HKa.out.cell 3
        have b4 : Wa.cell? ⟨pa, 4, none⟩ = some (.int .i64 v4) := HKa.out.cell 4
        have b5 : Wa.cell? ⟨pa, 5, none⟩ = some (.int .i64 v5) := HKa.out.cell 5
        rcases HE7.out with ⟨rfl, rfl⟩ | ⟨rfl, rfl⟩
        all_goals
          go_wp2_with fail
          go_ret
          exact ⟨rfl, HBa.out⟩
    · have R7' := Lib.hid (fun W (h : Byt W W.heap.size (some ⟨b, o, none⟩) xs) => (R7.out W h).mono (fun e w' (hh : _ ∧ _) => (⟨by rw [hh.1, if_neg h23, if_neg (fun h => h23 h.1)]; rfl, hh.2⟩ : e = .returned (.tuple #[mo6 0 0 0 0 0 0, .int .i64 2]) ∧ Below W.heap.size W w')))
      have n23 : (tag != 23) = true := bne_iff_ne.2 (fun h => h23 (.inl h))
      have n24 : (tag != 24) = true := bne_iff_ne.2 (fun h => h23 (.inr h))
      have hq6 := eq6 0 0 0 0 0 0
      have hgd := guard6
      clear R7 R8 h23
      go_wp2_with fail
      refine (R7'.out w8n (HBy.out w8n HB8n.out)).mono ?_
      rintro e w9 ⟨rfl, hB9⟩
      have HB9 := Lib.hid (show Below q w (w9.alloc (.cells #[.int .i64 0, .int .i64 0, .int .i64 0, .int .i64 0, .int .i64 0, .int .i64 0] 40)) from (HB8n.out.1.trans (hB9.mono HB8n.out.2)).alloc (Nat.le_trans HB8n.out.2 hB9.size) _)
      have HK9 := Lib.hid (Whole.new w9 #[.int .i64 0, .int .i64 0, .int .i64 0, .int .i64 0, .int .i64 0, .int .i64 0] 40)
      clear hB9 R7'
      go_upto_region 12 with (fail)
      generalize w9.alloc (.cells #[.int .i64 0, .int .i64 0, .int .i64 0, .int .i64 0, .int .i64 0, .int .i64 0] 40) = W9 at *
      generalize w9.heap.size = p9 at *
      have a0 : W9.cell? ⟨p9, 0, none⟩ = some (.int .i64 0) := HK9.out.cell 0
      have a1 : W9.cell? ⟨p9, 1, none⟩ = some (.int .i64 0) := HK9.out.cell 1
      have a2 : W9.cell? ⟨p9, 2, none⟩ = some (.int .i64 0) := HK9.out.cell 2
      have a3 : W9.cell? ⟨p9, 3, none⟩ = some (.int .i64 0) := HK9.out.cell 3
      have a4 : W9.cell? ⟨p9, 4, none⟩ = some (.int .i64 0) := HK9.out.cell 4
      have a5 : W9.cell? ⟨p9, 5, none⟩ = some (.int .i64 0) := HK9.out.cell 5
      go_wp2_with fail
      go_ret
      exact ⟨rfl, HB9.out⟩
theorem dertypeValues_walk (w : World) (tag : Int) (ht : (Lit.int .i64 tag).wf = true) (A : Option Addr) (c : Nat) (xs : List UInt8) (hl : xs.length ≤ c) (_ : c ≤ 140737488351232) (hb : Byt w w.heap.size A xs) (hm : xs.length ≤ 1048576) :
    Calls Try.prog 4 #[.int .i64 tag, .slice A xs.length c] w fun e w' => e = .returned (.bool true) ∧ Below w.heap.size w w' :=
  dertypeValues_in w tag ht A c xs hl hb (by omega)

set_option maxRecDepth 100000 in
theorem dertypeValues_lifted (os : Os) (started : os.Started) (H : Type) (enc : TypeId × Value → H) (Fi : Stop.Interp) :
    ReturnsInHanded {} Try.checked os 4 .any ((Rows.OpenSpec.upto Rows.dertypeValuesSpec).pre6 enc Try.prog Try.f4 Rows.dertypeValuesUptoRow.domain false) (((Rows.OpenSpec.upto Rows.dertypeValuesSpec).at Fi).post enc Try.prog Try.f4 false true false false) := by
  refine returnsInHanded_of_cond_sized (C := Try.checked) (s := Rows.OpenSpec.upto Rows.dertypeValuesSpec) (k := Rows.uptoSmall) rfl own started (by kernel_rfl) Try.func4
    (OpenSpec.witness (enc := enc) (C := Try.checked) (s := Rows.OpenSpec.upto Rows.dertypeValuesSpec) (k := Rows.uptoSmall) rfl false ⟨#[], #[.int .i64 0, .slice none 0 0], []⟩ 8 (by kernel_rfl) (by kernel_rfl) (by kernel_rfl)
      (x := ([.lit (.int .i64 0), .nil], [], [])) (by kernel_rfl) rfl (by kernel_rfl)) ?_
  intro W base args ds gs before hval0 hW hcnd hk0 hsz0 _
  show Calls Try.prog 4 args W fun e W' => ∃ v, e = .returned v ∧ Rows.dertypeValuesSpec.post enc Try.prog Try.f4 false true false false W args v W'
  have hval : ∀ (j : Nat) t v, Try.f4.params[j]? = some t → args[j]? = some v → Value.okWide Try.prog W .any base t v := hval0
  have hsz : (DataW.weightsEach Try.prog (Try.f4.params.toList ++ Rows.dertypeValuesSpec.plain.varTypes Try.prog) (ds ++ gs)).all (· ≤ reachBytes) = true := hsz0
  have hbulk := bulk_bound hk0
  have hW' := hW
  obtain ⟨p, q, hA0, hV, rfl, hfz, hnd⟩ := hW
  have hA : DataW.TrodAll enc Try.prog W 0 (fun _ => true) true Try.f4.params.toList args.toList ds p := hA0
  rw [Try.params4] at hA hval hsz
  obtain ⟨v0, vs0, d0, ds0, p0, q0, hargs, rfl, rfl, h0, r0⟩ := trodAll_cons hA
  obtain ⟨v1, vs1, d1, ds1, p1, q1, rfl, rfl, rfl, h1, r1⟩ := trodAll_cons r0
  obtain ⟨rfl, rfl, rfl⟩ := trodAll_nil r1
  obtain rfl : args = #[v0, v1] := by cases args; simp_all
  obtain ⟨rfl, rfl⟩ := trodVars_none hV
  obtain ⟨a0, rfl, rfl, rfl, w0⟩ := open_int Try.underlying3 (hval 0 3 v0 rfl rfl) h0
  have k1 := h1
  have lt1 : ∀ x ∈ p1, x.block < W.heap.size := by obtain ⟨m, hm⟩ := k1; exact DataW.trod_lt m _ _ _ hm
  obtain ⟨A1, c1, x1, rfl, l1, m1, b1⟩ := arg_bytes (hval 1 22 v1 rfl rfl) h1 hsz (j := 1) rfl rfl
  have u1 : x1.length ≤ 1048576 := Nat.le_trans (bulk_bytes h1 rfl) (Nat.le_trans (bulk_part (by simp)) hbulk)
  clear hA0 hval0 hsz0
  refine (dertypeValues_walk W a0 w0 A1 c1 x1 l1 m1 b1 u1).mono fun e W' ⟨he, bel⟩ => ?_
  subst he
  exact ⟨_, rfl, _, _, _, [], _, [], hW', trodAll_mk1 (shut_bool Try.underlying4 _), (trodAll_cons_mk (shut_int Try.underlying3 w0) (trodAll_cons_mk (Below.trod laidOut (by kernel_rfl) (of_decide_eq_true (by kernel_rfl)) k1 bel lt1) trodAll_mk0)), rfl, bel.frame _, fun h => by cases h⟩

theorem dertypeValues_over : Rows.dertypeValuesUptoRow.holds Try.pinned (Rows.OpenSpec.upto Rows.dertypeValuesSpec) :=
  OpenClaim.holds_of_cond 4 Try.f4 rfl rfl rfl rfl rfl rfl rfl ⟨rfl, rfl, rfl, rfl, rfl⟩ rfl rfl rfl rfl rfl (by kernel_rfl) Try.func4 (by kernel_rfl)
    (of_decide_eq_true (by kernel_rfl)) (by unfold Func.isWrapper; first | (rw [if_pos (by decide +kernel)]; kernel_rfl) | (rw [if_neg (by decide +kernel)]; exact ⟨rfl, rfl⟩))
    (fun os started H enc _ Fi => dertypeValues_lifted os started H enc Fi)

theorem dertypeValues_holds : Rows.DertypeValuesUptoSaid := dertypeValues_over
#print axioms dertypeValues_holds
end Go.Proofs.Ytnegakobammljaa

