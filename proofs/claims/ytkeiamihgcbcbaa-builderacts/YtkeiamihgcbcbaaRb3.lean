/- The document's builder of layer 2: a number's bytes, Number, Open. -/
import Derived.Test.YtkeiamihgcbcbaaRb2
import Derived.Deep.AppendLies
namespace Go.Proofs.Ytkeiamihgcbcbaa
open Go.RowKit

/-- What stands in the row behind so many rounds. -/
def laidK (k j x : Nat) : List UInt8 := List.replicate (k - j) 0 ++ be j x
theorem laidK_length (k j x : Nat) (h : j ≤ k) : (laidK k j x).length = k := by simp [laidK, be_length]; omega
theorem laidK_set (k j x : Nat) (h : j < k) : (cellsOf (laidK k j x)).toArray.setIfInBounds (k - 1 - j) (.int .u8 ((x / 256 ^ j % 256 : Nat) : Int)) = (cellsOf (laidK k (j + 1) x)).toArray := by
  have e : k - j = (k - 1 - j) + 1 := by omega
  have e2 : k - (j + 1) = k - 1 - j := by omega
  have hs : (laidK k j x).set (k - 1 - j) (UInt8.ofNat (x / 256 ^ j % 256)) = laidK k (j + 1) x := by
    unfold laidK
    rw [e, List.replicate_succ', List.append_assoc, List.set_append_right _ _ (by simp), e2, be_more]
    simp
  rw [← hs]
  apply Array.ext'
  simp [cellsOf, List.map_set]

set_option maxHeartbeats 1000000 in
theorem rbe_any (w : World) (k x : Nat) (hk : k ≤ 8) (hx : x < 18446744073709551616) :
    Calls Try.prog 41 #[.int .u64 x, .int .i64 k] w fun e w' => e = .returned (.slice (some ⟨w.heap.size, 0, none⟩) k k) ∧ ByF w' (fun i => i = w.heap.size) (some ⟨w.heap.size, 0, none⟩) (be k x) ∧ Grew w w' none := by
  have hmk := run_make_row' (P := Try.prog) 32 5 (.int .u8 0) 1 Try.underlying32 info_u8 rfl .i64 .i64 k (by omega) (by omega)
  have hW := Whole.new w (madeCells #[.int .u8 0] k) 5
  have hcs : madeCells #[.int .u8 0] k = (cellsOf (laidK k 0 x)).toArray := by
    apply Array.ext'
    rw [toList_madeCells_one]
    simp [cellsOf, laidK, be]
  have HW := Lib.hid (by rw [hcs] at hW; exact hW)
  have HG := Lib.hid (grew_alloc (grew_refl w none) (.cells (madeCells #[.int .u8 0] k) 5))
  rw [hcs] at HG
  have HCS := Lib.hid hcs
  clear hW hcs
  go_enter Try.func41, Try.ntmps41
  go_wp2_with fail
  rw [HCS.out]
  generalize w.alloc (.cells (cellsOf (laidK k 0 x)).toArray 5) = W at *
  generalize hq : w.heap.size = q at *
  have HQ := Lib.hid hq
  clear hq hmk HCS
  go_loopw [0, 6] (fun v i wr => ∃ j : Nat, j ≤ k ∧ v = .int .u64 ((x / 256 ^ j : Nat) : Int) ∧ i = .int .i64 ((k : Int) - 1 - j) ∧ Hid (Whole wr q (cellsOf (laidK k j x)).toArray 5) ∧ Hid (Grew w wr none)) (fun _ i _ => (intOf i + 1).toNat)
  case atStart => exact ⟨0, Nat.zero_le _, by simp, by simp, HW, HG⟩
  case round =>
    obtain ⟨j, hj, rfl, rfl, R1, R2⟩ := hrel
    by_cases hlt : j < k
    · have hc := R1.out.cell (k - 1 - j)
      have hfz := R1.out.frozen (k - 1 - j)
      have hc' : (cellsOf (laidK k j x)).toArray[k - 1 - j]? = some (.int .u8 (((laidK k j x).getD (k - 1 - j) 0).toNat : Int)) := by
        rw [List.getElem?_toArray, cellsOf_at _ _ (by rw [laidK_length _ _ _ (by omega)]; omega)]
      rw [hc'] at hc
      have hset := R1.out.set (k - 1 - j) (.int .u8 ((x / 256 ^ j % 256 : Nat) : Int))
      rw [laidK_set k j x hlt] at hset
      have HG2 := Lib.hid (grew_own R2.out (grew_set (p := q) (grew_refl wr _) (k - 1 - j) none (.int .u8 ((x / 256 ^ j % 256 : Nat) : Int))) (Nat.le_of_eq HQ.out))
      have hdv : x / 256 ^ (j + 1) = x / 256 ^ j / 256 := by rw [Nat.pow_succ, Nat.div_div_eq_div_mul]
      have hvb : x / 256 ^ j < 18446744073709551616 := Nat.lt_of_le_of_lt (Nat.div_le_self _ _) hx
      have HDV := Lib.hid hdv
      clear hc' hdv
      generalize ((laidK k j x).getD (k - 1 - j) 0).toNat = z at *
      generalize x / 256 ^ j = V at *
      obtain ⟨i, hi⟩ : ∃ i, k - 1 - j = i := ⟨_, rfl⟩
      rw [hi] at hc hfz hset HG2
      have HS := Lib.hid hset
      rw [show (k : Int) - 1 - j = (i : Int) from by omega]
      have hik : i < k := by omega
      have HI := Lib.hid hi
      clear hset hi
      go_wp2
      go_roundw
      case rel =>
        refine ⟨j + 1, by omega, by rw [HDV.out]; go_num, ?_, ?_, ?_⟩
        · have := HI.out
          congr 1
          omega
        · have h := HS
          rw [show ((V % 256 : Nat) : Int) = (V : Int) % 256 from by omega] at h
          exact h
        · have h := HG2
          rw [show ((V % 256 : Nat) : Int) = (V : Int) % 256 from by omega] at h
          exact h
      case measure => simp [intOf]
    · obtain rfl : j = k := by omega
      rw [show (j : Int) - 1 - j = -1 from by omega]
      go_wp2
      go_ret
      rw [HQ.out]
      refine ⟨rfl, ?_, R2.out⟩
      have := ByF.of_whole (k := 0) R1.out (ys := be j x) (by simp [laidK])
      simpa using this

/-- What Number leaves as the last part. -/
def rnP (most : Nat) (Q : List (List UInt8)) (P : List UInt8) (sizes : List Nat) (k : Int) (x : Nat) : List UInt8 :=
  if sizeOk k then (if x < 256 ^ k.toNat then raP most Q P sizes (be k.toNat x) else P) else P

theorem RbOut.grew {w W w' : World} {F : Nat → Prop} {m most : Nat} {parts : List (List UInt8)} {sizes : List Nat} {row : Option Nat} (h : RbOut W w' F m most parts sizes) (g : Grew w W row) (hF : ∀ i, F i → w.heap.size ≤ i) :
    ∃ F', Rb w' F' m most parts sizes ∧ Grew w w' row ∧ (∀ i, F' i → w.heap.size ≤ i) ∧ Fr W w' F ∧ ∀ i, F' i → F i ∨ W.heap.size ≤ i := by
  obtain ⟨F', h1, h2, h3⟩ := h
  refine ⟨F', h1, grew_fr g h2 hF, fun i hi => ?_, h2, h3⟩
  rcases h3 i hi with h | h
  · exact hF i h
  · exact Nat.le_trans g.size h

set_option maxHeartbeats 1000000 in
theorem rnumber_any (w : World) (F : Nat → Prop) (m most : Nat) (Q : List (List UInt8)) (P : List UInt8) (sizes : List Nat) (h : Rb w F m most (Q ++ [P]) sizes) (k : Int) (x : Nat) (hx : x < 18446744073709551616) :
    Calls Try.prog 29 #[.pointer (some ⟨m, 0, none⟩), .int .i64 k, .int .u64 x] w fun e w' => e = .returned (.int .i64 (nbE most (tot (Q ++ [P]) sizes) k x)) ∧ RbOut w w' F m most (Q ++ [rnP most Q P sizes k x]) sizes := by
  by_cases hk : sizeOk k
  · obtain ⟨n, rfl⟩ := Int.eq_ofNat_of_zero_le (a := k) (by unfold sizeOk at hk; omega)
    have hn8 : n ≤ 8 := by unfold sizeOk at hk; omega
    simp only [nbE, rnP, if_pos hk, Int.toNat_natCast]
    have HK := Lib.hid hk
    have H := Lib.hid h
    clear hk h
    have hnum := num_be n x
    by_cases hl : x < 256 ^ n
    · simp only [if_pos hl]
      have hne : num (be n x) = x := num_be_lt n x hl
      have HNE := Lib.hid hne
      clear hnum hne hl
      go_enter Try.func29, Try.ntmps29
      go_wp2_with fail
      refine (size_yes w n HK.out).mono ?_
      rintro e w0 ⟨rfl, rfl⟩
      go_wp2_with fail
      refine (rbe_any w n x hn8 hx).mono ?_
      rintro e w1 ⟨rfl, b1, g1⟩
      have hcn := rnum_any w1 w1.heap.size (some ⟨w.heap.size, 0, none⟩) (be n x) n b1.byt (by rw [be_length]; exact hn8)
      rw [be_length, HNE.out] at hcn
      have hcb := rbytes_any w1 F m most Q P sizes (H.out.fr (Fr.of_grew g1) (fun _ _ h => by cases h)) _ (some ⟨w.heap.size, 0, none⟩) (be n x) n b1.byt
      rw [be_length] at hcb
      have HCN := Lib.hid hcn
      have HCB := Lib.hid hcb
      have HF := Lib.hid (show Fr w w1 (fun _ => False) from Fr.of_grew' g1 (fun _ h => by cases h))
      clear hcn hcb b1 g1
      go_wp2_with fail
      refine HCN.out.mono ?_
      rintro e w2 ⟨rfl, rfl⟩
      go_wp2_with fail
      refine HCB.out.mono ?_
      rintro e w2 ⟨rfl, h2⟩
      have H2 := Lib.hid h2
      clear h2
      go_wp2_with fail
      go_ret
      exact ⟨rfl, H2.out.ahead HF.out⟩
    · simp only [if_neg hl]
      have hne : num (be n x) ≠ x := by
        rw [hnum]
        intro e
        have := Nat.mod_lt x (show 0 < 256 ^ n from Nat.pow_pos (by decide))
        omega
      have hb1 : ((num (be n x) : Int) == (x : Int)) = false := by simp; omega
      have hb2 : ((num (be n x) : Int) != (x : Int)) = true := by simp; omega
      clear hnum hl hne
      go_enter Try.func29, Try.ntmps29
      go_wp2_with fail
      refine (size_yes w n HK.out).mono ?_
      rintro e w0 ⟨rfl, rfl⟩
      go_wp2_with fail
      refine (rbe_any w n x hn8 hx).mono ?_
      rintro e w1 ⟨rfl, b1, g1⟩
      have hcn := rnum_any w1 w1.heap.size (some ⟨w.heap.size, 0, none⟩) (be n x) n b1.byt (by rw [be_length]; exact hn8)
      rw [be_length] at hcn
      have HCN := Lib.hid hcn
      have HF := Lib.hid (show Fr w w1 (fun _ => False) from Fr.of_grew' g1 (fun _ h => by cases h))
      clear hcn b1 g1
      generalize num (be n x) = Y at *
      go_wp2_with fail
      refine HCN.out.mono ?_
      rintro e w2 ⟨rfl, rfl⟩
      go_wp2_with fail
      go_ret
      exact ⟨rfl, (RbOut.same (H.out.fr HF.out (fun _ _ h => h))).ahead HF.out⟩
  · simp only [nbE, rnP, if_neg hk]
    have HK := Lib.hid hk
    have H := Lib.hid h
    clear hk h
    go_enter Try.func29, Try.ntmps29
    go_wp2_with fail
    refine (size_no w k HK.out).mono ?_
    rintro e w0 ⟨rfl, rfl⟩
    go_wp2_with fail
    go_ret
    exact ⟨rfl, RbOut.same H.out⟩

end Go.Proofs.Ytkeiamihgcbcbaa

