/- Builders: one contract each for Open and Close; the document's example of layer 2 (alive). -/
import Derived.Test.YtkeiamihgcbcbaaBd3
namespace Go.Proofs.Ytkeiamihgcbcbaa
open Go.RowKit

set_option maxHeartbeats 1000000 in
theorem bopen_full (w : World) (F : Nat → Prop) (p most : Nat) (xs : List UInt8) (ps : List (Nat × Nat)) (h : Bd w F p most xs ps) (k : Nat) (hk1 : 1 ≤ k) (hk3 : k ≤ 3) (hfull : most < xs.length + k) :
    Calls Try.prog 21 #[.pointer (some ⟨p, 0, none⟩), .int .i64 k] w fun e w' => e = .returned (.int .i64 5) ∧ BdOut w w' F p most xs ps := by
  have hp := h.lt
  have hF : Fr w (w.alloc (.cells #[.int .u8 0, .int .u8 0, .int .u8 0, .int .u8 0, .int .u8 0, .int .u8 0, .int .u8 0, .int .u8 0] 69)) (fun _ => False) := (Fr.refl _ _).alloc _
  have hc := add_full _ F p most xs ps (h.fr hF (fun _ _ h => h)) (some ⟨w.heap.size, 0, none⟩) k 8 hfull
  have HC := Lib.hid hc
  have HF := Lib.hid (BdOut.same (h.fr hF (fun _ _ h => h)))
  have HF' := Lib.hid hF
  clear hc hF h
  have hk0 : ¬ ((k : Int) < 1) := by omega
  have hk4 : ¬ ((3 : Int) < k) := by omega
  have hsl : ∀ W, (Instr.sliceAt 69 (.pointer (some ⟨w.heap.size, 0, none⟩)) none (some (.int .i64 (k : Int))) none).run Try.prog W = .ok (.slice (some ⟨w.heap.size, 0, none⟩) k 8) W := arr_cut _ k hk1 hk3
  go_enter Try.func21, Try.ntmps21
  go_wp2_with fail
  clear hsl
  refine HC.out.mono ?_
  rintro e w1 ⟨rfl, n, rfl⟩
  go_wp2_with fail
  go_ret
  exact ⟨rfl, (HF.out n).ahead HF'.out⟩

/-- What Open tells; the bytes and the parts then. -/
def opE (most n : Nat) (k : Int) : Int := if k < 1 ∨ 3 < k then 2 else adE most n k.toNat
def opX (most : Nat) (xs : List UInt8) (k : Int) : List UInt8 := if k < 1 ∨ 3 < k then xs else adX most xs (List.replicate k.toNat 0)
def opP (most n : Nat) (ps : List (Nat × Nat)) (k : Int) : List (Nat × Nat) := if k < 1 ∨ 3 < k then ps else if most < n + k.toNat then ps else ps ++ [(n + k.toNat, k.toNat)]

theorem bopen_any (w : World) (F : Nat → Prop) (p most : Nat) (xs : List UInt8) (ps : List (Nat × Nat)) (h : Bd w F p most xs ps) (k : Int) :
    Calls Try.prog 21 #[.pointer (some ⟨p, 0, none⟩), .int .i64 k] w fun e w' => e = .returned (.int .i64 (opE most xs.length k)) ∧ BdOut w w' F p most (opX most xs k) (opP most xs.length ps k) := by
  by_cases hk : k < 1 ∨ 3 < k
  · simp only [opE, opX, opP, if_pos hk]
    refine (bopen_arg w p k hk).mono ?_
    rintro e w' ⟨rfl, rfl⟩
    exact ⟨rfl, BdOut.same h 0⟩
  · obtain ⟨n, rfl⟩ := Int.eq_ofNat_of_zero_le (a := k) (by omega)
    simp only [opE, opX, opP, if_neg hk, adE, adX, Int.toNat_natCast, List.length_replicate]
    by_cases hf : most < xs.length + n
    · simp only [if_pos hf]
      exact bopen_full w F p most xs ps h n (by omega) (by omega) hf
    · simp only [if_neg hf]
      exact bopen_ok w F p most xs ps h n (by omega) (by omega) (by omega)

/-- What Close tells; the bytes and the parts then. -/
def clE (n : Nat) (ps : List (Nat × Nat)) : Int := match ps.getLast? with
  | none => 17
  | some (f, s) => if n - f < 256 ^ s then 0 else 5
def clX (xs : List UInt8) (ps : List (Nat × Nat)) : List UInt8 := match ps.getLast? with
  | none => xs
  | some (f, s) => if xs.length - f < 256 ^ s then xs.take (f - s) ++ (be s (xs.length - f) ++ xs.drop f) else xs
def clP (n : Nat) (ps : List (Nat × Nat)) : List (Nat × Nat) := match ps.getLast? with
  | none => ps
  | some (f, s) => if n - f < 256 ^ s then ps.dropLast else ps

theorem bclose_any (w : World) (F : Nat → Prop) (p most : Nat) (xs : List UInt8) (ps : List (Nat × Nat)) (h : Bd w F p most xs ps) :
    Calls Try.prog 22 #[.pointer (some ⟨p, 0, none⟩)] w fun e w' => e = .returned (.int .i64 (clE xs.length ps)) ∧ BdOut w w' F p most (clX xs ps) (clP xs.length ps) := by
  rcases List.eq_nil_or_concat ps with rfl | ⟨qs, ⟨f, s⟩, rfl⟩
  · refine (bclose_state w F p most xs h).mono ?_
    rintro e w' ⟨rfl, rfl⟩
    exact ⟨rfl, BdOut.same h 0⟩
  · simp only [List.concat_eq_append] at h ⊢
    simp only [clE, clX, clP, List.getLast?_concat, List.dropLast_concat]
    by_cases hl : xs.length - f < 256 ^ s
    · simp only [if_pos hl]
      exact bclose_ok w F p most xs qs f s h hl
    · simp only [if_neg hl]
      refine (bclose_full w F p most xs qs f s h hl).mono ?_
      rintro e w' ⟨rfl, g⟩
      exact ⟨rfl, F, h.fr (Fr.of_grew g) (fun _ _ h => by cases h), Fr.of_grew' g (fun _ h => by cases h), fun _ h => .inl h⟩

/-- What a call leaves, seen from further ahead. -/
theorem BdOut.grew {w W w' : World} {F : Nat → Prop} {p most : Nat} {xs : List UInt8} {ps : List (Nat × Nat)} {row : Option Nat} (h : BdOut W w' F p most xs ps) (g : Grew w W row) (hF : ∀ i, F i → w.heap.size ≤ i) :
    ∃ F', Bd w' F' p most xs ps ∧ Grew w w' row ∧ (∀ i, F' i → w.heap.size ≤ i) ∧ Fr W w' F ∧ ∀ i, F' i → F i ∨ W.heap.size ≤ i := by
  obtain ⟨F', h1, h2, h3⟩ := h
  refine ⟨F', h1, grew_fr g h2 hF, fun i hi => ?_, h2, h3⟩
  rcases h3 i hi with h | h
  · exact hF i h
  · exact Nat.le_trans g.size h

set_option maxRecDepth 100000 in
set_option maxHeartbeats 2000000 in
theorem alive2_any (w : World) : Calls Try.prog 9 #[] w fun e w' => e = .returned (.bool true) ∧ Grew w w' none := by
  go_enter Try.func9, Try.ntmps9
  go_wp2_with fail
  refine (bnew_ok w 9 (by omega)).mono ?_
  rintro e w1 ⟨rfl, h1, g1⟩
  have H1 := Lib.hid h1
  have hF : ∀ i, i = w.heap.size → w.heap.size ≤ i := fun i e => Nat.le_of_eq e.symm
  have HF := Lib.hid hF
  clear h1 hF
  go_wp2_with fail
  refine (bnumber_any w1 _ _ 9 [] [] H1.out 1 9 (by omega)).mono ?_
  rintro e w2 ⟨rfl, h2⟩
  obtain ⟨F2, h2, g2, f2, _⟩ := h2.grew g1 HF.out
  have H2 := Lib.hid h2
  have FF2 := Lib.hid f2
  clear h2 f2
  simp only [show nbX 9 [] 1 9 = [9] from rfl] at H2
  rw [show nbE 9 ([] : List UInt8).length 1 9 = 0 from rfl]
  go_wp2_with fail
  refine (bopen_any w2 _ _ 9 _ _ H2.out 2).mono ?_
  rintro e w3 ⟨rfl, h3⟩
  obtain ⟨F3, h3, g3, f3, _⟩ := h3.grew g2 FF2.out
  have H3 := Lib.hid h3
  have FF3 := Lib.hid f3
  clear h3 f3
  simp only [show opX 9 [9] 2 = [9, 0, 0] from rfl, show opP 9 [(9 : UInt8)].length [] 2 = [(3, 2)] from rfl] at H3
  rw [show opE 9 [(9 : UInt8)].length 2 = 0 from rfl]
  go_wp2_with fail
  have g4 := grew_alloc g3 (.cells #[.int .u8 7, .int .u8 8] 5)
  have hb4 := ByF.of_whole (k := 0) (Whole.new w3 #[.int .u8 7, .int .u8 8] 5) (ys := [7, 8]) rfl
  have h4 := H3.out.fr ((Fr.refl w3 (fun _ => False)).alloc (.cells #[.int .u8 7, .int .u8 8] 5)) (fun _ _ h => h)
  refine (bbytes_any _ F3 _ 9 _ _ h4 _ _ [7, 8] 2 hb4).mono ?_
  rintro e w5 ⟨rfl, h5⟩
  obtain ⟨F5, h5, g5, f5, _⟩ := h5.grew g4 FF3.out
  have H5 := Lib.hid h5
  have FF5 := Lib.hid f5
  clear h5 f5 h4 hb4 g4 h2 h3
  simp only [show adX 9 [9, 0, 0] [7, 8] = [9, 0, 0, 7, 8] from rfl] at H5
  rw [show adE 9 [(9 : UInt8), 0, 0].length [(7 : UInt8), 8].length = 0 from rfl]
  go_wp2_with fail
  refine (bclose_any _ F5 _ 9 _ _ H5.out).mono ?_
  rintro e w6 ⟨rfl, h6⟩
  obtain ⟨F6, h6, g6, f6, _⟩ := h6.grew g5 FF5.out
  have H6 := Lib.hid h6
  clear h6 f6
  simp only [show clX [9, 0, 0, 7, 8] [(3, 2)] = [9, 0, 2, 7, 8] from rfl, show clP [(9 : UInt8), 0, 0, 7, 8].length [(3, 2)] = [] from rfl] at H6
  rw [show clE [(9 : UInt8), 0, 0, 7, 8].length [(3, 2)] = 0 from rfl]
  go_wp2_with fail
  refine (bdone_ok _ F6 _ 9 _ H6.out).mono ?_
  rintro e w7 ⟨rfl, b7, g7, _⟩
  have hcv := conv_txt w7 Try.underlying32 Try.underlying5 Try.underlying9 b7.byt rfl 5
  rw [show txt [9, 0, 2, 7, 8] = ⟨#[9, 0, 2, 7, 8]⟩ from rfl] at hcv
  simp only [List.length_cons, List.length_nil] at hcv ⊢
  clear b7
  go_wp2_with fail
  go_ret
  exact ⟨rfl, grew_trans g6 g7⟩

end Go.Proofs.Ytkeiamihgcbcbaa

