/- Builders: Done, Open, Close. -/
import Derived.Test.YtkeiamihgcbcbaaBd
import Derived.StillTailTactics
import Derived.Deep.RegionHeld3
import Derived.OwnWalk
import Derived.Deep.AppendLies
import Derived.Deep.RegionLaw
import Derived.BigRegion
namespace Go.Proofs.Ytkeiamihgcbcbaa
open Go.RowKit

theorem ByF.src {w : World} {F : Nat → Prop} {A : Option Addr} {xs : List UInt8} (h : ByF w F A xs) : 0 < (cellsOf xs).length → ∃ ad, A = some ad ∧ ∀ j v, (cellsOf xs)[j]? = some v → w.cell? (ad.add j) = some v := by
  intro hn
  rw [cellsOf_length] at hn
  obtain ⟨b, o, rfl, _, hc⟩ := h hn
  refine ⟨_, rfl, fun j v hj => ?_⟩
  have hj' : j < xs.length := by
    rcases Nat.lt_or_ge j xs.length with h | h
    · exact h
    · rw [List.getElem?_eq_none (by rw [cellsOf_length]; exact h)] at hj; cases hj
  rw [cellsOf_at _ _ hj'] at hj
  rw [addr_add, hc j hj']
  exact hj

set_option maxHeartbeats 1000000 in
theorem bdone_ok (w : World) (F : Nat → Prop) (p most : Nat) (xs : List UInt8) (h : Bd w F p most xs []) :
    Calls Try.prog 18 #[.pointer (some ⟨p, 0, none⟩)] w fun e w' => e = .returned (.tuple #[.slice (some ⟨w.heap.size, 0, none⟩) xs.length xs.length, .int .i64 0]) ∧
      ByF w' (fun i => i = w.heap.size) (some ⟨w.heap.size, 0, none⟩) xs ∧ Grew w w' none ∧ w.heap.size < w'.heap.size := by
  have hle := h.le.1
  have hmo := h.le.2.1
  have hp := h.lt
  obtain ⟨vb, vp, h1, h2, h3, h4, h5, h6, h7, h8, h9, h10⟩ := h
  obtain ⟨A, c, rfl, _⟩ := own_form h2
  obtain ⟨A', c', rfl, _⟩ := own_form h3
  have hc1 := h1.cell 1
  have hc2 := h1.cell 2
  simp at hc1 hc2
  have HB := Lib.hid (own_by h2)
  clear h1 h2 h3 h4 h5 h6 h7 h8 h9 h10
  generalize hn : xs.length = n at *
  have HN := Lib.hid hn
  clear hn
  have hmk := run_make_row' (P := Try.prog) 32 5 (.int .u8 0) 1 Try.underlying32 info_u8 rfl .i64 .i64 n (by omega) (by omega)
  have hx1 : ByF (w.alloc (.cells (madeCells #[.int .u8 0] n) 5)) (fun i => (Value.slice A n c).ownBlock = some i) A xs := HB.out.fr (G := fun _ => False) ((Fr.refl _ _).alloc _) (fun _ _ h => h)
  have Hx1 := Lib.hid hx1
  clear hx1
  go_enter Try.func18, Try.ntmps18
  go_wp2_with (with_reducible refine wpList_copy_splice (o := ⟨some 24, _, _, _, _, _⟩) rfl (.tmp 19) (.tmp 23) 32 32 rfl 5 Try.underlying32 size_u8 (some ⟨w.heap.size, 0, none⟩) A n n n c rfl rfl w.heap.size 0 (List.replicate n (.int .u8 0)) 5 ?hg (cellsOf xs) ?hn ?hpos ?hfit ?h1 w.heap.size w ?hb ?hBg ?K)
  case hg => rw [← toList_madeCells_one, Array.toArray_toList]; exact heap_alloc_new _ _
  case hn => rw [cellsOf_length, HN.out]; simp
  case hpos => exact Hx1.out.src
  case hfit => rw [cellsOf_length, HN.out]; simp
  case h1 => exact cellsOf_one _
  case hb => exact (Below.refl _ _).alloc (Nat.le_refl _) _
  case hBg => exact Nat.le_refl _
  case K =>
    intro w2 hw2 hb2
    go_wp2
    go_ret2
    have hw : Whole w2 w.heap.size (cellsOf xs).toArray 5 := by
      have := hw2.out
      rw [splice_all _ _ (by simp [cellsOf_length, HN.out])] at this
      exact this
    have g2 : Grew w w2 none := ⟨hb2.os, hb2.tape, hb2.output, hb2.size, fun i hi _ => hb2.block i hi⟩
    refine ⟨rfl, ?_, g2, hw.lt⟩
    have := ByF.of_whole (k := 0) hw (ys := xs) (by simp)
    simpa using this

set_option maxHeartbeats 400000 in
theorem bdone_state (w : World) (F : Nat → Prop) (p most : Nat) (xs : List UInt8) (ps : List (Nat × Nat)) (h : Bd w F p most xs ps) (hps : 0 < ps.length) :
    Calls Try.prog 18 #[.pointer (some ⟨p, 0, none⟩)] w fun e w' => e = .returned (.tuple #[.slice none 0 0, .int .i64 17]) ∧ w = w' := by
  obtain ⟨vb, vp, h1, _, h2, _⟩ := h
  obtain ⟨A, c, rfl, _⟩ := own_form h2
  have h0 := h1.cell 2
  simp at h0
  clear h1 h2
  generalize ps.length = k at *
  go_enter Try.func18, Try.ntmps18
  go_wp2
  go_ret2
  exact ⟨rfl, rfl⟩

set_option maxHeartbeats 400000 in
theorem bdone_nil (w : World) :
    Calls Try.prog 18 #[.pointer none] w fun e w' => e = .returned (.tuple #[.slice none 0 0, .int .i64 1]) ∧ w = w' := by
  go_enter Try.func18, Try.ntmps18
  go_wp2
  go_ret2
  exact ⟨rfl, rfl⟩

set_option maxHeartbeats 400000 in
theorem bclose_nil (w : World) :
    Calls Try.prog 22 #[.pointer none] w fun e w' => e = .returned (.int .i64 1) ∧ w = w' := by
  go_enter Try.func22, Try.ntmps22
  go_wp2_with fail
  go_ret
  exact ⟨rfl, rfl⟩

set_option maxHeartbeats 400000 in
theorem blen_nil (w : World) : Calls Try.prog 15 #[.pointer none] w fun e w' => e = .returned (.int .i64 0) ∧ w = w' := by
  go_enter Try.func15, Try.ntmps15
  go_wp2
  go_ret
  exact ⟨rfl, rfl⟩

set_option maxHeartbeats 400000 in
theorem bdeep_nil (w : World) : Calls Try.prog 17 #[.pointer none] w fun e w' => e = .returned (.int .i64 0) ∧ w = w' := by
  go_enter Try.func17, Try.ntmps17
  go_wp2
  go_ret
  exact ⟨rfl, rfl⟩

set_option maxHeartbeats 400000 in
theorem bopen_nil (w : World) (k : Int) : Calls Try.prog 21 #[.pointer none, .int .i64 k] w fun e w' => e = .returned (.int .i64 1) ∧ w = w' := by
  go_enter Try.func21, Try.ntmps21
  go_wp2_with fail
  go_ret
  exact ⟨rfl, rfl⟩

set_option maxHeartbeats 400000 in
theorem bopen_arg (w : World) (p : Nat) (k : Int) (hk : k < 1 ∨ 3 < k) : Calls Try.prog 21 #[.pointer (some ⟨p, 0, none⟩), .int .i64 k] w fun e w' => e = .returned (.int .i64 2) ∧ w = w' := by
  rcases hk with hk | hk
  · go_enter Try.func21, Try.ntmps21
    go_wp2_with fail
    go_ret
    exact ⟨rfl, rfl⟩
  · have hk' : ¬ k < 1 := by omega
    go_enter Try.func21, Try.ntmps21
    go_wp2_with fail
    go_ret
    exact ⟨rfl, rfl⟩

theorem part_info : (Try.prog.info? 73).map (fun i => (i.zero, i.size, i.bytes)) = some (some (.agg #[.int .i64 0, .int .i64 0]), 2, 16) := by kernel_rfl

theorem arr_cut (q k : Nat) (h1 : 1 ≤ k) (h3 : k ≤ 3) (W : World) : (Instr.sliceAt 69 (.pointer (some ⟨q, 0, none⟩)) none (some (.int .i64 (k : Int))) none).run Try.prog W = .ok (.slice (some ⟨q, 0, none⟩) k 8) W := by
  have hk' : k = 1 ∨ k = 2 ∨ k = 3 := by omega
  rcases hk' with rfl | rfl | rfl
  · first | rfl | kernel_rfl | simp [go_sem]
  · first | rfl | kernel_rfl | simp [go_sem]
  · first | rfl | kernel_rfl | simp [go_sem]

set_option maxHeartbeats 1000000 in
theorem bopen_ok (w : World) (F : Nat → Prop) (p most : Nat) (xs : List UInt8) (ps : List (Nat × Nat)) (h : Bd w F p most xs ps) (k : Nat) (hk1 : 1 ≤ k) (hk3 : k ≤ 3) (hfit : xs.length + k ≤ most) :
    Calls Try.prog 21 #[.pointer (some ⟨p, 0, none⟩), .int .i64 k] w fun e w' => e = .returned (.int .i64 0) ∧ BdOut w w' F p most (xs ++ List.replicate k 0) (ps ++ [(xs.length + k, k)]) := by
  have hp := h.lt
  have hW := Whole.new w #[.int .u8 0, .int .u8 0, .int .u8 0, .int .u8 0, .int .u8 0, .int .u8 0, .int .u8 0, .int .u8 0] 69
  have hB := ByF.of_whole (k := 0) hW (ys := List.replicate 8 0) rfl
  rw [List.drop_zero] at hB
  have hB' := hB.take k
  rw [List.take_replicate, show min k 8 = k from by omega] at hB'
  have hF : Fr w (w.alloc (.cells #[.int .u8 0, .int .u8 0, .int .u8 0, .int .u8 0, .int .u8 0, .int .u8 0, .int .u8 0, .int .u8 0] 69)) (fun _ => False) := (Fr.refl _ _).alloc _
  have hc := add_ok _ F p most xs ps (h.fr hF (fun _ _ h => h)) _ _ (List.replicate k 0) 8 hB' (by simp; omega)
  rw [List.length_replicate] at hc
  have HC := Lib.hid hc
  have HF := Lib.hid hF
  have H := Lib.hid h
  clear hc hF hB' hB hW h
  have hk0 : ¬ ((k : Int) < 1) := by omega
  have hk4 : ¬ ((3 : Int) < k) := by omega
  have hk' : k = 1 ∨ k = 2 ∨ k = 3 := by omega
  have hlen : (xs ++ List.replicate k (0 : UInt8)).length = xs.length + k := by simp
  have HL := Lib.hid hlen
  clear hlen
  have hsl : ∀ W, (Instr.sliceAt 69 (.pointer (some ⟨w.heap.size, 0, none⟩)) none (some (.int .i64 (k : Int))) none).run Try.prog W = .ok (.slice (some ⟨w.heap.size, 0, none⟩) k 8) W := arr_cut _ k hk1 hk3
  go_enter Try.func21, Try.ntmps21
  · go_wp2_with fail
    clear hsl
    refine HC.out.mono ?_
    rintro e w1 ⟨rfl, F1, h1, g1, n1⟩
    have hp1 := h1.lt
    obtain ⟨vb, vp, b1, b2, b3, b4, b5, b6, b7, b8, b9, b10⟩ := h1
    obtain ⟨A, c, rfl, _⟩ := own_form b2
    have hne := own_ne b3 b1 (by decide)
    have hpp := own_own b3 b2 (by decide)
    have hc1 := b1.cell 1
    have hc2 := b1.cell 2
    have hf2 := b1.frozen 2
    simp only [List.getElem?_toArray, List.getElem?_cons_succ, List.getElem?_cons_zero] at hc1 hc2
    obtain ⟨A', c', rfl, _⟩ := own_form b3
    rw [HL.out] at hc1 b1 b2 b5 b8 b10
    rw [HL.out] at hpp
    have hb10 := b10.1
    have hps : ps.length ≤ 1073741824 := by omega
    obtain ⟨i0, hi0, hz0, hz1, hz2⟩ := info_parts part_info
    have hown := (b3.alloc (.cells #[.int .i64 ((xs.length + k : Nat) : Int), .int .i64 k] 73)).drew
    have HO := Lib.hid hown
    have B1 := Lib.hid b1
    have B2 := Lib.hid b2
    have B3 := Lib.hid b3
    have B5 := Lib.hid b5
    have B6 := Lib.hid b6
    have B7 := Lib.hid b7
    have B10 := Lib.hid b10
    have HN := Lib.hid hne
    have HP := Lib.hid hpp
    have G1 := Lib.hid g1
    have N1 := Lib.hid n1
    have HI := Lib.hid hi0
    have HZ0 := Lib.hid hz0
    have HZ1 := Lib.hid hz1
    have HZ2 := Lib.hid hz2
    clear b1 b2 b3 b5 b6 b7 b10 hne hpp g1 n1 hown hi0 hz0 hz1 hz2
    generalize hk : ps.length = np at *
    have HK := Lib.hid hk
    clear hk
    have ks : ∀ W, Whole W p #[.int .i64 most, .slice A (xs.length + k) c, .slice A' np c'] 63 → W.cell? ⟨p, 1, none⟩ = some (.slice A (xs.length + k) c) ∧ W.cell? ⟨p, 2, none⟩ = some (.slice A' np c') ∧ W.frozen? ⟨p, 2, none⟩ = false :=
      fun W h => ⟨h.cell 1, h.cell 2, h.frozen 2⟩
    have KS := Lib.hid ks
    clear ks
    go_wp2_with fail
    go_region_law ((refine step_append_lies _ (by rfl) _ _ _ (by rfl) 0 73 i0 _ 2 16 Try.underlying61 HI.out HZ0.out HZ1.out HZ2.out rfl (by omega) (.slice A' np c') np (partsOf ps) (by rfl) HO.out ⟨w1.heap.size, 0, none⟩ 1 1 [.int .i64 ((xs.length + k : Nat) : Int), .int .i64 k] (by rfl) (by rfl) (World.news_of_block (cs := #[.int .i64 ((xs.length + k : Nat) : Int), .int .i64 k]) (t := 73) (fr := (0, 0)) (heap_alloc_new w1 _)) (by simp [Value.oneCell']) (by omega) (by unfold maxLen; omega) (by omega) (Nat.zero_le _) (w1.heap.size + 1) (by simp) ?_; intro gg cap w2 hown1 hgrow hat hlt; obtain ⟨_, hs2, hf2⟩ := KS.out _ ((B1.out.fr ((Fr.alloc (Fr.refl w1 (fun _ => False)) _).drew) (fun h => h)).grew hgrow (fun e => HN.out e.symm)); have HG := Lib.hid hgrow; have HOWN := Lib.hid hown1; have HAT := Lib.hid hat; clear hgrow hown1 hat))
    all_goals
      go_wp2_with fail
      go_ret
      refine ⟨rfl, BdOut.ahead (BdOut.andThen G1.out N1.out ?_) HF.out⟩
      have hgr : Fr w1 w2 (fun i => (Value.slice A' np c').ownBlock = some i) := by
        have h0 := (Fr.alloc (Fr.refl w1 (fun i => (Value.slice A' np c').ownBlock = some i)) (.cells #[.int .i64 ((xs.length : Int) + k), .int .i64 k] 73)).drew
        exact h0.trans (Fr.of_grew HG.out) (fun i _ e => e.symm)
      have hW := B1.out.fr hgr HN.out
      have hset : ∀ u, Fr w2 (w2.setCell ⟨p, 2, none⟩ u) (fun i => i = p) := fun u => Fr.set (F := fun i => i = p) (Fr.refl _ _) (.inl rfl) _ _ _
      have hW2 := hW.set 2 (.slice (some ⟨gg, 0, none⟩) (np + 1) cap)
      simp at hW2
      refine ⟨fun i => F1 i ∨ (w1.heap.size ≤ i ∧ i < w2.heap.size), ⟨_, _, hW2, ?_, ?_, .inl b4, ?_, ?_, ?_, ?_, b9, ?_⟩, ?_, ?_⟩
      · rw [HL.out]
        have h2 := own_fr B2.out hgr (fun g hg e => HP.out g e hg)
        exact own_fr h2 (hset _) (fun g hg e => own_ne h2 hW (by decide) (by rw [hg, e]))
      · have h3 := own_fr HOWN.out (hset (.slice (some ⟨gg, 0, none⟩) (np + 1) cap)) (fun g hg e => own_ne HOWN.out hW (by decide) (by rw [hg, e]))
        rw [partsOf_append, List.length_append, HK.out]
        exact h3
      · exact fun g hg => .inl (B5.out g hg)
      · intro g hg
        simp [Value.ownBlock] at hg
        subst hg
        rcases HAT.out with e | e
        · exact .inl (B6.out _ e)
        · exact .inr ⟨by omega, hlt⟩
      · rintro i (hi | ⟨_, hi⟩)
        · have := B7.out i hi
          have := hgr.size
          simp; omega
        · simpa using hi
      · rw [HL.out]; exact hfit
      · rw [HL.out]
        refine ⟨?_, ?_⟩
        · rw [List.length_append, HK.out]; have := H.out.le.2.2.1; rw [HK.out] at this; simp; omega
        · intro q hq
          rw [List.mem_append, List.mem_singleton] at hq
          rcases hq with hq | rfl
          · exact B10.out.2 q hq
          · simp only; omega
      · exact (hgr.mono (fun i _ h => B6.out i h)).set (.inl b4) _ _ _
      · rintro i (hi | ⟨hi, _⟩)
        · exact .inl hi
        · exact .inr hi

end Go.Proofs.Ytkeiamihgcbcbaa

