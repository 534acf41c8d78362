/- Builders: Close. -/
import Derived.Test.YtkeiamihgcbcbaaBd2
import Derived.Laws.CopyRow
namespace Go.Proofs.Ytkeiamihgcbcbaa
open Go.RowKit

set_option maxHeartbeats 400000 in
theorem bclose_state (w : World) (F : Nat → Prop) (p most : Nat) (xs : List UInt8) (h : Bd w F p most xs []) :
    Calls Try.prog 22 #[.pointer (some ⟨p, 0, none⟩)] w fun e w' => e = .returned (.int .i64 17) ∧ w = w' := by
  obtain ⟨vb, vp, h1, _, h2, _⟩ := h
  obtain ⟨A, c, rfl, _⟩ := own_form h2
  have h0 := h1.cell 2
  simp at h0
  clear h1 h2
  go_enter Try.func22, Try.ntmps22
  go_wp2_with fail
  go_ret
  exact ⟨rfl, rfl⟩

theorem partsOf_last (ps : List (Nat × Nat)) (f s : Nat) : (partsOf (ps ++ [(f, s)]))[ps.length * 2]? = some (.int .i64 f) ∧ (partsOf (ps ++ [(f, s)]))[ps.length * 2 + 1]? = some (.int .i64 s) := by
  rw [partsOf_append]
  constructor
  · rw [List.getElem?_append_right (by rw [partsOf_length]; omega), partsOf_length, Nat.sub_self]; rfl
  · rw [List.getElem?_append_right (by rw [partsOf_length]; omega), partsOf_length, show ps.length * 2 + 1 - ps.length * 2 = 1 from by omega]; rfl

/-- What a builder with an open part looks like. -/
theorem Bd.open_ {w : World} {F : Nat → Prop} {p most : Nat} {xs : List UInt8} {ps : List (Nat × Nat)} {f s : Nat} (h : Bd w F p most xs (ps ++ [(f, s)])) :
    1 ≤ s ∧ s ≤ 3 ∧ s ≤ f ∧ f ≤ xs.length ∧ ∃ g c h' d, Whole w p #[.int .i64 most, .slice (some ⟨g, 0, none⟩) xs.length c, .slice (some ⟨h', 0, none⟩) (ps.length + 1) d] 63 ∧
      w.ownsRow 0 5 1 (.slice (some ⟨g, 0, none⟩) xs.length c) xs.length (cellsOf xs) ∧ w.ownsRow 0 73 2 (.slice (some ⟨h', 0, none⟩) (ps.length + 1) d) (ps.length + 1) (partsOf (ps ++ [(f, s)])) ∧
      w.cell? ⟨h', ps.length * 2, none⟩ = some (.int .i64 f) ∧ w.cell? ⟨h', ps.length * 2 + 1, none⟩ = some (.int .i64 s) ∧ F p ∧ F g ∧ F h' ∧ (∀ i, F i → i < w.heap.size) ∧ xs.length ≤ most ∧ most ≤ 1073741824 ∧ PsOk xs.length (ps ++ [(f, s)]) ∧ xs.length ≤ c ∧ c ≤ maxLen ∧ ps.length + 1 ≤ d ∧ d ≤ maxLen := by
  obtain ⟨vb, vp, h1, h2, h3, h4, h5, h6, h7, h8, h9, h10⟩ := h
  obtain ⟨q1, q2, q3, q4⟩ := h10.2 (f, s) (by simp)
  simp only at q1 q2 q3 q4
  rw [List.length_append, List.length_singleton] at h3
  refine ⟨q1, q2, q3, q4, ?_⟩
  rcases h2.2 with ⟨_, h0⟩ | ⟨g, c, cur, rfl, _, hh, hc1, hc2, _⟩
  · omega
  rcases h3.2 with ⟨_, h0⟩ | ⟨g', d, cur', rfl, _, hh', hd1, hd2, _⟩
  · omega
  obtain ⟨l1, l2⟩ := partsOf_last ps f s
  refine ⟨g, c, g', d, h1, h2, h3, ?_, ?_, h4, h5 g rfl, h6 g' rfl, h7, h8, h9, h10, hc1, hc2, hd1, hd2⟩
  · rw [h3.cellAt _ (by omega), l1]
  · rw [h3.cellAt _ (by omega), l2]

set_option maxHeartbeats 2000000 in
theorem bclose_full (w : World) (F : Nat → Prop) (p most : Nat) (xs : List UInt8) (ps : List (Nat × Nat)) (f s : Nat) (h : Bd w F p most xs (ps ++ [(f, s)])) (hl : ¬ xs.length - f < 256 ^ s) :
    Calls Try.prog 22 #[.pointer (some ⟨p, 0, none⟩)] w fun e w' => e = .returned (.int .i64 5) ∧ Grew w w' none := by
  obtain ⟨q1, q2, q3, q4, g, c, h', d, h1, h2, h3, hcf, hcs, h4, h5, h6, h7, h8, h9, h10, h11, h12, h13, h14⟩ := h.open_
  have hc1 := h1.cell 1
  have hc2 := h1.cell 2
  simp only [List.getElem?_toArray, List.getElem?_cons_succ, List.getElem?_cons_zero] at hc1 hc2
  have hp1 := h1.lt
  have hp2 := World.block_lt_of_cell? w _ hcf
  simp only at hp2
  clear h1 h2 h3 h4 h5 h6 h7 h10 h
  generalize xs.length = N at *
  obtain ⟨L, rfl⟩ : ∃ L, N = f + L := ⟨N - f, by omega⟩
  rw [show f + L - f = L from by omega] at hl
  have hd : decide (L < 256 ^ s) = false := by simpa using hl
  have HD := Lib.hid hd
  clear hd hl
  generalize ps.length = m at *
  have hw1 : IntKind.i64.wrap (((f + L : Nat) : Int) - f) = (L : Int) := by rw [show (((f + L : Nat) : Int) - f) = L from by omega]; exact IntWalk.i64_in _ (by omega)
  have hw2 : IntKind.u64.wrap (L : Int) = (L : Int) := IntWalk.u64_in _ (by omega)
  unfold maxLen at h12 h14
  have hm0 : (((m : Int) + 1) == 0) = false := by simp; omega
  have hm1 : IntKind.i64.wrap (m : Int) = (m : Int) := IntWalk.i64_in _ (by omega)
  have hm2 : (0 : Int) ≤ (m : Int) := by omega
  have hm3 : (m : Int) < (m : Int) + 1 := by omega
  go_enter Try.func22, Try.ntmps22
  go_wp2_with fail
  go_region
  have hG : Grew w (w.alloc (.cells #[.int .i64 f, .int .i64 s] 73)).drew none := grew_drew (grew_alloc (grew_refl _ _) _)
  have hz := (Whole.new w #[.int .i64 f, .int .i64 s] 73).fr (w' := (w.alloc (.cells #[.int .i64 f, .int .i64 s] 73)).drew) ((Fr.refl _ (fun _ => False)).drew) (fun h => h)
  have hz0 := hz.cell 0
  have hz1 := hz.cell 1
  simp only [List.getElem?_toArray, List.getElem?_cons_succ, List.getElem?_cons_zero] at hz0 hz1
  have hc1' := hG.cell hc1 (by simp)
  have HG := Lib.hid hG
  clear hG hz hc1 hc2 hcf hcs
  generalize (w.alloc (.cells #[.int .i64 f, .int .i64 s] 73)).drew = W1 at *
  generalize w.heap.size = z at *
  rw [show ((f + L : Nat) : Int) = (f : Int) + L from by omega] at hw1
  go_wp2_with fail
  go_quiet (fail)
  clear hw1 hw2
  go_wp2_with fail
  refine (holds_any _ s L (by unfold sizeOk; omega) (by omega)).mono ?_
  rintro e w2 ⟨rfl, rfl⟩
  rw [HD.out]
  go_wp2_with fail
  go_ret
  exact ⟨rfl, grew_drewN HG.out _⟩

/-- Fewer elements of an owned row. -/
theorem own_short {w : World} {e : TypeId} {size g n c k : Nat} {xs : List Value} (h : w.ownsRow 0 e size (.slice (some ⟨g, 0, none⟩) n c) n xs) (hk : k ≤ n) : w.ownsRow 0 e size (.slice (some ⟨g, 0, none⟩) k c) k (xs.take (k * size)) := by
  have hks : k * size ≤ n * size := Nat.mul_le_mul_right _ hk
  refine ⟨by rw [List.length_take, h.1]; omega, ?_⟩
  rcases h.2 with ⟨h, _⟩ | ⟨g', cap, cur, hv, hb, hh, hn, hm, hs, ht⟩
  · cases h
  · injection hv with hA _ hc
    injection hA with hA
    injection hA with hA
    subst hA hc
    exact .inr ⟨g, c, cur, rfl, hb, hh, by omega, hm, hs, by rw [← ht, List.take_take, show min (k * size) (n * size) = k * size from by omega]⟩

/-- A copy into a row, as a step of a region that draws its order: the world then. -/
theorem step_copy_set {P : Program} {ops : Array Oper} {o : Oper} {a : Act} {w : World} {K : Act → World → Prop} {Q : Exit → Act → World → Prop} {E : Prop} (hgd : o.guard = none) (d s : Operand) (dT sT : TypeId)
    (ho : o.op = .call { callee := .builtin .copy, args := #[d, s], argTypes := #[dT, sT] }) (elem : TypeId) (hu : P.underlying dT = some (.slice elem)) (hsz : (P.info? elem).map (·.size) = some 1)
    (g off dLen dCap : Nat) (ad : Addr) (sLen sCap : Nat) (hd : a.eval d = .slice (some ⟨g, off, none⟩) dLen dCap) (hs : a.eval s = .slice (some ad) sLen sCap)
    (cur : Array Value) (t : TypeId) (hg : w.heap[g]? = some (.cells cur t (0, 0))) (cs : List Value) (hn : cs.length = Nat.min sLen dLen)
    (hsrc : ∀ j v, cs[j]? = some v → w.cell? (ad.add j) = some v) (hfit : off + cs.length ≤ cur.size) (h1 : ∀ v ∈ cs, v.oneCell' = true)
    (h : ∀ w', w' = w.setRow g (cur.toList.take off ++ (cs ++ cur.toList.drop (off + cs.length))).toArray → K (a.put o.dst (goInt cs.length)) w') :
    if Region.wanted o (yielded ops a.tmps) = true then Oper.wp P o a w K Q else E := by
  have hw : Region.wanted o (yielded ops a.tmps) = true := by simp [Region.wanted, hgd]
  rw [if_pos hw]
  have hrun := run_copy_row (P := P) w dT sT o.type elem g off dLen dCap ad sLen sCap cur t cs hu hsz hg hn hsrc hfit h1
  unfold Oper.wp
  simp [execOp, ho, resolve, invoke, builtin, hd, hs, hrun, Result.andThen]
  exact h _ rfl

theorem fr_setRow (w : World) (g : Nat) (cs : Array Value) : Fr w (w.setRow g cs) (fun i => i = g) :=
  ⟨rfl, rfl, rfl, by simp [World.setRow], fun k _ hk => setRow_other w g k cs hk⟩

theorem arr_end (q k : Nat) (h1 : 1 ≤ k) (h3 : k ≤ 3) (W : World) : (Instr.sliceAt 69 (.pointer (some ⟨q, 0, none⟩)) (some (.int .i64 (8 - (k : Int)))) none none).run Try.prog W = .ok (.slice (some ⟨q, 8 - k, none⟩) k k) W := by
  have hk' : k = 1 ∨ k = 2 ∨ k = 3 := by omega
  rcases hk' with rfl | rfl | rfl
  · first | rfl | kernel_rfl | simp [go_sem]
  · first | rfl | kernel_rfl | simp [go_sem]
  · first | rfl | kernel_rfl | simp [go_sem]

set_option maxHeartbeats 2000000 in
theorem bclose_ok (w : World) (F : Nat → Prop) (p most : Nat) (xs : List UInt8) (ps : List (Nat × Nat)) (f s : Nat) (h : Bd w F p most xs (ps ++ [(f, s)])) (hl : xs.length - f < 256 ^ s) :
    Calls Try.prog 22 #[.pointer (some ⟨p, 0, none⟩)] w fun e w' => e = .returned (.int .i64 0) ∧ BdOut w w' F p most (xs.take (f - s) ++ (be s (xs.length - f) ++ xs.drop f)) ps := by
  obtain ⟨q1, q2, q3, q4, g, c, h', d, h1, h2, h3, hcf, hcs, h4, h5, h6, h7, h8, h9, h10, h11, h12, h13, h14⟩ := h.open_
  have hc1 := h1.cell 1
  have hc2 := h1.cell 2
  have hfz := h1.frozen 2
  simp only [List.getElem?_toArray, List.getElem?_cons_succ, List.getElem?_cons_zero] at hc1 hc2
  have hp1 := h1.lt
  have hp2 := World.block_lt_of_cell? w _ hcf
  simp only at hp2
  have H1 := Lib.hid h1
  have H2 := Lib.hid h2
  have H3 := Lib.hid h3
  have H7 := Lib.hid h7
  have H10 := Lib.hid h10
  clear h1 h2 h3 h7 h10 h
  generalize hN : xs.length = N at *
  have HXL := Lib.hid hN
  clear hN
  obtain ⟨r, rfl⟩ : ∃ r, f = s + r := ⟨f - s, by omega⟩
  obtain ⟨L, rfl⟩ : ∃ L, N = s + r + L := ⟨N - (s + r), by omega⟩
  rw [show s + r + L - (s + r) = L from by omega] at hl ⊢
  rw [show s + r - s = r from by omega]
  have hd : decide (L < 256 ^ s) = true := by simpa using hl
  have HD := Lib.hid hd
  clear hd hl
  generalize hm : ps.length = m at *
  have HM := Lib.hid hm
  clear hm
  have hw1 : IntKind.i64.wrap ((s : Int) + r + L - (s + r)) = (L : Int) := by rw [show ((s : Int) + r + L - (s + r)) = L from by omega]; exact IntWalk.i64_in _ (by omega)
  have hw2 : IntKind.u64.wrap (L : Int) = (L : Int) := IntWalk.u64_in _ (by omega)
  unfold maxLen at h12 h14
  have hm0 : (((m : Int) + 1) == 0) = false := by simp; omega
  have hm1 : IntKind.i64.wrap (m : Int) = (m : Int) := IntWalk.i64_in _ (by omega)
  have hm2 : (0 : Int) ≤ (m : Int) := by omega
  have hm3 : (m : Int) < (m : Int) + 1 := by omega
  have hh := fun W => highest_any W L (by omega)
  have hbl := be_last s L (by omega)
  obtain ⟨b0, b1, b2, b3, b4, b5, b6, b7, he⟩ : ∃ b0 b1 b2 b3 b4 b5 b6 b7 : UInt8, be 8 L = [b0, b1, b2, b3, b4, b5, b6, b7] := ⟨_, _, _, _, _, _, _, _, be8 L⟩
  simp only [he] at hh hbl
  simp only [cellsOf, List.map_cons, List.map_nil] at hh
  have HH := Lib.hid hh
  have HB := Lib.hid hbl
  clear hh hbl he
  go_enter Try.func22, Try.ntmps22
  go_wp2_with fail
  go_region
  have hG : Grew w (w.alloc (.cells #[.int .i64 ((s : Int) + r), .int .i64 s] 73)).drew none := grew_drew (grew_alloc (grew_refl _ _) _)
  have hz := (Whole.new w #[.int .i64 ((s : Int) + r), .int .i64 s] 73).fr (w' := (w.alloc (.cells #[.int .i64 ((s : Int) + r), .int .i64 s] 73)).drew) ((Fr.refl _ (fun _ => False)).drew) (fun h => h)
  have hz0 := hz.cell 0
  have hz1 := hz.cell 1
  simp only [List.getElem?_toArray, List.getElem?_cons_succ, List.getElem?_cons_zero] at hz0 hz1
  have hc1' := hG.cell hc1 (by simp)
  have HG := Lib.hid hG
  have HZ := Lib.hid hz
  clear hG hz hc1 hc2 hcf hcs
  generalize (w.alloc (.cells #[.int .i64 ((s : Int) + r), .int .i64 s] 73)).drew = W1 at *
  generalize hz : w.heap.size = z at *
  have HZE := Lib.hid hz
  clear hz
  go_wp2_with fail
  go_quiet (fail)
  clear hw1 hw2
  go_wp2_with fail
  refine (holds_any _ s L (by unfold sizeOk; omega) (by omega)).mono ?_
  rintro e w2 ⟨rfl, rfl⟩
  rw [HD.out]
  clear HD
  go_wp2_with fail
  refine (HH.out _).mono ?_
  rintro e w2 ⟨rfl, g2⟩
  have g3 := grew_alloc (grew_trans HG.out g2.undraw) (.cells #[.int .u8 b0.toNat, .int .u8 b1.toNat, .int .u8 b2.toNat, .int .u8 b3.toNat, .int .u8 b4.toNat, .int .u8 b5.toNat, .int .u8 b6.toNat, .int .u8 b7.toNat] 69)
  have hq := Whole.new w2 #[.int .u8 b0.toNat, .int .u8 b1.toNat, .int .u8 b2.toNat, .int .u8 b3.toNat, .int .u8 b4.toNat, .int .u8 b5.toNat, .int .u8 b6.toNat, .int .u8 b7.toNat] 69
  have hzz := HZ.out.grew (grew_alloc g2.undraw (.cells #[.int .u8 b0.toNat, .int .u8 b1.toNat, .int .u8 b2.toNat, .int .u8 b3.toNat, .int .u8 b4.toNat, .int .u8 b5.toNat, .int .u8 b6.toNat, .int .u8 b7.toNat] 69)) (by simp)
  clear hz0 hz1 hc1' HH HZ HG
  go_wp2_with fail
  generalize w2.alloc (.cells #[.int .u8 b0.toNat, .int .u8 b1.toNat, .int .u8 b2.toNat, .int .u8 b3.toNat, .int .u8 b4.toNat, .int .u8 b5.toNat, .int .u8 b6.toNat, .int .u8 b7.toNat] 69) = W2 at *
  generalize w2.heap.size = q at *
  have f3 : Fr w W2 (fun _ => False) := Fr.of_grew' g3 (fun _ h => by cases h)
  have hb1 := H1.out.fr f3 (fun h => h)
  have hb2 := own_fr H2.out f3 (fun _ _ h => h)
  have hb3 := own_fr H3.out f3 (fun _ _ h => h)
  have hc1 := hb1.cell 1
  have hz0 := hzz.cell 0
  have hz1 := hzz.cell 1
  simp only [List.getElem?_toArray, List.getElem?_cons_succ, List.getElem?_cons_zero] at hc1 hz0 hz1
  obtain ⟨cur, hcur, hcsz, hctk⟩ : ∃ cur : Array Value, Whole W2 g cur 5 ∧ cur.size = c ∧ cur.toList.take (s + r + L) = cellsOf xs := by
    rcases hb2.2 with ⟨h, _⟩ | ⟨g', cap, cur, hv, _, hh, _, _, hs, ht⟩
    · cases h
    · injection hv with hA _ hc
      injection hA with hA
      injection hA with hA
      subst hA hc
      exact ⟨cur, hh, by omega, by simpa using ht⟩
  have hbs := ByF.of_whole (k := 8 - s) hq (ys := [b0, b1, b2, b3, b4, b5, b6, b7]) rfl
  rw [HB.out] at hbs
  have hsrc : ∀ j v, (cellsOf (be s L))[j]? = some v → W2.cell? ((⟨q, 8 - s, none⟩ : Addr).add j) = some v := by
    intro j v hj
    obtain ⟨ad, e, ha⟩ := hbs.src (by rw [cellsOf_length, be_length]; omega)
    cases e
    exact ha j v hj
  have hw3 : IntKind.i64.wrap ((s : Int) + r - s) = r := by rw [show ((s : Int) + r - s) = r from by omega]; exact IntWalk.i64_in _ (by omega)
  have hw4 : IntKind.i64.wrap (8 - (s : Int)) = 8 - s := IntWalk.i64_in _ (by omega)
  have hs1 : ∀ W : World, (Instr.slice 32 (.slice (some ⟨g, 0, none⟩) (s + r + L) c) (some (.int .i64 (r : Int))) (some (.int .i64 ((s : Int) + r))) none).run Try.prog W = .ok (.slice (some ⟨g, r, none⟩) s (c - r)) W := by
    intro W
    have := slice_run W (some ⟨g, 0, none⟩) (s + r + L) c r (s + r) (by omega) (by omega)
    rw [show ((s + r : Nat) : Int) = (s : Int) + r from by omega, show s + r - r = s from by omega] at this
    simpa [cutAt, show c ≠ r from by omega, addr_add] using this
  have hs2 : ∀ W : World, (Instr.sliceAt 69 (.pointer (some ⟨q, 0, none⟩)) (some (.int .i64 (8 - (s : Int)))) none none).run Try.prog W = .ok (.slice (some ⟨q, 8 - s, none⟩) s s) W := arr_end q s q1 q2
  have G3 := Lib.hid g3
  have HQ := Lib.hid hq
  have HB1 := Lib.hid hb1
  have HB2 := Lib.hid hb2
  have HB3 := Lib.hid hb3
  have HCUR := Lib.hid hcur
  have HCSZ := Lib.hid hcsz
  have HCTK := Lib.hid hctk
  have HSRC := Lib.hid hsrc
  have F3 := Lib.hid f3
  clear g3 hq hb1 hb2 hb3 hcur hcsz hctk hsrc f3 hbs hzz g2
  go_still_tail 16, (by kernel_rfl)
  change wpList _ _ _ _ _ W2.drew
  refine wpList_copy_own rfl (.tmp 53) (.tmp 57) 32 32 rfl 5 Try.underlying32 size_u8 g r s (c - r) ⟨q, 8 - s, none⟩ s s rfl rfl cur 5 HCUR.out (cellsOf (be s L)) (by rw [cellsOf_length, be_length]; simp) HSRC.out (by rw [cellsOf_length, be_length, HCSZ.out]; omega) (cellsOf_one _) ?_
  have hcur3 : Whole (W2.drew.setRow g (cur.toList.take r ++ (cellsOf (be s L) ++ cur.toList.drop (r + (cellsOf (be s L)).length))).toArray) g (cur.toList.take r ++ (cellsOf (be s L) ++ cur.toList.drop (r + (cellsOf (be s L)).length))).toArray 5 := setRow_heap W2.drew g cur _ 5 _ HCUR.out
  have f4 : Fr W2 (W2.drew.setRow g (cur.toList.take r ++ (cellsOf (be s L) ++ cur.toList.drop (r + (cellsOf (be s L)).length))).toArray) (fun i => i = g) := ((Fr.refl W2 _).drew).trans (fr_setRow _ _ _) (fun _ _ h => h)
  generalize W2.drew.setRow g (cur.toList.take r ++ (cellsOf (be s L) ++ cur.toList.drop (r + (cellsOf (be s L)).length))).toArray = W3 at *
  have hpg : p ≠ g := HB1.out.ne HCUR.out (by decide)
  have hb1 := HB1.out.fr f4 hpg
  have hc2 := hb1.cell 2
  have hf2 := hb1.frozen 2
  simp only [List.getElem?_toArray, List.getElem?_cons_succ, List.getElem?_cons_zero] at hc2
  have HB4 := Lib.hid hb1
  have HC3 := Lib.hid hcur3
  have F4 := Lib.hid f4
  have HPG := Lib.hid hpg
  have hm4 : (m : Int) ≤ d := by omega
  clear hb1 hcur3 f4 hpg hs1 hs2 hc1 hz0 hz1 hw3 hw4
  go_wp2_with fail
  go_still_tail 12, (by kernel_rfl)
  change wpList _ _ _ _ _ W3.drew
  have hd1 : W3.drew.cell? ⟨p, 2, none⟩ = some (.slice (some ⟨h', 0, none⟩) (m + 1) d) := hc2
  have hd2 : W3.drew.frozen? ⟨p, 2, none⟩ = false := hf2
  clear hc2 hf2
  have f5 : Fr W3 W3.drew (fun _ => False) := (Fr.refl _ _).drew
  generalize W3.drew = W4 at *
  go_wp2_with fail
  go_ret
  have f45 : Fr W2 W4 (fun i => i = g) := F4.out.trans f5 (fun _ _ h => h.elim)
  have hW4 := HB4.out.fr f5 (fun h => h)
  have hC4 := HC3.out.fr f5 (fun h => h)
  have hset : ∀ u, Fr W4 (W4.setCell ⟨p, 2, none⟩ u) (fun i => i = p) := fun u => Fr.set (F := fun i => i = p) (Fr.refl _ _) (.inl rfl) _ _ _
  have hW5 := hW4.set 2 (.slice (some ⟨h', 0, none⟩) m d)
  simp at hW5
  have hlen : (xs.take r ++ (be s L ++ xs.drop (s + r))).length = s + r + L := by
    have := HXL.out
    simp [be_length]; omega
  have hhg : h' ≠ g := by
    have := own_ne HB3.out HCUR.out (by decide)
    simpa [Value.ownBlock] using this
  have f0 : Fr w W4 F := (F3.out.mono (fun _ _ h => h.elim)).trans f45 (fun i _ h => by subst h; exact h5)
  refine ⟨rfl, F, ⟨_, _, hW5, ?_, ?_, h4, ?_, ?_, ?_, by rw [hlen]; exact h8, h9, ?_⟩, f0.set (.inl h4) _ _ _, fun _ h => .inl h⟩
  · rw [hlen]
    refine ⟨by rw [cellsOf_length, hlen]; omega, .inr ⟨g, c, _, rfl, Nat.zero_le _, hC4.fr (hset _) (fun e => HPG.out e.symm), h11, by unfold maxLen; exact h12, ?_, ?_⟩⟩
    · have := HCSZ.out
      simp [cellsOf_length, be_length]; omega
    · have h1 := HCTK.out
      have h2 : (cur.toList.take r).length = r := by have := HCSZ.out; simp; omega
      rw [Nat.mul_one, cellsOf_append, cellsOf_append, cellsOf_length, be_length]
      have e1 : cellsOf (xs.take r) = cur.toList.take r := by
        have : cellsOf (xs.take r) = (cellsOf xs).take r := by simp [cellsOf]
        rw [this, ← h1, List.take_take, show min r (s + r + L) = r from by omega]
      have e2 : cellsOf (xs.drop (s + r)) = (cur.toList.drop (r + s)).take L := by
        have : cellsOf (xs.drop (s + r)) = (cellsOf xs).drop (s + r) := by simp [cellsOf]
        rw [this, ← h1, List.drop_take, Nat.add_comm s r, show r + s + L - (r + s) = L from by omega]
      rw [e1, e2]
      show List.take (s + r + L) (cur.toList.take r ++ (cellsOf (be s L) ++ cur.toList.drop (r + s))) = _
      rw [List.take_append, h2, List.take_of_length_le (l := cur.toList.take r) (by rw [h2]; omega), List.take_append, cellsOf_length, be_length,
        List.take_of_length_le (l := cellsOf (be s L)) (by rw [cellsOf_length, be_length]; omega), show s + r + L - r - s = L from by omega]
  · have h3 := own_fr (own_fr HB3.out f45 (fun k hk e => hhg (by simp [Value.ownBlock] at hk; omega))) (hset (.slice (some ⟨h', 0, none⟩) m d)) (fun k hk e => own_ne (own_fr HB3.out f45 (fun k hk e => hhg (by simp [Value.ownBlock] at hk; omega))) hW4 (by decide) (by rw [hk, e]))
    have h4 := own_short h3 (k := m) (by omega)
    rw [partsOf_append, List.take_left' (by rw [partsOf_length, HM.out])] at h4
    rw [HM.out]
    exact h4
  · intro k hk; simp [Value.ownBlock] at hk; subst hk; exact h5
  · intro k hk; simp [Value.ownBlock] at hk; subst hk; exact h6
  · intro i hi
    have := H7.out i hi
    have := f0.size
    have := HZE.out
    simp; omega
  · rw [hlen]
    refine ⟨?_, fun q hq => H10.out.2 q (by simp [hq])⟩
    have := H10.out.1
    simp at this
    omega

end Go.Proofs.Ytkeiamihgcbcbaa

