/- Builders: Close. -/
import Derived.Test.YtibbeodcheefaaaQ10
import Derived.Laws.CopyRow
import Derived.Test.YtibbeodcheefaaaQ8
import Derived.Test.YtibbeodcheefaaaQ1
import Derived.Test.YtibbeodcheefaaaQ9
import Derived.Deep.Cut
import Derived.Laws.MakeOwn
namespace Go.Proofs.Ytibbeodcheefaaa
open Go.RowKit

set_option maxRecDepth 100000 in
set_option maxHeartbeats 400000 in
theorem bclose_state (w : World) (F : Nat → Prop) (p most : Nat) (xs : List UInt8) (h : Bd w F p most xs []) :
    Calls Try.prog 88 #[.pointer (some ⟨p, 0, none⟩)] w fun e w' => e = .returned (.int .i64 17) ∧ w = w' := by
  obtain ⟨vb, vp, h1, _, h2, _⟩ := h
  obtain ⟨A, c, rfl, _⟩ := own_form h2
  have h0 := h1.cell 2
  simp at h0
  clear h1 h2
  go_enter Try.func88, Try.ntmps88
  go_wp2_with fail
  go_ret
  exact ⟨rfl, rfl⟩

set_option maxRecDepth 100000 in
theorem partsOf_last (ps : List (Nat × Nat)) (f s : Nat) : (partsOf (ps ++ [(f, s)]))[ps.length * 2]? = some (.int .i64 f) ∧ (partsOf (ps ++ [(f, s)]))[ps.length * 2 + 1]? = some (.int .i64 s) := by
  rw [partsOf_append]
  constructor
  · rw [List.getElem?_append_right (by rw [partsOf_length]; omega), partsOf_length, Nat.sub_self]; rfl
  · rw [List.getElem?_append_right (by rw [partsOf_length]; omega), partsOf_length, show ps.length * 2 + 1 - ps.length * 2 = 1 from by omega]; rfl

set_option maxRecDepth 100000 in
/-- What a builder with an open part looks like. -/
theorem Bd.open_ {w : World} {F : Nat → Prop} {p most : Nat} {xs : List UInt8} {ps : List (Nat × Nat)} {f s : Nat} (h : Bd w F p most xs (ps ++ [(f, s)])) :
    1 ≤ s ∧ s ≤ 3 ∧ s ≤ f ∧ f ≤ xs.length ∧ ∃ g c h' d, Whole w p #[.int .i64 most, .slice (some ⟨g, 0, none⟩) xs.length c, .slice (some ⟨h', 0, none⟩) (ps.length + 1) d] 117 ∧
      w.ownsRow 0 5 1 (.slice (some ⟨g, 0, none⟩) xs.length c) xs.length (cellsOf xs) ∧ w.ownsRow 0 151 2 (.slice (some ⟨h', 0, none⟩) (ps.length + 1) d) (ps.length + 1) (partsOf (ps ++ [(f, s)])) ∧
      w.cell? ⟨h', ps.length * 2, none⟩ = some (.int .i64 f) ∧ w.cell? ⟨h', ps.length * 2 + 1, none⟩ = some (.int .i64 s) ∧ F p ∧ F g ∧ F h' ∧ (∀ i, F i → i < w.heap.size) ∧ xs.length ≤ most ∧ most ≤ 1073741824 ∧ PsOk xs.length (ps ++ [(f, s)]) ∧ xs.length ≤ c ∧ c ≤ maxLen ∧ ps.length + 1 ≤ d ∧ d ≤ maxLen := by
  obtain ⟨vb, vp, h1, h2, h3, h4, h5, h6, h7, h8, h9, h10⟩ := h
  obtain ⟨q1, q2, q3, q4⟩ := h10.2 (f, s) (by simp)
  simp only at q1 q2 q3 q4
  rw [List.length_append, List.length_singleton] at h3
  refine ⟨q1, q2, q3, q4, ?_⟩
  rcases h2.2 with ⟨_, h0⟩ | ⟨g, c, cur, rfl, _, hh, hc1, hc2, _⟩
  · omega
  rcases h3.2 with ⟨_, h0⟩ | ⟨g', d, cur', rfl, _, hh', hd1, hd2, _⟩
  · omega
  obtain ⟨l1, l2⟩ := partsOf_last ps f s
  refine ⟨g, c, g', d, h1, h2, h3, ?_, ?_, h4, h5 g rfl, h6 g' rfl, h7, h8, h9, h10, hc1, hc2, hd1, hd2⟩
  · rw [h3.cellAt _ (by omega), l1]
  · rw [h3.cellAt _ (by omega), l2]

set_option maxRecDepth 100000 in
set_option maxHeartbeats 2000000 in
theorem bclose_full (w : World) (F : Nat → Prop) (p most : Nat) (xs : List UInt8) (ps : List (Nat × Nat)) (f s : Nat) (h : Bd w F p most xs (ps ++ [(f, s)])) (hl : ¬ xs.length - f < 256 ^ s) :
    Calls Try.prog 88 #[.pointer (some ⟨p, 0, none⟩)] w fun e w' => e = .returned (.int .i64 5) ∧ Grew w w' none := by
  obtain ⟨q1, q2, q3, q4, g, c, h', d, h1, h2, h3, hcf, hcs, h4, h5, h6, h7, h8, h9, h10, h11, h12, h13, h14⟩ := h.open_
  have hc1 := h1.cell 1
  have hc2 := h1.cell 2
  simp only [List.getElem?_toArray, List.getElem?_cons_succ, List.getElem?_cons_zero] at hc1 hc2
  have hp1 := h1.lt
  have hp2 := World.block_lt_of_cell? w _ hcf
  simp only at hp2
  clear h1 h2 h3 h4 h5 h6 h7 h10 h
  generalize xs.length = N at *
  obtain ⟨L, rfl⟩ : ∃ L, N = f + L := ⟨N - f, by omega⟩
  rw [show f + L - f = L from by omega] at hl
  have hd : decide (L < 256 ^ s) = false := by simpa using hl
  have HD := Lib.hid hd
  clear hd hl
  generalize ps.length = m at *
  have hw1 : IntKind.i64.wrap (((f + L : Nat) : Int) - f) = (L : Int) := by rw [show (((f + L : Nat) : Int) - f) = L from by omega]; exact IntWalk.i64_in _ (by omega)
  have hw2 : IntKind.u64.wrap (L : Int) = (L : Int) := IntWalk.u64_in _ (by omega)
  unfold maxLen at h12 h14
  have hm0 : (((m : Int) + 1) == 0) = false := by simp; omega
  have hm1 : IntKind.i64.wrap (m : Int) = (m : Int) := IntWalk.i64_in _ (by omega)
  have hm2 : (0 : Int) ≤ (m : Int) := by omega
  have hm3 : (m : Int) < (m : Int) + 1 := by omega
  go_enter Try.func88, Try.ntmps88
  go_wp2_with fail
  go_region
  have hG : Grew w (w.alloc (.cells #[.int .i64 f, .int .i64 s] 151)).drew none := grew_drew (grew_alloc (grew_refl _ _) _)
  have hz := (Whole.new w #[.int .i64 f, .int .i64 s] 151).fr (w' := (w.alloc (.cells #[.int .i64 f, .int .i64 s] 151)).drew) ((Fr.refl _ (fun _ => False)).drew) (fun h => h)
  have hz0 := hz.cell 0
  have hz1 := hz.cell 1
  simp only [List.getElem?_toArray, List.getElem?_cons_succ, List.getElem?_cons_zero] at hz0 hz1
  have hc1' := hG.cell hc1 (by simp)
  have HG := Lib.hid hG
  clear hG hz hc1 hc2 hcf hcs
  generalize (w.alloc (.cells #[.int .i64 f, .int .i64 s] 151)).drew = W1 at *
  generalize w.heap.size = z at *
  rw [show ((f + L : Nat) : Int) = (f : Int) + L from by omega] at hw1
  go_wp2_with fail
  go_quiet (fail)
  clear hw1 hw2
  go_wp2_with fail
  refine (holds_any _ s L (by unfold sizeOk; omega) (by omega)).mono ?_
  rintro e w2 ⟨rfl, rfl⟩
  rw [HD.out]
  go_wp2_with fail
  go_ret
  exact ⟨rfl, grew_drewN HG.out _⟩

set_option maxRecDepth 100000 in
/-- Fewer elements of an owned row. -/
theorem own_short {w : World} {e : TypeId} {size g n c k : Nat} {xs : List Value} (h : w.ownsRow 0 e size (.slice (some ⟨g, 0, none⟩) n c) n xs) (hk : k ≤ n) : w.ownsRow 0 e size (.slice (some ⟨g, 0, none⟩) k c) k (xs.take (k * size)) := by
  have hks : k * size ≤ n * size := Nat.mul_le_mul_right _ hk
  refine ⟨by rw [List.length_take, h.1]; omega, ?_⟩
  rcases h.2 with ⟨h, _⟩ | ⟨g', cap, cur, hv, hb, hh, hn, hm, hs, ht⟩
  · cases h
  · injection hv with hA _ hc
    injection hA with hA
    injection hA with hA
    subst hA hc
    exact .inr ⟨g, c, cur, rfl, hb, hh, by omega, hm, hs, by rw [← ht, List.take_take, show min (k * size) (n * size) = k * size from by omega]⟩

set_option maxRecDepth 100000 in
/-- A copy into a row, as a step of a region that draws its order: the world then. -/
theorem step_copy_set {P : Program} {ops : Array Oper} {o : Oper} {a : Act} {w : World} {K : Act → World → Prop} {Q : Exit → Act → World → Prop} {E : Prop} (hgd : o.guard = none) (d s : Operand) (dT sT : TypeId)
    (ho : o.op = .call { callee := .builtin .copy, args := #[d, s], argTypes := #[dT, sT] }) (elem : TypeId) (hu : P.underlying dT = some (.slice elem)) (hsz : (P.info? elem).map (·.size) = some 1)
    (g off dLen dCap : Nat) (ad : Addr) (sLen sCap : Nat) (hd : a.eval d = .slice (some ⟨g, off, none⟩) dLen dCap) (hs : a.eval s = .slice (some ad) sLen sCap)
    (cur : Array Value) (t : TypeId) (hg : w.heap[g]? = some (.cells cur t (0, 0))) (cs : List Value) (hn : cs.length = Nat.min sLen dLen)
    (hsrc : ∀ j v, cs[j]? = some v → w.cell? (ad.add j) = some v) (hfit : off + cs.length ≤ cur.size) (h1 : ∀ v ∈ cs, v.oneCell' = true)
    (h : ∀ w', w' = w.setRow g (cur.toList.take off ++ (cs ++ cur.toList.drop (off + cs.length))).toArray → K (a.put o.dst (goInt cs.length)) w') :
    if Region.wanted o (yielded ops a.tmps) = true then Oper.wp P o a w K Q else E := by
  have hw : Region.wanted o (yielded ops a.tmps) = true := by simp [Region.wanted, hgd]
  rw [if_pos hw]
  have hrun := run_copy_row (P := P) w dT sT o.type elem g off dLen dCap ad sLen sCap cur t cs hu hsz hg hn hsrc hfit h1
  unfold Oper.wp
  simp [execOp, ho, resolve, invoke, builtin, hd, hs, hrun, Result.andThen]
  exact h _ rfl

set_option maxRecDepth 100000 in
theorem fr_setRow (w : World) (g : Nat) (cs : Array Value) : Fr w (w.setRow g cs) (fun i => i = g) :=
  ⟨rfl, rfl, rfl, by simp [World.setRow], fun k _ hk => setRow_other w g k cs hk⟩

set_option maxRecDepth 100000 in
theorem arr_end (q k : Nat) (h1 : 1 ≤ k) (h3 : k ≤ 3) (W : World) : (Instr.sliceAt 131 (.pointer (some ⟨q, 0, none⟩)) (some (.int .i64 (8 - (k : Int)))) none none).run Try.prog W = .ok (.slice (some ⟨q, 8 - k, none⟩) k k) W := by
  have hk' : k = 1 ∨ k = 2 ∨ k = 3 := by omega
  rcases hk' with rfl | rfl | rfl
  · first | rfl | kernel_rfl | simp [go_sem]
  · first | rfl | kernel_rfl | simp [go_sem]
  · first | rfl | kernel_rfl | simp [go_sem]

set_option maxRecDepth 100000 in
set_option maxHeartbeats 2000000 in
theorem bclose_ok (w : World) (F : Nat → Prop) (p most : Nat) (xs : List UInt8) (ps : List (Nat × Nat)) (f s : Nat) (h : Bd w F p most xs (ps ++ [(f, s)])) (hl : xs.length - f < 256 ^ s) :
    Calls Try.prog 88 #[.pointer (some ⟨p, 0, none⟩)] w fun e w' => e = .returned (.int .i64 0) ∧ BdOut w w' F p most (xs.take (f - s) ++ (be s (xs.length - f) ++ xs.drop f)) ps := by
  obtain ⟨q1, q2, q3, q4, g, c, h', d, h1, h2, h3, hcf, hcs, h4, h5, h6, h7, h8, h9, h10, h11, h12, h13, h14⟩ := h.open_
  have hc1 := h1.cell 1
  have hc2 := h1.cell 2
  have hfz := h1.frozen 2
  simp only [List.getElem?_toArray, List.getElem?_cons_succ, List.getElem?_cons_zero] at hc1 hc2
  have hp1 := h1.lt
  have hp2 := World.block_lt_of_cell? w _ hcf
  simp only at hp2
  have H1 := Lib.hid h1
  have H2 := Lib.hid h2
  have H3 := Lib.hid h3
  have H7 := Lib.hid h7
  have H10 := Lib.hid h10
  clear h1 h2 h3 h7 h10 h
  generalize hN : xs.length = N at *
  have HXL := Lib.hid hN
  clear hN
  obtain ⟨r, rfl⟩ : ∃ r, f = s + r := ⟨f - s, by omega⟩
  obtain ⟨L, rfl⟩ : ∃ L, N = s + r + L := ⟨N - (s + r), by omega⟩
  rw [show s + r + L - (s + r) = L from by omega] at hl ⊢
  rw [show s + r - s = r from by omega]
  have hd : decide (L < 256 ^ s) = true := by simpa using hl
  have HD := Lib.hid hd
  clear hd hl
  generalize hm : ps.length = m at *
  have HM := Lib.hid hm
  clear hm
  have hw1 : IntKind.i64.wrap ((s : Int) + r + L - (s + r)) = (L : Int) := by rw [show ((s : Int) + r + L - (s + r)) = L from by omega]; exact IntWalk.i64_in _ (by omega)
  have hw2 : IntKind.u64.wrap (L : Int) = (L : Int) := IntWalk.u64_in _ (by omega)
  unfold maxLen at h12 h14
  have hm0 : (((m : Int) + 1) == 0) = false := by simp; omega
  have hm1 : IntKind.i64.wrap (m : Int) = (m : Int) := IntWalk.i64_in _ (by omega)
  have hm2 : (0 : Int) ≤ (m : Int) := by omega
  have hm3 : (m : Int) < (m : Int) + 1 := by omega
  have hh := fun W => highest_any W L (by omega)
  have hbl := be_last s L (by omega)
  obtain ⟨b0, b1, b2, b3, b4, b5, b6, b7, he⟩ : ∃ b0 b1 b2 b3 b4 b5 b6 b7 : UInt8, be 8 L = [b0, b1, b2, b3, b4, b5, b6, b7] := ⟨_, _, _, _, _, _, _, _, be8 L⟩
  simp only [he] at hh hbl
  simp only [cellsOf, List.map_cons, List.map_nil] at hh
  have HH := Lib.hid hh
  have HB := Lib.hid hbl
  clear hh hbl he
  go_enter Try.func88, Try.ntmps88
  go_wp2_with fail
  go_region
  have hG : Grew w (w.alloc (.cells #[.int .i64 ((s : Int) + r), .int .i64 s] 151)).drew none := grew_drew (grew_alloc (grew_refl _ _) _)
  have hz := (Whole.new w #[.int .i64 ((s : Int) + r), .int .i64 s] 151).fr (w' := (w.alloc (.cells #[.int .i64 ((s : Int) + r), .int .i64 s] 151)).drew) ((Fr.refl _ (fun _ => False)).drew) (fun h => h)
  have hz0 := hz.cell 0
  have hz1 := hz.cell 1
  simp only [List.getElem?_toArray, List.getElem?_cons_succ, List.getElem?_cons_zero] at hz0 hz1
  have hc1' := hG.cell hc1 (by simp)
  have HG := Lib.hid hG
  have HZ := Lib.hid hz
  clear hG hz hc1 hc2 hcf hcs
  generalize (w.alloc (.cells #[.int .i64 ((s : Int) + r), .int .i64 s] 151)).drew = W1 at *
  generalize hz : w.heap.size = z at *
  have HZE := Lib.hid hz
  clear hz
  go_wp2_with fail
  go_quiet (fail)
  clear hw1 hw2
  go_wp2_with fail
  refine (holds_any _ s L (by unfold sizeOk; omega) (by omega)).mono ?_
  rintro e w2 ⟨rfl, rfl⟩
  rw [HD.out]
  clear HD
  go_wp2_with fail
  refine (HH.out _).mono ?_
  rintro e w2 ⟨rfl, g2⟩
  have g3 := grew_alloc (grew_trans HG.out g2.undraw) (.cells #[.int .u8 b0.toNat, .int .u8 b1.toNat, .int .u8 b2.toNat, .int .u8 b3.toNat, .int .u8 b4.toNat, .int .u8 b5.toNat, .int .u8 b6.toNat, .int .u8 b7.toNat] 131)
  have hq := Whole.new w2 #[.int .u8 b0.toNat, .int .u8 b1.toNat, .int .u8 b2.toNat, .int .u8 b3.toNat, .int .u8 b4.toNat, .int .u8 b5.toNat, .int .u8 b6.toNat, .int .u8 b7.toNat] 131
  have hzz := HZ.out.grew (grew_alloc g2.undraw (.cells #[.int .u8 b0.toNat, .int .u8 b1.toNat, .int .u8 b2.toNat, .int .u8 b3.toNat, .int .u8 b4.toNat, .int .u8 b5.toNat, .int .u8 b6.toNat, .int .u8 b7.toNat] 131)) (by simp)
  clear hz0 hz1 hc1' HH HZ HG
  go_wp2_with fail
  generalize w2.alloc (.cells #[.int .u8 b0.toNat, .int .u8 b1.toNat, .int .u8 b2.toNat, .int .u8 b3.toNat, .int .u8 b4.toNat, .int .u8 b5.toNat, .int .u8 b6.toNat, .int .u8 b7.toNat] 131) = W2 at *
  generalize w2.heap.size = q at *
  have f3 : Fr w W2 (fun _ => False) := Fr.of_grew' g3 (fun _ h => by cases h)
  have hb1 := H1.out.fr f3 (fun h => h)
  have hb2 := own_fr H2.out f3 (fun _ _ h => h)
  have hb3 := own_fr H3.out f3 (fun _ _ h => h)
  have hc1 := hb1.cell 1
  have hz0 := hzz.cell 0
  have hz1 := hzz.cell 1
  simp only [List.getElem?_toArray, List.getElem?_cons_succ, List.getElem?_cons_zero] at hc1 hz0 hz1
  obtain ⟨cur, hcur, hcsz, hctk⟩ : ∃ cur : Array Value, Whole W2 g cur 5 ∧ cur.size = c ∧ cur.toList.take (s + r + L) = cellsOf xs := by
    rcases hb2.2 with ⟨h, _⟩ | ⟨g', cap, cur, hv, _, hh, _, _, hs, ht⟩
    · cases h
    · injection hv with hA _ hc
      injection hA with hA
      injection hA with hA
      subst hA hc
      exact ⟨cur, hh, by omega, by simpa using ht⟩
  have hbs := ByF.of_whole (k := 8 - s) hq (ys := [b0, b1, b2, b3, b4, b5, b6, b7]) rfl
  rw [HB.out] at hbs
  have hsrc : ∀ j v, (cellsOf (be s L))[j]? = some v → W2.cell? ((⟨q, 8 - s, none⟩ : Addr).add j) = some v := by
    intro j v hj
    obtain ⟨ad, e, ha⟩ := hbs.src (by rw [cellsOf_length, be_length]; omega)
    cases e
    exact ha j v hj
  have hw3 : IntKind.i64.wrap ((s : Int) + r - s) = r := by rw [show ((s : Int) + r - s) = r from by omega]; exact IntWalk.i64_in _ (by omega)
  have hw4 : IntKind.i64.wrap (8 - (s : Int)) = 8 - s := IntWalk.i64_in _ (by omega)
  have hs1 : ∀ W : World, (Instr.slice 26 (.slice (some ⟨g, 0, none⟩) (s + r + L) c) (some (.int .i64 (r : Int))) (some (.int .i64 ((s : Int) + r))) none).run Try.prog W = .ok (.slice (some ⟨g, r, none⟩) s (c - r)) W := by
    intro W
    have := slice_run W (some ⟨g, 0, none⟩) (s + r + L) c r (s + r) (by omega) (by omega)
    rw [show ((s + r : Nat) : Int) = (s : Int) + r from by omega, show s + r - r = s from by omega] at this
    simpa [cutAt, show c ≠ r from by omega, addr_add] using this
  have hs2 : ∀ W : World, (Instr.sliceAt 131 (.pointer (some ⟨q, 0, none⟩)) (some (.int .i64 (8 - (s : Int)))) none none).run Try.prog W = .ok (.slice (some ⟨q, 8 - s, none⟩) s s) W := arr_end q s q1 q2
  have G3 := Lib.hid g3
  have HQ := Lib.hid hq
  have HB1 := Lib.hid hb1
  have HB2 := Lib.hid hb2
  have HB3 := Lib.hid hb3
  have HCUR := Lib.hid hcur
  have HCSZ := Lib.hid hcsz
  have HCTK := Lib.hid hctk
  have HSRC := Lib.hid hsrc
  have F3 := Lib.hid f3
  clear g3 hq hb1 hb2 hb3 hcur hcsz hctk hsrc f3 hbs hzz g2
  go_still_tail 16, (by kernel_rfl)
  change wpList _ _ _ _ _ W2.drew
  refine wpList_copy_own rfl (.tmp 53) (.tmp 57) 26 26 rfl 5 Try.underlying26 size_u8 g r s (c - r) ⟨q, 8 - s, none⟩ s s rfl rfl cur 5 HCUR.out (cellsOf (be s L)) (by rw [cellsOf_length, be_length]; simp) HSRC.out (by rw [cellsOf_length, be_length, HCSZ.out]; omega) (cellsOf_one _) ?_
  have hcur3 : Whole (W2.drew.setRow g (cur.toList.take r ++ (cellsOf (be s L) ++ cur.toList.drop (r + (cellsOf (be s L)).length))).toArray) g (cur.toList.take r ++ (cellsOf (be s L) ++ cur.toList.drop (r + (cellsOf (be s L)).length))).toArray 5 := setRow_heap W2.drew g cur _ 5 _ HCUR.out
  have f4 : Fr W2 (W2.drew.setRow g (cur.toList.take r ++ (cellsOf (be s L) ++ cur.toList.drop (r + (cellsOf (be s L)).length))).toArray) (fun i => i = g) := ((Fr.refl W2 _).drew).trans (fr_setRow _ _ _) (fun _ _ h => h)
  generalize W2.drew.setRow g (cur.toList.take r ++ (cellsOf (be s L) ++ cur.toList.drop (r + (cellsOf (be s L)).length))).toArray = W3 at *
  have hpg : p ≠ g := HB1.out.ne HCUR.out (by decide)
  have hb1 := HB1.out.fr f4 hpg
  have hc2 := hb1.cell 2
  have hf2 := hb1.frozen 2
  simp only [List.getElem?_toArray, List.getElem?_cons_succ, List.getElem?_cons_zero] at hc2
  have HB4 := Lib.hid hb1
  have HC3 := Lib.hid hcur3
  have F4 := Lib.hid f4
  have HPG := Lib.hid hpg
  have hm4 : (m : Int) ≤ d := by omega
  clear hb1 hcur3 f4 hpg hs1 hs2 hc1 hz0 hz1 hw3 hw4
  go_wp2_with fail
  go_still_tail 12, (by kernel_rfl)
  change wpList _ _ _ _ _ W3.drew
  have hd1 : W3.drew.cell? ⟨p, 2, none⟩ = some (.slice (some ⟨h', 0, none⟩) (m + 1) d) := hc2
  have hd2 : W3.drew.frozen? ⟨p, 2, none⟩ = false := hf2
  clear hc2 hf2
  have f5 : Fr W3 W3.drew (fun _ => False) := (Fr.refl _ _).drew
  generalize W3.drew = W4 at *
  go_wp2_with fail
  go_ret
  have f45 : Fr W2 W4 (fun i => i = g) := F4.out.trans f5 (fun _ _ h => h.elim)
  have hW4 := HB4.out.fr f5 (fun h => h)
  have hC4 := HC3.out.fr f5 (fun h => h)
  have hset : ∀ u, Fr W4 (W4.setCell ⟨p, 2, none⟩ u) (fun i => i = p) := fun u => Fr.set (F := fun i => i = p) (Fr.refl _ _) (.inl rfl) _ _ _
  have hW5 := hW4.set 2 (.slice (some ⟨h', 0, none⟩) m d)
  simp at hW5
  have hlen : (xs.take r ++ (be s L ++ xs.drop (s + r))).length = s + r + L := by
    have := HXL.out
    simp [be_length]; omega
  have hhg : h' ≠ g := by
    have := own_ne HB3.out HCUR.out (by decide)
    simpa [Value.ownBlock] using this
  have f0 : Fr w W4 F := (F3.out.mono (fun _ _ h => h.elim)).trans f45 (fun i _ h => by subst h; exact h5)
  refine ⟨rfl, F, ⟨_, _, hW5, ?_, ?_, h4, ?_, ?_, ?_, by rw [hlen]; exact h8, h9, ?_⟩, f0.set (.inl h4) _ _ _, fun _ h => .inl h⟩
  · rw [hlen]
    refine ⟨by rw [cellsOf_length, hlen]; omega, .inr ⟨g, c, _, rfl, Nat.zero_le _, hC4.fr (hset _) (fun e => HPG.out e.symm), h11, by unfold maxLen; exact h12, ?_, ?_⟩⟩
    · have := HCSZ.out
      simp [cellsOf_length, be_length]; omega
    · have h1 := HCTK.out
      have h2 : (cur.toList.take r).length = r := by have := HCSZ.out; simp; omega
      rw [Nat.mul_one, cellsOf_append, cellsOf_append, cellsOf_length, be_length]
      have e1 : cellsOf (xs.take r) = cur.toList.take r := by
        have : cellsOf (xs.take r) = (cellsOf xs).take r := by simp [cellsOf]
        rw [this, ← h1, List.take_take, show min r (s + r + L) = r from by omega]
      have e2 : cellsOf (xs.drop (s + r)) = (cur.toList.drop (r + s)).take L := by
        have : cellsOf (xs.drop (s + r)) = (cellsOf xs).drop (s + r) := by simp [cellsOf]
        rw [this, ← h1, List.drop_take, Nat.add_comm s r, show r + s + L - (r + s) = L from by omega]
      rw [e1, e2]
      show List.take (s + r + L) (cur.toList.take r ++ (cellsOf (be s L) ++ cur.toList.drop (r + s))) = _
      rw [List.take_append, h2, List.take_of_length_le (l := cur.toList.take r) (by rw [h2]; omega), List.take_append, cellsOf_length, be_length,
        List.take_of_length_le (l := cellsOf (be s L)) (by rw [cellsOf_length, be_length]; omega), show s + r + L - r - s = L from by omega]
  · have h3 := own_fr (own_fr HB3.out f45 (fun k hk e => hhg (by simp [Value.ownBlock] at hk; omega))) (hset (.slice (some ⟨h', 0, none⟩) m d)) (fun k hk e => own_ne (own_fr HB3.out f45 (fun k hk e => hhg (by simp [Value.ownBlock] at hk; omega))) hW4 (by decide) (by rw [hk, e]))
    have h4 := own_short h3 (k := m) (by omega)
    rw [partsOf_append, List.take_left' (by rw [partsOf_length, HM.out])] at h4
    rw [HM.out]
    exact h4
  · intro k hk; simp [Value.ownBlock] at hk; subst hk; exact h5
  · intro k hk; simp [Value.ownBlock] at hk; subst hk; exact h6
  · intro i hi
    have := H7.out i hi
    have := f0.size
    have := HZE.out
    simp; omega
  · rw [hlen]
    refine ⟨?_, fun q hq => H10.out.2 q (by simp [hq])⟩
    have := H10.out.1
    simp at this
    omega

end Go.Proofs.Ytibbeodcheefaaa


/- Builders: one contract each for Open and Close; the document's example of layer 2 (alive). -/
namespace Go.Proofs.Ytibbeodcheefaaa
open Go.RowKit

set_option maxRecDepth 100000 in
set_option maxHeartbeats 1000000 in
theorem bopen_full (w : World) (F : Nat → Prop) (p most : Nat) (xs : List UInt8) (ps : List (Nat × Nat)) (h : Bd w F p most xs ps) (k : Nat) (hk1 : 1 ≤ k) (hk3 : k ≤ 3) (hfull : most < xs.length + k) :
    Calls Try.prog 87 #[.pointer (some ⟨p, 0, none⟩), .int .i64 k] w fun e w' => e = .returned (.int .i64 5) ∧ BdOut w w' F p most xs ps := by
  have hp := h.lt
  have hF : Fr w (w.alloc (.cells #[.int .u8 0, .int .u8 0, .int .u8 0, .int .u8 0, .int .u8 0, .int .u8 0, .int .u8 0, .int .u8 0] 131)) (fun _ => False) := (Fr.refl _ _).alloc _
  have hc := add_full _ F p most xs ps (h.fr hF (fun _ _ h => h)) (some ⟨w.heap.size, 0, none⟩) k 8 hfull
  have HC := Lib.hid hc
  have HF := Lib.hid (BdOut.same (h.fr hF (fun _ _ h => h)))
  have HF' := Lib.hid hF
  clear hc hF h
  have hk0 : ¬ ((k : Int) < 1) := by omega
  have hk4 : ¬ ((3 : Int) < k) := by omega
  have hsl : ∀ W, (Instr.sliceAt 131 (.pointer (some ⟨w.heap.size, 0, none⟩)) none (some (.int .i64 (k : Int))) none).run Try.prog W = .ok (.slice (some ⟨w.heap.size, 0, none⟩) k 8) W := arr_cut _ k hk1 hk3
  go_enter Try.func87, Try.ntmps87
  go_wp2_with fail
  clear hsl
  refine HC.out.mono ?_
  rintro e w1 ⟨rfl, n, rfl⟩
  go_wp2_with fail
  go_ret
  exact ⟨rfl, (HF.out n).ahead HF'.out⟩

/-- What Open tells; the bytes and the parts then. -/
def opE (most n : Nat) (k : Int) : Int := if k < 1 ∨ 3 < k then 2 else adE most n k.toNat
def opX (most : Nat) (xs : List UInt8) (k : Int) : List UInt8 := if k < 1 ∨ 3 < k then xs else adX most xs (List.replicate k.toNat 0)
def opP (most n : Nat) (ps : List (Nat × Nat)) (k : Int) : List (Nat × Nat) := if k < 1 ∨ 3 < k then ps else if most < n + k.toNat then ps else ps ++ [(n + k.toNat, k.toNat)]

set_option maxRecDepth 100000 in
theorem bopen_any (w : World) (F : Nat → Prop) (p most : Nat) (xs : List UInt8) (ps : List (Nat × Nat)) (h : Bd w F p most xs ps) (k : Int) :
    Calls Try.prog 87 #[.pointer (some ⟨p, 0, none⟩), .int .i64 k] w fun e w' => e = .returned (.int .i64 (opE most xs.length k)) ∧ BdOut w w' F p most (opX most xs k) (opP most xs.length ps k) := by
  by_cases hk : k < 1 ∨ 3 < k
  · simp only [opE, opX, opP, if_pos hk]
    refine (bopen_arg w p k hk).mono ?_
    rintro e w' ⟨rfl, rfl⟩
    exact ⟨rfl, BdOut.same h 0⟩
  · obtain ⟨n, rfl⟩ := Int.eq_ofNat_of_zero_le (a := k) (by omega)
    simp only [opE, opX, opP, if_neg hk, adE, adX, Int.toNat_natCast, List.length_replicate]
    by_cases hf : most < xs.length + n
    · simp only [if_pos hf]
      exact bopen_full w F p most xs ps h n (by omega) (by omega) hf
    · simp only [if_neg hf]
      exact bopen_ok w F p most xs ps h n (by omega) (by omega) (by omega)

/-- What Close tells; the bytes and the parts then. -/
def clE (n : Nat) (ps : List (Nat × Nat)) : Int := match ps.getLast? with
  | none => 17
  | some (f, s) => if n - f < 256 ^ s then 0 else 5
def clX (xs : List UInt8) (ps : List (Nat × Nat)) : List UInt8 := match ps.getLast? with
  | none => xs
  | some (f, s) => if xs.length - f < 256 ^ s then xs.take (f - s) ++ (be s (xs.length - f) ++ xs.drop f) else xs
def clP (n : Nat) (ps : List (Nat × Nat)) : List (Nat × Nat) := match ps.getLast? with
  | none => ps
  | some (f, s) => if n - f < 256 ^ s then ps.dropLast else ps

set_option maxRecDepth 100000 in
theorem bclose_any (w : World) (F : Nat → Prop) (p most : Nat) (xs : List UInt8) (ps : List (Nat × Nat)) (h : Bd w F p most xs ps) :
    Calls Try.prog 88 #[.pointer (some ⟨p, 0, none⟩)] w fun e w' => e = .returned (.int .i64 (clE xs.length ps)) ∧ BdOut w w' F p most (clX xs ps) (clP xs.length ps) := by
  rcases List.eq_nil_or_concat ps with rfl | ⟨qs, ⟨f, s⟩, rfl⟩
  · refine (bclose_state w F p most xs h).mono ?_
    rintro e w' ⟨rfl, rfl⟩
    exact ⟨rfl, BdOut.same h 0⟩
  · simp only [List.concat_eq_append] at h ⊢
    simp only [clE, clX, clP, List.getLast?_concat, List.dropLast_concat]
    by_cases hl : xs.length - f < 256 ^ s
    · simp only [if_pos hl]
      exact bclose_ok w F p most xs qs f s h hl
    · simp only [if_neg hl]
      refine (bclose_full w F p most xs qs f s h hl).mono ?_
      rintro e w' ⟨rfl, g⟩
      exact ⟨rfl, F, h.fr (Fr.of_grew g) (fun _ _ h => by cases h), Fr.of_grew' g (fun _ h => by cases h), fun _ h => .inl h⟩

set_option maxRecDepth 100000 in
/-- What a call leaves, seen from further ahead. -/
theorem BdOut.grew {w W w' : World} {F : Nat → Prop} {p most : Nat} {xs : List UInt8} {ps : List (Nat × Nat)} {row : Option Nat} (h : BdOut W w' F p most xs ps) (g : Grew w W row) (hF : ∀ i, F i → w.heap.size ≤ i) :
    ∃ F', Bd w' F' p most xs ps ∧ Grew w w' row ∧ (∀ i, F' i → w.heap.size ≤ i) ∧ Fr W w' F ∧ ∀ i, F' i → F i ∨ W.heap.size ≤ i := by
  obtain ⟨F', h1, h2, h3⟩ := h
  refine ⟨F', h1, grew_fr g h2 hF, fun i hi => ?_, h2, h3⟩
  rcases h3 i hi with h | h
  · exact hF i h
  · exact Nat.le_trans g.size h

end Go.Proofs.Ytibbeodcheefaaa


/- Contracts of values that are made. -/
namespace Go.Proofs.Ytibbeodcheefaaa
open Go.RowKit Va

/-- Three cells of a block turned. -/
def put3 (w : World) (q : Nat) (v0 v1 v2 : Value) : World := ((w.setCell ⟨q, 0, none⟩ v0).setCell ⟨q, 1, none⟩ v1).setCell ⟨q, 2, none⟩ v2
theorem Whole.put3 {w : World} {q : Nat} {a0 a1 a2 : Value} {t : TypeId} (h : Whole w q #[a0, a1, a2] t) (v0 v1 v2 : Value) : Whole (put3 w q v0 v1 v2) q #[v0, v1, v2] t :=
  ((h.set 0 v0).set 1 v1).set 2 v2
theorem grew_put3 {a w : World} {row : Option Nat} (h : Grew a w row) {q : Nat} (hq : a.heap.size ≤ q) (v0 v1 v2 : Value) : Grew a (put3 w q v0 v1 v2) row :=
  grew_own h (grew_set (grew_set (grew_set (grew_refl w (some q)) _ _ _) _ _ _) _ _ _) hq
theorem fr_put3 (w : World) (q : Nat) (v0 v1 v2 : Value) : Fr w (put3 w q v0 v1 v2) (fun i => i = q) := by
  have hp : ∀ {w' : World} (i : Nat) (u : Value), Fr w w' (fun i => i = q) → Fr w (w'.setCell ⟨q, i, none⟩ u) (fun i => i = q) := fun i u h => h.set (.inl rfl) _ _ _
  exact hp _ _ (hp _ _ (hp _ _ (Fr.refl _ _)))
theorem Whole.three {w : World} {q : Nat} {a0 a1 a2 : Value} {t : TypeId} (h : Whole w q #[a0, a1, a2] t) :
    w.cell? ⟨q, 0, none⟩ = some a0 ∧ w.cell? ⟨q, 1, none⟩ = some a1 ∧ w.cell? ⟨q, 2, none⟩ = some a2 := ⟨h.cell 0, h.cell 1, h.cell 2⟩

theorem vval_eq (v : Va) : v.val = .agg #[.int .u64 v.n, .slice v.B v.bs.length v.d, .slice v.A v.ls.length v.c] := rfl

theorem info_value : (Try.prog.info? 29).map (fun i => (i.zero, i.size, i.bytes)) = some (some (.agg #[.int .u64 0, .slice none 0 0, .slice none 0 0]), 3, 56) := by kernel_rfl
theorem vinfo_u8 : (Try.prog.info? 5).map (fun i => (i.zero, i.size, i.bytes)) = some (some (.int .u8 0), 1, 1) := by kernel_rfl

/-- A number's value. -/
theorem plainN_in (w : World) {x : Int} (h : 0 ≤ x ∧ x ≤ 18446744073709551615) : In w (.mk x none 0 [] none 0 []) :=
  .mk h (fun h => by simp at h) (by simp) (by simp) (by simp) (Lie.nil _ _) (fun p hp => by simp at hp)

set_option maxRecDepth 100000 in
/-- 'append(v, l...)': v owns a row of values. -/
theorem append_values (w : World) (ty : TypeId) {v : Value} {n : Nat} {xs : List Va} (hown : w.ownsRow 0 29 3 v n (flat xs)) {A : Option Addr} {ps : List Va} (hb : Va.Lie w A ps) (c : Nat) (hm : n + ps.length ≤ 2513169434916) :
    ∃ v' w', (Builtin.append_ #[27, 27] ty #[v, .slice A ps.length c]).run Try.prog w = .ok v' w' ∧ AppLeft w 29 3 v (n + ps.length) (flat (xs ++ ps)) v' w' := by
  obtain ⟨i, hi, hz⟩ := Option.map_eq_some_iff.1 info_value
  simp only [Prod.mk.injEq] at hz
  obtain ⟨hz0, hz1, hz2⟩ := hz
  cases A with
  | none =>
    have e0 : ps = [] := by
      rcases Nat.eq_zero_or_pos ps.length with h | h
      · exact List.eq_nil_of_length_eq_zero h
      · obtain ⟨_, _, h, _⟩ := hb h
        cases h
    subst e0
    exact ⟨v, w, append_none w Try.underlying27 hi hown c, by simpa using hown, grew_refl _ _, .inl rfl⟩
  | some a =>
    have hn : ∀ j u, (flat ps)[j]? = some u → w.cell? (a.add j) = some u := by
      intro j u hu
      have hj : j < (flat ps).length := by
        rcases Nat.lt_or_ge j (flat ps).length with h | h
        · exact h
        · rw [List.getElem?_eq_none h] at hu; cases hu
      obtain ⟨p, hp, hc⟩ := flat_lt hj
      rw [flat_length] at hj
      obtain ⟨b, o, e, hcell⟩ := hb (by omega)
      cases e
      rw [addr_add]
      have := hcell _ p hp _ u (hc.trans hu)
      rw [← this]
      congr 2
      omega
    obtain ⟨v', w', hr, h2, h3, _, h5⟩ := run_append_own_at (P := Try.prog) w 0 27 ty 29 i _ 3 56 Try.underlying27 hi hz0 hz1 hz2 rfl (by omega) v n (flat xs) hown a ps.length c (flat ps) (flat_length _) hn (flat_one _)
      (by unfold maxLen; omega) (by omega) (Nat.zero_le _)
    exact ⟨v', w', hr, by rw [flat_append]; exact h2, h3, h5⟩

theorem vclone_any (w : World) (A : Option Addr) (c : Nat) (ps : List Va) (hl : Va.Lie w A ps) (hm : ps.length ≤ 2513169434916) :
    Calls Try.prog 25 #[.slice A ps.length c] w fun e w' => ∃ A' c', e = .returned (.slice A' ps.length c') ∧ ps.length ≤ c' ∧ Va.Lie w' A' ps ∧ (∀ a, A' = some a → w.heap.size ≤ a.block) ∧ Grew w w' none := by
  have HL := Lib.hid hl
  have HM := Lib.hid hm
  cases A with
  | none =>
    have e0 : ps = [] := by
      rcases Nat.eq_zero_or_pos ps.length with h | h
      · exact List.eq_nil_of_length_eq_zero h
      · obtain ⟨_, _, h, _⟩ := hl h
        cases h
    subst e0
    clear hl hm
    have he : ∀ w : World, (binOp .eql 27 (.slice none 0 c) (.slice none 0 0)).run Try.prog w = .ok (.bool true) w := fun _ => by kernel_rfl
    go_enter Try.func25, Try.ntmps25
    go_wp2_with fail
    go_ret
    exact ⟨none, 0, rfl, Nat.le_refl _, Va.Lie.nil _ _, (fun _ h => by cases h), grew_refl _ _⟩
  | some a =>
    clear hl hm
    have he : ∀ w : World, (binOp .eql 27 (.slice (some a) ps.length c) (.slice none 0 0)).run Try.prog w = .ok (.bool false) w := fun _ => by kernel_rfl
    go_enter Try.func25, Try.ntmps25
    have HA := Lib.hid (fun ty => append_values (w.alloc (.cells #[] 29)) ty (xs := []) (v := .slice (some ⟨w.heap.size, 0, none⟩) 0 0) (n := 0) ⟨rfl, .inr ⟨w.heap.size, 0, #[], rfl, Nat.zero_le _, Whole.new _ _ _, Nat.le_refl _, by unfold maxLen; omega, rfl, rfl⟩⟩ (HL.out.grew (grew_alloc (grew_refl _ _) _)) c (by have := HM.out; omega))
    go_wp2_with (at_builtin; refine wpList_append_run _ rfl (.tmp 5) (.tmp 6) 27 rfl rfl rfl HA.out ?_; rintro v' w1 ⟨a1, a2, a3⟩; have A1 := Lib.hid a1; have A2 := Lib.hid a2; have A3 := Lib.hid a3; clear a1 a2 a3)
    go_ret
    obtain ⟨A', c', rfl, h1, h2⟩ := Va.Lie.of_own A1.out
    refine ⟨A', c', rfl, h1, h2, fun a ha => ?_, grew_own (grew_alloc (grew_refl _ none) _) A2.out (Nat.le_refl _)⟩
    subst ha
    have := A3.out
    simp [Value.ownBlock] at this
    omega

/-- An owned row of bytes. -/
theorem byt_of_own {w : World} {v : Value} {n : Nat} {xs : List UInt8} (h : w.ownsRow 0 5 1 v n (cellsOf xs)) : ∃ A c, v = .slice A xs.length c ∧ xs.length ≤ c ∧ Byt w w.heap.size A xs := by
  have hl := h.1
  rw [cellsOf_length] at hl
  have hn : n = xs.length := by omega
  subst hn
  rcases h.2 with ⟨rfl, h0⟩ | ⟨b, cap, cur, rfl, _, hh, hnc, _, hsz, ht⟩
  · exact ⟨none, 0, by rw [h0], by omega, fun h => by omega⟩
  · have hW : Whole w b cur 5 := hh
    refine ⟨_, _, rfl, hnc, fun _ => ⟨b, 0, rfl, hW.lt, fun i hi => ?_⟩⟩
    have hf : (cellsOf xs)[i]? = some (.int .u8 ((xs.getD i 0).toNat : Int)) := by
      simp [cellsOf, List.getD, List.getElem?_eq_getElem hi]
    rw [← ht, List.getElem?_take_of_lt (by omega)] at hf
    rw [hW.cell, Nat.zero_add, ← Array.getElem?_toList]
    exact hf

theorem bclone_any (w : World) (A : Option Addr) (c : Nat) (xs : List UInt8) (hl : Byt w w.heap.size A xs) (hm : xs.length ≤ 140737488355328) :
    Calls Try.prog 44 #[.slice A xs.length c] w fun e w' => ∃ A' c', e = .returned (.slice A' xs.length c') ∧ xs.length ≤ c' ∧ Byt w' w'.heap.size A' xs ∧ Grew w w' none := by
  have HL := Lib.hid hl
  have HM := Lib.hid hm
  cases A with
  | none =>
    have e0 : xs = [] := by
      rcases Nat.eq_zero_or_pos xs.length with h | h
      · exact List.eq_nil_of_length_eq_zero h
      · obtain ⟨_, _, h, _⟩ := hl h
        cases h
    subst e0
    clear hl hm
    have he : ∀ w : World, (binOp .eql 26 (.slice none 0 c) (.slice none 0 0)).run Try.prog w = .ok (.bool true) w := fun _ => by kernel_rfl
    go_enter Try.func44, Try.ntmps44
    go_wp2_with fail
    go_ret
    exact ⟨none, 0, rfl, Nat.le_refl _, (fun h => by simp at h), grew_refl _ _⟩
  | some a =>
    clear hl hm
    have he : ∀ w : World, (binOp .eql 26 (.slice (some a) xs.length c) (.slice none 0 0)).run Try.prog w = .ok (.bool false) w := fun _ => by kernel_rfl
    go_enter Try.func44, Try.ntmps44
    have HA := Lib.hid (fun ty => append_bytes (P := Try.prog) (w := w.alloc (.cells #[] 5)) 26 ty 5 Try.underlying26 vinfo_u8 (xs := []) (v := .slice (some ⟨w.heap.size, 0, none⟩) 0 0) (n := 0) ⟨rfl, .inr ⟨w.heap.size, 0, #[], rfl, Nat.zero_le _, Whole.new _ _ _, Nat.le_refl _, by unfold maxLen; omega, rfl, rfl⟩⟩ (F := (· < w.heap.size)) ((HL.out.grew (grew_alloc (grew_refl _ none) _) (fun _ h => by cases h)).byf) c (by have := HM.out; omega))
    go_wp2_with (at_builtin; refine wpList_append_run _ rfl (.tmp 5) (.tmp 6) 26 rfl rfl rfl HA.out ?_; rintro v' w1 ⟨a1, a2, a3⟩; have A1 := Lib.hid a1; have A2 := Lib.hid a2; have A3 := Lib.hid a3; clear a1 a2 a3)
    go_ret
    obtain ⟨A', c', rfl, h1, h3⟩ := byt_of_own A1.out
    exact ⟨A', c', rfl, h1, h3, grew_own (grew_alloc (grew_refl _ none) _) A2.out (Nat.le_refl _)⟩

end Go.Proofs.Ytibbeodcheefaaa


/- Reading: what its calls leave behind; take, length. -/
namespace Go.Proofs.Ytibbeodcheefaaa
open Go.RowKit Va

set_option maxRecDepth 100000 in
/-- Results out of two cells; out of a slot and a cell; out of a cell and two slots. -/
theorem results_cells {P : Program} {fn : Func} {p r : Tmp} {ty tz : TypeId} (h : fn.results = #[.cell p ty, .cell r tz]) (tmps : Array Value) (w : World) (g : Nat) (t : TypeId) (cs : Array Value) (fr : Nat × Nat) (d : TypeDesc)
    (g' : Nat) (t' : TypeId) (cs' : Array Value) (fr' : Nat × Nat) (d' : TypeDesc)
    (hp : tmps.getD p undef = .pointer (some ⟨g, 0, none⟩)) (hg : w.heap[g]? = some (.cells cs t fr))
    (hu : P.underlying ty = some d) (hd : (match d with | .struct _ | .array _ _ => true | _ => false) = true) (hi : (P.info? ty).map (·.size) = some cs.size)
    (hp2 : tmps.getD r undef = .pointer (some ⟨g', 0, none⟩)) (hg2 : w.heap[g']? = some (.cells cs' t' fr'))
    (hu2 : P.underlying tz = some d') (hd2 : (match d' with | .struct _ | .array _ _ => true | _ => false) = true) (hi2 : (P.info? tz).map (·.size) = some cs'.size) :
    (results fn tmps).run P w = .ok (.tuple #[.agg cs, .agg cs']) w := by
  have hp' : tmps[p]?.getD undef = .pointer (some ⟨g, 0, none⟩) := by simpa using hp
  have hp2' : tmps[r]?.getD undef = .pointer (some ⟨g', 0, none⟩) := by simpa using hp2
  simp [results, h, hp', hp2', asAddr, run_loadVar_row w g t ty cs fr d hg hu hd hi, run_loadVar_row w g' t' tz cs' fr' d' hg2 hu2 hd2 hi2]
set_option maxRecDepth 100000 in
theorem results_tmp_cell {P : Program} {fn : Func} {p r : Tmp} {tz : TypeId} (h : fn.results = #[.tmp p, .cell r tz]) (tmps : Array Value) (w : World)
    (g' : Nat) (t' : TypeId) (cs' : Array Value) (fr' : Nat × Nat) (d' : TypeDesc)
    (hp2 : tmps.getD r undef = .pointer (some ⟨g', 0, none⟩)) (hg2 : w.heap[g']? = some (.cells cs' t' fr'))
    (hu2 : P.underlying tz = some d') (hd2 : (match d' with | .struct _ | .array _ _ => true | _ => false) = true) (hi2 : (P.info? tz).map (·.size) = some cs'.size) :
    (results fn tmps).run P w = .ok (.tuple #[tmps.getD p undef, .agg cs']) w := by
  have hp2' : tmps[r]?.getD undef = .pointer (some ⟨g', 0, none⟩) := by simpa using hp2
  simp [results, h, hp2', asAddr, run_loadVar_row w g' t' tz cs' fr' d' hg2 hu2 hd2 hi2]
set_option maxRecDepth 100000 in
theorem results_cell_tmps {P : Program} {fn : Func} {p r s : Tmp} {ty : TypeId} (h : fn.results = #[.cell p ty, .tmp r, .tmp s]) (tmps : Array Value) (w : World) (g : Nat) (t : TypeId) (cs : Array Value) (fr : Nat × Nat) (d : TypeDesc)
    (hp : tmps.getD p undef = .pointer (some ⟨g, 0, none⟩)) (hg : w.heap[g]? = some (.cells cs t fr))
    (hu : P.underlying ty = some d) (hd : (match d with | .struct _ | .array _ _ => true | _ => false) = true) (hi : (P.info? ty).map (·.size) = some cs.size) :
    (results fn tmps).run P w = .ok (.tuple #[.agg cs, tmps.getD r undef, tmps.getD s undef]) w := by
  have hp' : tmps[p]?.getD undef = .pointer (some ⟨g, 0, none⟩) := by simpa using hp
  simp [results, h, hp', asAddr, run_loadVar_row w g t ty cs fr d hg hu hd hi]

/-- Two cells of a block turned. -/
def put2 (w : World) (q : Nat) (v0 v1 : Value) : World := (w.setCell ⟨q, 0, none⟩ v0).setCell ⟨q, 1, none⟩ v1
set_option maxRecDepth 100000 in
theorem Whole.put2 {w : World} {q : Nat} {a0 a1 : Value} {t : TypeId} (h : Whole w q #[a0, a1] t) (v0 v1 : Value) : Whole (put2 w q v0 v1) q #[v0, v1] t := (h.set 0 v0).set 1 v1
set_option maxRecDepth 100000 in
theorem fr_put2 (w : World) (q : Nat) (v0 v1 : Value) : Fr w (put2 w q v0 v1) (fun i => i = q) := by
  have hp : ∀ {w' : World} (i : Nat) (u : Value), Fr w w' (fun i => i = q) → Fr w (w'.setCell ⟨q, i, none⟩ u) (fun i => i = q) := fun i u h => h.set (.inl rfl) _ _ _
  exact hp _ _ (hp _ _ (Fr.refl _ _))
set_option maxRecDepth 100000 in
theorem Whole.two {w : World} {q : Nat} {a0 a1 : Value} {t : TypeId} (h : Whole w q #[a0, a1] t) : w.cell? ⟨q, 0, none⟩ = some a0 ∧ w.cell? ⟨q, 1, none⟩ = some a1 := ⟨h.cell 0, h.cell 1⟩

set_option maxRecDepth 100000 in
/-- A value and a fault stored, in either order. -/
theorem put32 {w : World} {q r : Nat} {a0 a1 a2 b0 b1 : Value} {t u : TypeId} (h : Whole w q #[a0, a1, a2] t) (k : Whole w r #[b0, b1] u) (hne : q ≠ r) (v0 v1 v2 u0 u1 : Value) :
    Whole (put2 (put3 w q v0 v1 v2) r u0 u1) q #[v0, v1, v2] t ∧ Whole (put2 (put3 w q v0 v1 v2) r u0 u1) r #[u0, u1] u ∧ Fr w (put2 (put3 w q v0 v1 v2) r u0 u1) (fun i => i = q ∨ i = r) :=
  ⟨(h.put3 v0 v1 v2).fr (fr_put2 _ _ _ _) hne, (k.fr (fr_put3 _ _ _ _ _) (fun e => hne e.symm)).put2 u0 u1, (fr_put3 _ _ _ _ _).mono (fun _ _ e => .inl e) |>.trans ((fr_put2 _ _ _ _).mono (fun _ _ e => .inr e)) (fun _ _ e => e)⟩
set_option maxRecDepth 100000 in
theorem put23 {w : World} {q r : Nat} {a0 a1 a2 b0 b1 : Value} {t u : TypeId} (h : Whole w q #[a0, a1, a2] t) (k : Whole w r #[b0, b1] u) (hne : q ≠ r) (v0 v1 v2 u0 u1 : Value) :
    Whole (put3 (put2 w r u0 u1) q v0 v1 v2) q #[v0, v1, v2] t ∧ Whole (put3 (put2 w r u0 u1) q v0 v1 v2) r #[u0, u1] u ∧ Fr w (put3 (put2 w r u0 u1) q v0 v1 v2) (fun i => i = q ∨ i = r) :=
  ⟨(h.fr (fr_put2 _ _ _ _) hne).put3 v0 v1 v2, (k.put2 u0 u1).fr (fr_put3 _ _ _ _ _) (fun e => hne e.symm), (fr_put2 _ _ _ _).mono (fun _ _ e => .inr e) |>.trans ((fr_put3 _ _ _ _ _).mono (fun _ _ e => .inl e)) (fun _ _ e => e)⟩

set_option maxRecDepth 100000 in
theorem two_new (w : World) (c1 : Array Value) (t1 : TypeId) (c2 : Array Value) (t2 : TypeId) :
    Grew w ((w.alloc (.cells c1 t1)).alloc (.cells c2 t2)) none ∧ Whole ((w.alloc (.cells c1 t1)).alloc (.cells c2 t2)) w.heap.size c1 t1 ∧ Whole ((w.alloc (.cells c1 t1)).alloc (.cells c2 t2)) (w.heap.size + 1) c2 t2 ∧ ((w.alloc (.cells c1 t1)).alloc (.cells c2 t2)).heap.size = w.heap.size + 2 :=
  ⟨grew_alloc (grew_alloc (grew_refl _ _) _) _, (Whole.new w c1 t1).grew (grew_alloc (grew_refl _ none) _) (by simp), Whole.new_at _ _ _ (by simp), by simp⟩
set_option maxRecDepth 100000 in
theorem three_new (w : World) (c1 : Array Value) (t1 : TypeId) (c2 : Array Value) (t2 : TypeId) (c3 : Array Value) (t3 : TypeId) :
    Grew w (((w.alloc (.cells c1 t1)).alloc (.cells c2 t2)).alloc (.cells c3 t3)) none ∧ Whole (((w.alloc (.cells c1 t1)).alloc (.cells c2 t2)).alloc (.cells c3 t3)) w.heap.size c1 t1 ∧ Whole (((w.alloc (.cells c1 t1)).alloc (.cells c2 t2)).alloc (.cells c3 t3)) (w.heap.size + 1) c2 t2 ∧ Whole (((w.alloc (.cells c1 t1)).alloc (.cells c2 t2)).alloc (.cells c3 t3)) (w.heap.size + 2) c3 t3 ∧
      (((w.alloc (.cells c1 t1)).alloc (.cells c2 t2)).alloc (.cells c3 t3)).heap.size = w.heap.size + 3 := by
  obtain ⟨g, k1, k2, _⟩ := two_new w c1 t1 c2 t2
  exact ⟨grew_alloc g _, k1.grew (grew_alloc (grew_refl _ none) _) (by simp), k2.grew (grew_alloc (grew_refl _ none) _) (by simp), Whole.new_at _ _ _ (by simp), by simp⟩

namespace Va
/-- None of it lies in a block below k. -/
inductive Hi (k : Nat) : Va → Prop
  | mk {n : Int} {B : Option Addr} {d : Nat} {bs : List UInt8} {A : Option Addr} {c : Nat} {ls : List Va} (hB : ∀ a, B = some a → k ≤ a.block) (hA : ∀ a, A = some a → k ≤ a.block) (hp : ∀ p ∈ ls, Hi k p) : Hi k (.mk n B d bs A c ls)
set_option maxRecDepth 100000 in
theorem Hi.mono {k k' : Nat} {v : Va} (h : Hi k v) (hk : k' ≤ k) : Hi k' v := by
  induction h with
  | mk hB hA _ ih => exact .mk (fun a e => Nat.le_trans hk (hB a e)) (fun a e => Nat.le_trans hk (hA a e)) ih
set_option maxRecDepth 100000 in
theorem In.fr {w w' : World} {F : Nat → Prop} {k : Nat} {v : Va} (h : In w v) (g : Fr w w' F) (hi : Hi k v) (hF : ∀ i, F i → i < k) : In w' v := by
  induction h with
  | mk hn hb hd hc hz ha _ ih =>
    cases hi with
    | mk h1 h2 h3 =>
      refine .mk hn (fun h0 => ?_) hd hc hz (ha.fr g (fun a e hf => by have := h2 a e; have := hF _ hf; omega)) (fun p hp => ih p hp (h3 p hp))
      obtain ⟨b, o, e, hlt, hcell⟩ := hb h0
      exact ⟨b, o, e, Nat.lt_of_lt_of_le hlt g.size, fun i hi => g.cell (hcell i hi) (fun hf => by have := h1 _ e; have := hF _ hf; simp only at *; omega)⟩
set_option maxRecDepth 100000 in
theorem v0_in (w : World) : In w v0 := plainN_in w (by omega)
set_option maxRecDepth 100000 in
theorem v0_hi (k : Nat) : Hi k v0 := .mk (fun _ h => by cases h) (fun _ h => by cases h) (fun _ h => by simp at h)
set_option maxRecDepth 100000 in
theorem vN_hi (k : Nat) (x : Int) : Hi k (vN x) := .mk (fun _ h => by cases h) (fun _ h => by cases h) (fun _ h => by simp at h)
end Va

/-- Where a fault is told. -/
def faI (a : Int) (R : Rd) : Int := if R.e = 0 then 0 else a + R.n
def fault (x e : Int) : Value := .agg #[.int .i64 x, .int .i64 e]

/-- What a call that reads by a cursor leaves behind. -/
def GotP (B : Nat) (w : World) (p : Nat) (xs : List UInt8) (a : Int) (R : Rd) (e : Ending) (w' : World) : Prop :=
  ∃ (v : Va) (ys : List UInt8) (a' : Int), e = .returned (.tuple #[v.val, fault (faI a R) R.e]) ∧ v.In w' ∧ v.Hi w.heap.size ∧ v.nf = R.v ∧ Cr w' p B ys a' ∧ (R.e = 0 → ys = xs.drop R.n ∧ a' = a + R.n) ∧ Grew w w' (some p)

set_option maxRecDepth 100000 in
theorem Cr.fr {w w' : World} {F : Nat → Prop} {p B : Nat} {ys : List UInt8} {a : Int} (h : Cr w p B ys a) (g : Fr w w' F) (hp : ¬ F p) (hB : ∀ i, F i → B ≤ i) : Cr w' p B ys a := by
  obtain ⟨hBp, h0, hm, A, c, h, hl, hc, hb⟩ := h
  refine ⟨hBp, h0, hm, A, c, Whole.fr h g hp, hl, hc, fun h1 => ?_⟩
  obtain ⟨b, o, e, hlt, hcell⟩ := hb h1
  exact ⟨b, o, e, hlt, fun i hi => g.cell (hcell i hi) (fun hf => by have := hB _ hf; simp only at *; omega)⟩

set_option maxRecDepth 100000 in
theorem Cr.max {w : World} {p B : Nat} {ys : List UInt8} {a : Int} (h : Cr w p B ys a) : ys.length ≤ 140737488351232 := by
  obtain ⟨_, _, _, A, c, _, hl, hc, _⟩ := h
  omega

set_option maxRecDepth 100000 in
/-- The results are stored: what is left behind. -/
theorem gotP_close {B : Nat} {w X Y : World} {p q r k : Nat} {xs ys : List UInt8} {a a' : Int} {R : Rd} {v : Va} (hG : Grew w X (some p)) (hC : Cr X p B ys a') (hY : Fr X Y (fun i => i = q ∨ i = r)) (hq : w.heap.size ≤ q) (hr : w.heap.size ≤ r) (hp : p < w.heap.size)
    (hv : v.In X) (hi : v.Hi k) (hqk : q < k) (hrk : r < k) (hn : v.nf = R.v) (hx : R.e = 0 → ys = xs.drop R.n ∧ a' = a + R.n) {V : Value} (hV : V = .tuple #[v.val, fault (faI a R) R.e]) : GotP B w p xs a R (.returned V) Y := by
  have hB := hC.1
  refine ⟨v, ys, a', by rw [hV], hv.fr hY hi (fun i hi => by rcases hi with rfl | rfl <;> assumption), hi.mono (by omega), hn, hC.fr hY (by omega) (fun i hi => by rcases hi with rfl | rfl <;> omega), hx, grew_fr hG hY (fun i hi => by rcases hi with rfl | rfl <;> omega)⟩

set_option maxRecDepth 100000 in
set_option maxHeartbeats 1000000 in
theorem rtake_any (w : World) (p B : Nat) (xs : List UInt8) (a : Int) (h : Cr w p B xs a) (n : Nat) :
    Calls Try.prog 95 #[.pointer (some ⟨p, 0, none⟩), .int .i64 n] w (GotP B w p xs a (Rd.rdT n xs)) := by
  obtain ⟨g0, k0, k1, ks⟩ := two_new w #[.int .u64 0, .slice none 0 0, .slice none 0 0] 29 #[.int .i64 0, .int .i64 0] 78
  have HP := Lib.hid h.lt
  have HM := Lib.hid h.max
  have HC := Lib.hid (h.grew g0 (by simp) (fun _ h => by cases h))
  have G0 := Lib.hid g0
  have K0 := Lib.hid k0
  have K1 := Lib.hid k1
  have KS := Lib.hid ks
  clear h g0 k0 k1 ks
  by_cases hs : xs.length < n
  · have e : Rd.rdT n xs = ⟨4, xs.length, v0, 0⟩ := by unfold Rd.rdT; rw [if_pos hs]
    rw [e]
    clear e
    have HS := Lib.hid hs
    clear hs
    go_enter Try.func95, Try.ntmps95
    go_wp2_with fail
    generalize (w.alloc (.cells #[.int .u64 0, .slice none 0 0, .slice none 0 0] 29)).alloc (.cells #[.int .i64 0, .int .i64 0] 78) = W at *
    refine (cr_take_short W p B xs a HC.out n (by have := HS.out; omega)).mono ?_
    rintro e w1 ⟨rfl, rfl⟩
    go_wp2_with fail
    refine (cr_end W p B xs a HC.out).mono ?_
    rintro e w1 ⟨rfl, m, rfl⟩
    have k0 := K0.out.grew (grew_drewN (grew_refl _ none) m) (by simp)
    have k1 := K1.out.grew (grew_drewN (grew_refl _ none) m) (by simp)
    obtain ⟨c0, c1, c2⟩ := k0.three
    obtain ⟨d0, d1⟩ := k1.two
    have f0 := k0.frozen
    have f1 := k1.frozen
    have C2 := Lib.hid (HC.out.drewN m)
    have K0' := Lib.hid k0
    have K1' := Lib.hid k1
    have G2 := Lib.hid (grew_drewN G0.out m)
    clear k0 k1 HC G0 K0 K1 KS
    generalize W.drewN m = X at *
    go_wp2_with fail
    obtain ⟨r1, r2, r3⟩ := put32 K0'.out K1'.out (by omega) (.int .u64 0) (.slice none 0 0) (.slice none 0 0) (.int .i64 (a + xs.length)) (.int .i64 4)
    refine bodyPost_ret (results_cells rfl _ _ _ _ _ _ _ _ _ _ _ _ rfl r1 Try.underlying29 rfl (by kernel_rfl) rfl r2 Try.underlying78 rfl (by kernel_rfl)) rfl ?_
    exact gotP_close (v := v0) (k := w.heap.size + 2) (grew_weak G2.out) C2.out r3 (Nat.le_refl _) (by omega) HP.out (v0_in _) (v0_hi _) (by omega) (by omega) rfl (fun h => by cases h) rfl
  · have e : Rd.rdT n xs = ⟨0, n, vB (xs.take n), 0⟩ := by unfold Rd.rdT; rw [if_neg hs]
    rw [e]
    clear e
    have HS := Lib.hid (show n ≤ xs.length by omega)
    clear hs
    go_enter Try.func95, Try.ntmps95
    go_wp2_with fail
    generalize (w.alloc (.cells #[.int .u64 0, .slice none 0 0, .slice none 0 0] 29)).alloc (.cells #[.int .i64 0, .int .i64 0] 78) = W at *
    refine (cr_take W p B xs a HC.out n HS.out).mono ?_
    rintro e X ⟨rfl, hC, hb, g, hsz⟩
    have k0 := K0.out.grew g (by have := HP.out; simp; omega)
    have k1 := K1.out.grew g (by have := HP.out; simp; omega)
    obtain ⟨c0, c1, c2⟩ := k0.three
    obtain ⟨d0, d1⟩ := k1.two
    have f0 := k0.frozen
    have f1 := k1.frozen
    have C2 := Lib.hid hC
    have K0' := Lib.hid k0
    have K1' := Lib.hid k1
    have G2 := Lib.hid (grew_trans (grew_weak G0.out) g)
    have HB := Lib.hid hb
    have HZ := Lib.hid hsz
    rw [KS.out] at HB HZ ⊢
    clear k0 k1 HC G0 K0 K1 KS hC hb g hsz
    go_wp2_with fail
    obtain ⟨r1, r2, r3⟩ := put32 K0'.out K1'.out (by omega) (.int .u64 0) (.slice (some ⟨w.heap.size + 2, 0, none⟩) n n) (.slice none 0 0) (.int .i64 0) (.int .i64 0)
    refine bodyPost_ret (results_cells rfl _ _ _ _ _ _ _ _ _ _ _ _ rfl r1 Try.underlying29 rfl (by kernel_rfl) rfl r2 Try.underlying78 rfl (by kernel_rfl)) rfl ?_
    have hlen : (xs.take n).length = n := by have := HS.out; rw [List.length_take]; omega
    have hmax := HM.out
    have hns := HS.out
    refine gotP_close (v := .mk 0 (some ⟨w.heap.size + 2, 0, none⟩) n (xs.take n) none 0 []) (k := w.heap.size + 2) G2.out C2.out r3 (Nat.le_refl _) (by omega) HP.out ?_ ?_ (by omega) (by omega) rfl (fun _ => ⟨rfl, rfl⟩) ?_
    · exact .mk (by omega) (HB.out.more (by have := HZ.out; omega)) (by omega) (by simp) (by simp) (Va.Lie.nil _ _) (fun p hp => by simp at hp)
    · exact .mk (fun a h => by cases h; exact Nat.le_refl _) (fun _ h => by cases h) (fun p hp => by simp at hp)
    · rw [vval_eq]
      simp only [Va.n, Va.B, Va.bs, Va.d, Va.A, Va.ls, Va.c, hlen]
      rfl
end Go.Proofs.Ytibbeodcheefaaa


/- Reading: the reader, what a call of it asks and leaves; rows of values that are filled. -/
namespace Go.Proofs.Ytibbeodcheefaaa
open Go.RowKit Va

/-- What may turn: the cursor, the tally. -/
def Ft (p : Nat) (t : Option Nat) : Nat → Prop := fun i => i = p ∨ t = some i
def Tly (w : World) (t : Option Nat) (m c : Int) : Prop := ∀ q, t = some q → Tal w q m c
/-- The reader's cells. -/
def rcells (t : Option Nat) : Array Value := #[.pointer (t.map fun q => ⟨q, 0, none⟩), .func (.func 71) #[] #[], .func (.func 72) #[] #[], .func (.func 73) #[] #[], .func (.func 74) #[] #[], .func (.func 75) #[] #[], .func (.func 76) #[] #[]]

/-- What a call asks. -/
structure Pre (w0 w : World) (r p : Nat) (t : Option Nat) (m c : Int) (xs : List UInt8) (a : Int) : Prop where
  g : Grew w0 w none
  rd : Whole w r (rcells t) 108
  cr : Cr w p w0.heap.size xs a
  tl : ∀ q, t = some q → w0.heap.size ≤ q
  ty : Tly w t m c

/-- What it leaves behind. -/
def Got (w0 w : World) (p : Nat) (t : Option Nat) (m c : Int) (xs : List UInt8) (a : Int) (R : Rd) (e : Ending) (w' : World) : Prop :=
  ∃ (v : Va) (ys : List UInt8) (a' : Int), e = .returned (.tuple #[v.val, fault (faI a R) R.e]) ∧ v.In w' ∧ v.Hi w.heap.size ∧ v.nf = R.v ∧ Cr w' p w0.heap.size ys a' ∧ (R.e = 0 → ys = xs.drop R.n ∧ a' = a + R.n) ∧ Tly w' t m (c + R.c) ∧ Fr w w' (Ft p t)

/-- A form is read. -/
def Reads (w0 : World) (r : Nat) (t : Option Nat) (f : Fo) : Prop :=
  ∀ (w : World) (p : Nat) (m c : Int) (xs : List UInt8) (a : Int), Pre w0 w r p t m c xs a → (t ≠ none → c + (Rd.rd f xs).c ≤ m) →
    Calls Try.prog 59 #[.pointer (some ⟨r, 0, none⟩), .pointer (some ⟨p, 0, none⟩), f.val] w (Got w0 w p t m c xs a (Rd.rd f xs))

set_option maxRecDepth 100000 in
theorem Pre.tlt {w0 w : World} {r p : Nat} {t : Option Nat} {m c : Int} {xs : List UInt8} {a : Int} (h : Pre w0 w r p t m c xs a) : ∀ q, t = some q → q < w.heap.size := fun q hq => (h.ty q hq).lt
set_option maxRecDepth 100000 in
theorem Pre.rne {w0 w : World} {r p : Nat} {t : Option Nat} {m c : Int} {xs : List UInt8} {a : Int} (h : Pre w0 w r p t m c xs a) : ¬ Ft p t r := by
  rintro (rfl | ht)
  · obtain ⟨_, _, _, A, c, hc, _⟩ := h.cr
    exact Whole.ne h.rd hc (by decide) rfl
  · exact Whole.ne h.rd (h.ty r ht).whole (by decide) rfl
set_option maxRecDepth 100000 in
theorem Pre.tne {w0 w : World} {r p : Nat} {t : Option Nat} {m c : Int} {xs : List UInt8} {a : Int} (h : Pre w0 w r p t m c xs a) : t ≠ some p := by
  intro ht
  obtain ⟨_, _, _, A, c, hc, _⟩ := h.cr
  exact Whole.ne (h.ty p ht).whole hc (by decide) rfl
set_option maxRecDepth 100000 in
theorem Pre.lo {w0 w : World} {r p : Nat} {t : Option Nat} {m c : Int} {xs : List UInt8} {a : Int} (h : Pre w0 w r p t m c xs a) : ∀ i, Ft p t i → w0.heap.size ≤ i := by
  rintro i (rfl | ht)
  · exact h.cr.1
  · exact h.tl i ht
set_option maxRecDepth 100000 in
theorem Pre.flt {w0 w : World} {r p : Nat} {t : Option Nat} {m c : Int} {xs : List UInt8} {a : Int} (h : Pre w0 w r p t m c xs a) : ∀ i, Ft p t i → i < w.heap.size := by
  rintro i (rfl | ht)
  · exact h.cr.lt
  · exact h.tlt i ht
set_option maxRecDepth 100000 in
theorem Tly.fr {w w' : World} {t : Option Nat} {m c : Int} {F : Nat → Prop} (h : Tly w t m c) (g : Fr w w' F) (hF : ∀ q, t = some q → ¬ F q) : Tly w' t m c := fun q hq => (h q hq).fr g (hF q hq)
set_option maxRecDepth 100000 in
theorem Pre.fr {w0 w w' : World} {r p : Nat} {t : Option Nat} {m c : Int} {xs : List UInt8} {a : Int} {F : Nat → Prop} (h : Pre w0 w r p t m c xs a) (g : Fr w w' F) (hr : ¬ F r) (hp : ∀ i, Ft p t i → ¬ F i) (hF : ∀ i, F i → w0.heap.size ≤ i) : Pre w0 w' r p t m c xs a :=
  ⟨grew_fr h.g g hF, h.rd.fr g hr, h.cr.fr g (hp p (.inl rfl)) hF, h.tl, h.ty.fr g (fun q hq => hp q (.inr hq))⟩
set_option maxRecDepth 100000 in
theorem Pre.got {w0 w w' : World} {r p : Nat} {t : Option Nat} {m c c' : Int} {xs ys : List UInt8} {a a' : Int} (h : Pre w0 w r p t m c xs a) (g : Fr w w' (Ft p t)) (hC : Cr w' p w0.heap.size ys a') (hT : Tly w' t m c') : Pre w0 w' r p t m c' ys a' :=
  ⟨grew_fr h.g g h.lo, h.rd.fr g h.rne, hC, h.tl, hT⟩
set_option maxRecDepth 100000 in
theorem fr_alloc (w : World) (o : Obj) (F : Nat → Prop) : Fr w (w.alloc o) F := (Fr.refl w F).alloc o
set_option maxRecDepth 100000 in
theorem fr_of {w w' : World} {F : Nat → Prop} (g : Grew w w' none) : Fr w w' F := Fr.of_grew' g (fun _ h => by cases h)

set_option maxRecDepth 100000 in
/-- The results are stored: what is left behind. -/
theorem got_close {w0 w X Y : World} {p q r k : Nat} {t : Option Nat} {m c : Int} {xs ys : List UInt8} {a a' : Int} {R : Rd} {v : Va} (hF : Fr w X (Ft p t)) (hC : Cr X p w0.heap.size ys a') (hT : Tly X t m (c + R.c)) (hY : Fr X Y (fun i => i = q ∨ i = r)) (hq : w.heap.size ≤ q) (hr : w.heap.size ≤ r) (hp : ∀ i, Ft p t i → i < w.heap.size)
    (hv : v.In X) (hi : v.Hi k) (hqk : q < k) (hrk : r < k) (hn : v.nf = R.v) (hx : R.e = 0 → ys = xs.drop R.n ∧ a' = a + R.n) {V : Value} (hV : V = .tuple #[v.val, fault (faI a R) R.e]) : Got w0 w p t m c xs a R (.returned V) Y := by
  have hB := hC.1
  have hp0 := hp p (.inl rfl)
  refine ⟨v, ys, a', by rw [hV], hv.fr hY hi (fun i hi => by rcases hi with rfl | rfl <;> assumption), hi.mono (by omega), hn, hC.fr hY (by omega) (fun i hi => by rcases hi with rfl | rfl <;> omega), hx, hT.fr hY (fun z hz e => by have := hp z (.inr hz); rcases e with rfl | rfl <;> omega), hF.trans hY (fun i hi e => by rcases e with rfl | rfl <;> omega)⟩

set_option maxRecDepth 100000 in
/-- What a leaf's step leaves, where there may be a tally. -/
theorem GotP.got {w0 w : World} {r p : Nat} {t : Option Nat} {m c : Int} {xs : List UInt8} {a : Int} {R : Rd} (h : Pre w0 w r p t m c xs a) (hc : R.c = 0) {e : Ending} {w' : World} (H : GotP w0.heap.size w p xs a R e w') : Got w0 w p t m c xs a R e w' := by
  obtain ⟨v, ys, a', he, hv, hi, hn, hC, hx, g⟩ := H
  have hF : Fr w w' (Ft p t) := Fr.of_grew' g (fun i hi => .inl (by cases hi; rfl))
  refine ⟨v, ys, a', he, hv, hi, hn, hC, hx, ?_, hF⟩
  rw [hc]
  intro q hq
  have := (h.ty q hq).grew g (by intro e; cases e; exact h.tne hq)
  simpa using this

set_option maxRecDepth 100000 in
theorem made_values (n : Nat) : (madeCells #[.int .u64 0, .slice none 0 0, .slice none 0 0] (n * 3)).toList = Va.flat (List.replicate n v0) := by
  apply List.ext_getElem?
  intro m
  by_cases hm : m < n * 3
  · obtain ⟨p, hp, hc⟩ := Va.flat_lt (ps := List.replicate n v0) (m := m) (by rw [Va.flat_length, List.length_replicate]; exact hm)
    have he : p = v0 := List.eq_of_mem_replicate (List.mem_of_getElem? hp)
    subst he
    rw [← hc, madeCells]
    simp only [Array.toList_map, Array.toList_range, List.getElem?_map, List.getElem?_range hm, Option.map_some]
    have h3 : m % 3 = 0 ∨ m % 3 = 1 ∨ m % 3 = 2 := by omega
    have hs : (#[.int .u64 0, .slice none 0 0, .slice none 0 0] : Array Value).size = 3 := rfl
    rw [hs]
    rcases h3 with h | h | h <;> rw [h] <;> rfl
  · rw [List.getElem?_eq_none (by simp [size_madeCells]; omega), List.getElem?_eq_none (by rw [Va.flat_length, List.length_replicate]; omega)]

set_option maxRecDepth 100000 in
/-- A value stored in a row of values. -/
theorem put_at {w : World} {b : Nat} {cs : Array Value} {e : TypeId} {xs zs : List Va} {y : Va} (h : Whole w b cs e) (hf : cs.toList = Va.flat (xs ++ y :: zs)) (v : Va) (i : Nat) (hi : i = xs.length * 3) :
    ∃ cs', Whole (((w.setCell ⟨b, i, none⟩ (.int .u64 v.n)).setCell ⟨b, i + 1, none⟩ (.slice v.B v.bs.length v.d)).setCell ⟨b, i + 2, none⟩ (.slice v.A v.ls.length v.c)) b cs' e ∧ cs'.toList = Va.flat (xs ++ v :: zs) := by
  refine ⟨_, ((h.set i _).set (i + 1) _).set (i + 2) _, ?_⟩
  have e1 : Va.flat (xs ++ y :: zs) = Va.flat xs ++ (y.cells.toList ++ Va.flat zs) := by rw [Va.flat_append]; rfl
  have e2 : Va.flat (xs ++ v :: zs) = Va.flat xs ++ (v.cells.toList ++ Va.flat zs) := by rw [Va.flat_append]; rfl
  have hl : (Va.flat xs).length = i := by rw [Va.flat_length, hi]
  simp only [Array.toList_setIfInBounds, hf, e1, e2]
  rw [List.set_append_right _ _ (by omega), List.set_append_right _ _ (by omega), List.set_append_right _ _ (by omega), hl]
  congr 1
  simp [Va.cells]
end Go.Proofs.Ytibbeodcheefaaa

