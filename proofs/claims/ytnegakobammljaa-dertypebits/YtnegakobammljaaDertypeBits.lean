/- Bytes whose last bits are cleared are a bit string with as many that aren't used; with one of these set they are none: the law returns true. -/
import Derived.Test.YtnegakobammljaaCc
import Derived.Test.YtnegakobammljaaLp4
import Derived.StillTailTactics
import Derived.Deep.RegionHeld3
import Derived.Deep.Cut
namespace Go.Proofs.Ytnegakobammljaa
open Go.ChangeShapes Go.WideShapes Go.ChangeAt Go.RowKit

/-- Bits of bytes in new memory. -/
theorem bits_new (hbi : BitsC) (w : World) (cs : Array Value) (xs : List UInt8) (hcs : cs.toList = cellsOf xs) (m : Nat) (hm : xs.length = m) (h100 : m ≤ 100) (ys : List UInt8) (n : Nat) (hn : ys.length = n) (x e0 : Int) (hy : (if bt xs then xs.tail else []) = ys) (hx : (if bt xs then ((xs.getD 0 0).toNat : Int) else 0) = x) (he : (if bt xs then (0 : Int) else 13) = e0) :
    Calls Try.prog 17 #[.slice (some ⟨w.heap.size, 0, none⟩) m m] (w.alloc (.cells cs 5)) fun e w' => ∃ (A' : Option Addr) (c' : Nat), e = .returned (.tuple #[.slice A' n c', .int .i64 x, .int .i64 e0]) ∧ Below w.heap.size w w' := by
  subst hm hx he hn hy
  refine (hbi _ _ xs.length xs (byt_new w cs xs hcs) (Nat.le_refl _) (by unfold mxB; omega)).mono ?_
  rintro e w' ⟨A', c', ys, rfl, he, -, -, hB⟩
  exact ⟨A', c', he, ((Below.refl _ w).alloc (Nat.le_refl _) _).trans (hB.mono (by simp))⟩

theorem bits_nil (hbi : BitsC) (w : World) :
    Calls Try.prog 17 #[.slice none 0 0] w fun e w' => ∃ (A' : Option Addr) (c' : Nat), e = .returned (.tuple #[.slice A' 0 c', .int .i64 0, .int .i64 13]) ∧ Below w.heap.size w w' := by
  refine (hbi w none 0 [] (fun h => by simp at h) (Nat.le_refl _) (Nat.zero_le _)).mono ?_
  rintro e w' ⟨A', c', ys, rfl, he, -, -, hB⟩
  exact ⟨A', c', he, hB⟩
theorem or_one : ∀ n, n < 256 → bits BinOp.or IntKind.u8 ((n : Nat) : Int) 1 = ((n / 2 * 2 + 1 : Nat) : Int) := by decide +kernel
set_option maxRecDepth 100000 in
set_option maxHeartbeats 1000000 in
/-- Too many bytes, or none. -/
theorem dertypeBits_out (hal : AliveC) (hbi : BitsC) (w : World) (A : Option Addr) (c L : Nat) (u b : Nat) (hu : u < 256) (hL : 500 < L ∨ L = 0) :
    Calls Try.prog 8 #[.slice A L c, .int .u8 (u : Int), .int .u8 (b : Int)] w fun e w' => e = .returned (.bool true) ∧ Below w.heap.size w w' := by
  have r1 := bits_nil hbi w
  have r2 := fun (W : World) => bits_new hbi W #[.int .u8 0] [0] rfl 1 rfl (by omega) [] 0 rfl 0 0 rfl rfl rfl
  have ho := or_one u hu
  have ez : (UInt8.ofNat (u / 2 * 2 + 1)).toNat = u / 2 * 2 + 1 := by simp; omega
  have r3 := fun (W : World) => bits_new hbi W #[.int .u8 ((u / 2 * 2 + 1 : Nat) : Int)] [.ofNat (u / 2 * 2 + 1)] (by simp only [cellsOf, List.map_cons, List.map_nil]; rw [ez]) 1 rfl (by omega) [] 0 rfl 0 13 (by rw [bt_odd _ (by rw [ez]; omega)]; rfl) (by rw [bt_odd _ (by rw [ez]; omega)]; rfl) (by rw [bt_odd _ (by rw [ez]; omega)]; rfl)
  rw [← ho] at r3
  clear ho ez
  have H2 := Lib.hid r2
  have H3 := Lib.hid r3
  have HA := Lib.hid hal
  obtain ⟨q, hq⟩ : ∃ q, w.heap.size = q := ⟨_, rfl⟩
  have HQ := Lib.hid hq
  rw [hq] at r1 ⊢
  clear r2 r3 hal hbi hu hq
  rcases hL with hL | hL
  · have g1 : 500 < (L : Int) := by omega
    go_enter Try.func8, Try.ntmps8
    go_wp2_with fail
    refine r1.mono ?_
    rintro e w1 ⟨A1, c1, rfl, hB1⟩
    have HB1 := Lib.hid (show Below q w w1 ∧ q ≤ w1.heap.size from ⟨hB1, by rw [← HQ.out]; exact hB1.size⟩)
    clear hB1 r1
    go_wp2_with fail
    refine (H2.out w1).mono ?_
    rintro e w2 ⟨A2, c2, rfl, hB2⟩
    have HB2 := Lib.hid (show Below q w w2 ∧ q ≤ w2.heap.size from ⟨HB1.out.1.trans (hB2.mono HB1.out.2), Nat.le_trans HB1.out.2 hB2.size⟩)
    clear hB2 H2 HB1
    go_wp2_with fail
    refine (H3.out w2).mono ?_
    rintro e w3 ⟨A3, c3, rfl, hB3⟩
    have HB3 := Lib.hid (show Below q w w3 ∧ q ≤ w3.heap.size from ⟨HB2.out.1.trans (hB3.mono HB2.out.2), Nat.le_trans HB2.out.2 hB3.size⟩)
    clear hB3 H3 HB2
    go_wp2_with fail
    refine (HA.out w3).mono ?_
    rintro e w4 ⟨rfl, hB4⟩
    have HB4 := Lib.hid (HB3.out.1.trans (hB4.mono HB3.out.2))
    clear hB4 HA HB3
    go_wp2_with fail
    go_ret
    exact ⟨rfl, HB4.out⟩
  · subst hL
    go_enter Try.func8, Try.ntmps8
    go_wp2_with fail
    refine r1.mono ?_
    rintro e w1 ⟨A1, c1, rfl, hB1⟩
    have HB1 := Lib.hid (show Below q w w1 ∧ q ≤ w1.heap.size from ⟨hB1, by rw [← HQ.out]; exact hB1.size⟩)
    clear hB1 r1
    go_wp2_with fail
    refine (H2.out w1).mono ?_
    rintro e w2 ⟨A2, c2, rfl, hB2⟩
    have HB2 := Lib.hid (show Below q w w2 ∧ q ≤ w2.heap.size from ⟨HB1.out.1.trans (hB2.mono HB1.out.2), Nat.le_trans HB1.out.2 hB2.size⟩)
    clear hB2 H2 HB1
    go_wp2_with fail
    refine (H3.out w2).mono ?_
    rintro e w3 ⟨A3, c3, rfl, hB3⟩
    have HB3 := Lib.hid (show Below q w w3 ∧ q ≤ w3.heap.size from ⟨HB2.out.1.trans (hB3.mono HB2.out.2), Nat.le_trans HB2.out.2 hB3.size⟩)
    clear hB3 H3 HB2
    go_wp2_with fail
    refine (HA.out w3).mono ?_
    rintro e w4 ⟨rfl, hB4⟩
    have HB4 := Lib.hid (HB3.out.1.trans (hB4.mono HB3.out.2))
    clear hB4 HA HB3
    go_wp2_with fail
    go_ret
    exact ⟨rfl, HB4.out⟩


theorem own_set8 {w : World} {g n c k : Nat} {xs : List Value} {v : Value} (h : w.ownsRow 0 5 1 (.slice (some ⟨g, 0, none⟩) n c) n xs) : (w.setCell ⟨g, k, none⟩ v).ownsRow 0 5 1 (.slice (some ⟨g, 0, none⟩) n c) n (xs.set k v) := by
  refine ⟨by rw [List.length_set]; exact h.1, ?_⟩
  rcases h.2 with ⟨e', _⟩ | ⟨g', c', cur, e', hb, hh, h1, h2, h3, h4⟩
  · cases e'
  · injection e' with hA _ hc
    injection hA with hA
    injection hA with hA
    subst hA hc
    have hW : Whole w g cur 5 := hh
    refine .inr ⟨g, c, _, rfl, hb, hW.set k v, h1, h2, by simpa using h3, ?_⟩
    rw [← h4]
    simp [List.take_set]
theorem cells_set (xs : List UInt8) (k : Nat) (y : UInt8) : (cellsOf xs).set k (.int .u8 (y.toNat : Int)) = cellsOf (xs.set k y) := by
  unfold cellsOf
  rw [List.map_set]
theorem own_drew {w : World} {v : Value} {n : Nat} {xs : List Value} (h : w.ownsRow 0 5 1 v n xs) : w.drew.ownsRow 0 5 1 v n xs := h
theorem own_below {w w' : World} {v : Value} {n : Nat} {xs : List Value} (h : w.ownsRow 0 5 1 v n xs) (hb : Below w.heap.size w w') : w'.ownsRow 0 5 1 v n xs := by
  refine ⟨h.1, ?_⟩
  rcases h.2 with h2 | ⟨g, cap, cur, e, hg, hh, h1, h2, h3, h4⟩
  · exact .inl h2
  · have hW : Whole w g cur 5 := hh
    exact .inr ⟨g, cap, cur, e, hg, (hb.block g hW.lt).trans hh, h1, h2, h3, h4⟩
theorem own_whole8 {w : World} {g n c : Nat} {xs : List Value} (h : w.ownsRow 0 5 1 (.slice (some ⟨g, 0, none⟩) n c) n xs) : ∃ cs, Whole w g cs 5 := by
  rcases h.2 with ⟨e', _⟩ | ⟨g', c', cur, e', _, hh, _⟩
  · cases e'
  · injection e' with hA _ _
    injection hA with hA
    injection hA with hA
    subst hA
    exact ⟨cur, hh⟩
/-- Bits of a bit string. -/
theorem bits_of (hbi : BitsC) (w : World) (A : Option Addr) (c n k : Nat) (zs : List UInt8) (hb : Byt w w.heap.size A zs) (hn : zs.length = n + 1) (hl : n + 1 ≤ c) (hm : n ≤ 1000) (hbt : bt zs = true) (hk : (zs.getD 0 0).toNat = k) :
    Calls Try.prog 17 #[.slice A (n + 1) c] w fun e w' => ∃ (A' : Option Addr) (c' : Nat), e = .returned (.tuple #[.slice A' n c', .int .i64 (k : Int), .int .i64 0]) ∧ Byt w' w'.heap.size A' zs.tail ∧ Below w.heap.size w w' := by
  have h := hbi w A c zs hb (by omega) (by unfold mxB; omega)
  rw [hn] at h
  refine h.mono ?_
  rintro e w' ⟨A', c', ys, hys, he, -, hby, hB⟩
  rw [hbt, if_pos rfl] at hys
  rw [hbt, if_pos rfl, if_pos rfl, hk] at he
  subst hys
  have ht : zs.tail.length = n := by rw [List.length_tail, hn]; rfl
  rw [ht] at he
  exact ⟨A', c', he, hby, hB⟩
theorem bits_not (hbi : BitsC) (w : World) (A : Option Addr) (c n : Nat) (zs : List UInt8) (hb : Byt w w.heap.size A zs) (hn : zs.length = n) (hl : n ≤ c) (hm : n ≤ 1000) (hbt : bt zs = false) :
    Calls Try.prog 17 #[.slice A n c] w fun e w' => ∃ (A' : Option Addr) (c' : Nat), e = .returned (.tuple #[.slice A' 0 c', .int .i64 0, .int .i64 13]) ∧ Below w.heap.size w w' := by
  have h := hbi w A c zs hb (by omega) (by unfold mxB; omega)
  rw [hn] at h
  refine h.mono ?_
  rintro e w' ⟨A', c', ys, hys, he, -, hby, hB⟩
  rw [hbt, if_neg (by simp)] at hys
  rw [hbt, if_neg (by simp), if_neg (by simp)] at he
  subst hys
  exact ⟨A', c', he, hB⟩

set_option maxRecDepth 100000 in
set_option maxHeartbeats 1000000 in
theorem dertypeBits_in (hal : AliveC) (hbi : BitsC) (hck : CheckC) (w : World) (A : Option Addr) (c L : Nat) (xs : List UInt8) (hxs : xs.length = L) (u b k : Nat) (hu : u < 256) (hk : u % 8 = k) (hL : 0 < L) (hb2 : b < 256) (hL5 : L ≤ 500) (hb : Byt w w.heap.size A xs) :
    Calls Try.prog 8 #[.slice A L c, .int .u8 (u : Int), .int .u8 (b : Int)] w fun e w' => e = .returned (.bool true) ∧ Below w.heap.size w w' := by
  have g1 : ¬ 500 < (L : Int) := by omega
  have g2 : ((L : Int) == 0) = false := beq_false_of_ne (by omega)
  have k8 : k < 8 := by omega
  have e1 : (u : Int).tmod 8 = (k : Int) := by rw [Int.tmod_eq_emod_of_nonneg (by omega)]; omega
  have e2 : (k : Int) % 256 = (k : Int) := by clear e1; omega
  have ek : (UInt8.ofNat k).toNat = k := by clear e1 e2; simp; omega
  have ap := fun ty => app_byt w (.ofNat k) (c := c) hb (by omega) ty
  rw [ek, hxs] at ap
  have HAP := Lib.hid ap
  have HK := Lib.hid k8
  have HL := Lib.hid (And.intro hL hL5)
  have HX := Lib.hid hxs
  obtain ⟨q, hq⟩ : ∃ q, w.heap.size = q := ⟨_, rfl⟩
  have HQ := Lib.hid hq
  clear ap ek hb hL hL5 hxs hk hu k8 hq
  go_enter Try.func8, Try.ntmps8
  go_wp2_with (at_builtin; refine wpList_append_run _ rfl (.tmp 78) (.tmp 79) 22 rfl rfl rfl HAP.out ?_; rintro v1 w1 a1; have A1 := Lib.hid a1; clear a1 HAP)
  obtain ⟨hown, hB1, hnew⟩ := A1.out
  obtain ⟨g, cap, cur, rfl, hW, hcap, hsz, htk⟩ : ∃ (g cap : Nat) (cur : Array Value), v1 = .slice (some ⟨g, 0, none⟩) (L + 1) cap ∧ Whole w1 g cur 5 ∧ L + 1 ≤ cap ∧ cur.size = cap * 1 ∧ cur.toList.take ((L + 1) * 1) = cellsOf (UInt8.ofNat k :: xs) := by
    rcases hown.2 with ⟨_, h0⟩ | ⟨g, cap, cur, hv, _, hh, h1, _, h3, h4⟩
    · exact absurd h0 (by omega)
    · exact ⟨g, cap, cur, hv, hh, h1, h3, h4⟩
  obtain ⟨z, hz⟩ : ∃ z, (UInt8.ofNat k :: xs).getD L 0 = z := ⟨_, rfl⟩
  have c1 : w1.cell? ⟨g, L, none⟩ = some (.int .u8 ((z.toNat : Nat) : Int)) := by
    have hi : L < (UInt8.ofNat k :: xs).length := by simp; have := HX.out; omega
    rw [hW.cell, ← hz, ← cellsOf_at _ _ hi, ← htk, List.getElem?_take_of_lt (by omega), Array.getElem?_toList]
  have c2 : w1.frozen? ⟨g, L, none⟩ = false := hW.frozen L
  have s1 : IntKind.i64.wrap ((L : Int)) = L := by rw [IntWalk.i64_left, IntWalk.wrap64_in _ (by have := HL.out; omega)]
  have s2 : (0 : Int) ≤ L := by omega
  have s3 : (0 : Int) ≤ k := by omega
  have s4 : (L : Int) < (L : Int) + 1 := by omega
  have HH := Lib.hid hW
  have HO := Lib.hid hown
  have HB1 := Lib.hid hB1
  have HNE := Lib.hid hnew
  have HZ := Lib.hid hz
  clear hW hown hB1 hnew hz A1 htk hsz
  go_still_tail 11, (by kernel_rfl)
  change wpList _ _ _ _ _ w1.drew
  have d1 : w1.drew.cell? ⟨g, L, none⟩ = some (.int .u8 ((z.toNat : Nat) : Int)) := c1
  have d2 : w1.drew.frozen? ⟨g, L, none⟩ = false := c2
  clear c1 c2 s1 s2 s4
  go_wp2_with fail
  obtain ⟨y1, hy1⟩ : ∃ y1 : UInt8, y1 = UInt8.ofNat (z.toNat - z.toNat % 2 ^ k) := ⟨_, rfl⟩
  have hz256 := z.toNat_lt
  have hy1n : y1.toNat = z.toNat - z.toNat % 2 ^ k := by rw [hy1]; simp; omega
  have hval : bits BinOp.andNot IntKind.u8 (z.toNat : Int) ((2 ^ min k 8 - 1) % 256) = ((y1.toNat : Nat) : Int) := by
    rw [hy1n, ← clear_bits k HK.out z.toNat hz256]
    congr 1
    have hk := HK.out
    have h8 : k = 0 ∨ k = 1 ∨ k = 2 ∨ k = 3 ∨ k = 4 ∨ k = 5 ∨ k = 6 ∨ k = 7 := by omega
    rcases h8 with rfl | rfl | rfl | rfl | rfl | rfl | rfl | rfl <;> decide
  have hc0 := cleared k HK.out z.toNat hz256
  rw [← hy1n] at hc0
  have ek : (UInt8.ofNat k).toNat = k := by have := HK.out; simp; omega
  have hbt : ∀ y : UInt8, bt ((UInt8.ofNat k :: xs).set L y) = btF k y.toNat := fun y => by
    have := bt_set (UInt8.ofNat k) xs y (by rw [HX.out]; exact HL.out.1) (by rw [ek]; have := HK.out; omega)
    rw [HX.out, ek] at this
    exact this
  have hbt1 : bt ((UInt8.ofNat k :: xs).set L y1) = true := by rw [hbt, btF_yes k _ hc0]
  have hl1 : ∀ y : UInt8, ((UInt8.ofNat k :: xs).set L y).length = L + 1 := fun y => by simp; exact HX.out
  have hk1 : (((UInt8.ofNat k :: xs).set L y1).getD 0 0).toNat = k := by
    have hL1 := HL.out.1
    obtain ⟨L', rfl⟩ : ∃ L', L = L' + 1 := ⟨L - 1, by omega⟩
    exact ek
  rw [hval]
  have hown2 : (w1.setCell ⟨g, L, none⟩ (.int .u8 (y1.toNat : Int))).drew.ownsRow 0 5 1 (.slice (some ⟨g, 0, none⟩) (L + 1) cap) (L + 1) (cellsOf ((UInt8.ofNat k :: xs).set L y1)) := by
    have := own_set8 (k := L) (v := .int .u8 (y1.toNat : Int)) HO.out
    rw [cells_set] at this
    exact this
  have hgq : q ≤ g := by rw [← HQ.out]; exact HNE.out g rfl
  have hBq : Below q w (w1.setCell ⟨g, L, none⟩ (.int .u8 (y1.toNat : Int))).drew := by
    have := HB1.out
    rw [HQ.out] at this
    exact (this.setCell (p := ⟨g, L, none⟩) hgq _).drew
  generalize (w1.setCell ⟨g, L, none⟩ (.int .u8 (y1.toNat : Int))).drew = w2 at *
  obtain ⟨A0, c0, e0, -, hby2, -⟩ := byt_owned hown2
  rw [hl1] at e0
  injection e0 with e0 _ e0'
  subst e0
  subst e0'
  have HBT := Lib.hid hbt
  have HO2 := Lib.hid hown2
  have HB2 := Lib.hid (show Below q w w2 ∧ q ≤ w2.heap.size from ⟨hBq, by have := hBq.size; rw [HQ.out] at this; exact this⟩)
  have HBY := Lib.hid hby2
  have HC0 := Lib.hid hc0
  have HL1 := Lib.hid hl1
  have HY := Lib.hid hgq
  have HAL := Lib.hid hal
  have HBI := Lib.hid hbi
  have HK1 := Lib.hid hk1
  have HBT1 := Lib.hid hbt1
  have r1 := bits_of hbi w2 (some ⟨g, 0, none⟩) cap L k _ hby2 (hl1 y1) hcap (by have := HL.out; omega) hbt1 hk1
  have HCK := Lib.hid (fun (W : World) (h : Byt W W.heap.size (some ⟨g, 0, none⟩) ((UInt8.ofNat k :: xs).set L y1)) => hck W 3 (some ⟨g, 0, none⟩) cap _ (by omega) h (by rw [hl1]; exact hcap) (by rw [hl1]; unfold mxB; have := HL.out; omega))
  rw [hl1 y1, show ckE 3 ((UInt8.ofNat k :: xs).set L y1) = 0 from by show (if bt _ then (0 : Int) else 13) = 0; rw [hbt1]; rfl] at HCK
  have htl : ((UInt8.ofNat k :: xs).set L y1).tail.length = L := by rw [List.length_tail, hl1]; rfl
  have hdr : (((UInt8.ofNat k :: xs).set L y1).drop 1).take L = ((UInt8.ofNat k :: xs).set L y1).tail := by rw [List.drop_one, List.take_of_length_le (by rw [htl]; exact Nat.le_refl _)]
  obtain ⟨A9, hsl, hA9⟩ := slice_rest' g 0 L cap hcap
  obtain rfl := hA9 HL.out.1
  have HDR := Lib.hid hdr
  have HTL := Lib.hid htl
  clear hbt hown2 hBq hby2 hc0 hl1 hgq hal hbi hck hk1 hbt1 htl hdr hA9 hval hy1 hy1n hz256 ek HO HB1 HNE HZ HH d1 d2
  generalize hzs : (UInt8.ofNat k :: xs).set L y1 = zs at *
  refine r1.mono ?_
  rintro e w3 ⟨A3, c3, rfl, hby3, hB3⟩
  clear r1
  have HB3 := Lib.hid (show Below q w w3 ∧ q ≤ w3.heap.size from ⟨HB2.out.1.trans (hB3.mono HB2.out.2), Nat.le_trans HB2.out.2 hB3.size⟩)
  have HBY3 := Lib.hid (show Byt w3 w3.heap.size (some ⟨g, 0, none⟩) zs from byt_up (byt_below HBY.out hB3 (Nat.le_refl _)) hB3.size)
  have HBZ3 := Lib.hid hby3
  have hcv1 : ∀ W, Below w3.heap.size w3 W → (convert 22 9 (.slice A3 L c3)).run Try.prog W = .ok (.string (txt zs.tail)) W := fun W hW => conv_txt W Try.underlying22 Try.underlying5 Try.underlying9 (byt_below HBZ3.out hW (Nat.le_refl _)) HTL.out.symm c3
  have hcv2 : ∀ W, Below w3.heap.size w3 W → (convert 22 9 (.slice (some ⟨g, 0 + 1, none⟩) L (cap - 1))).run Try.prog W = .ok (.string (txt zs.tail)) W := fun W hW => conv_txt W Try.underlying22 Try.underlying5 Try.underlying9 (by have := byt_sub (s := 1) (k := L) (byt_below HBY3.out hW (Nat.le_refl _)); rw [HDR.out] at this; exact this) HTL.out.symm (cap - 1)
  have HB23 := Lib.hid hB3
  clear hB3 hby3 HBY
  simp only [Nat.zero_add] at hsl hcv2
  go_upto_region 10 with (fail)
  have HS : ∀ W, Below w3.heap.size w3 W → ((convert 22 9 (.slice A3 L c3)).run Try.prog W = .ok (.string (txt zs.tail)) W ∧ (convert 22 9 (.slice (some ⟨g, 1, none⟩) L (cap - 1))).run Try.prog W = .ok (.string (txt zs.tail)) W) := fun W hW => ⟨hcv1 W hW, hcv2 W hW⟩
  have HB30 := Lib.hid (show Below w3.heap.size w3 w3.drew from (Below.refl _ w3).drew)
  have HSS := Lib.hid HS
  clear hcv1 hcv2 HS
  go_region_held3 (fun W => (convert 22 9 (.slice A3 L c3)).run Try.prog W = .ok (.string (txt zs.tail)) W ∧ (convert 22 9 (.slice (some ⟨g, 1, none⟩) L (cap - 1))).run Try.prog W = .ok (.string (txt zs.tail)) W) (exact HSS.out _ (Hid.out (by assumption)))
    ((first | (go_at_call 9; refine (HAL.out _).mono ?_; rintro e w4 ⟨rfl, hB4⟩; have HB4 := Lib.hid (show Below w3.heap.size w3 w4 from HB30.out.trans hB4); clear hB4) | (go_at_call 10; refine (HCK.out w4 (byt_up (byt_below HBY3.out HB4.out (Nat.le_refl _)) HB4.out.size)).mono ?_; rintro e w5 ⟨rfl, hB5⟩; have HB5 := Lib.hid (show Below w3.heap.size w3 w5 from HB4.out.trans (hB5.mono HB4.out.size)); clear hB5)))
  have hB5 := HB3.out.1.trans (HB5.out.mono HB3.out.2)
  have hO5 := own_below HO2.out (show Below w2.heap.size w2 w5 from HB23.out.trans (HB5.out.mono HB23.out.size))
  have HB5q := Lib.hid (show Below q w w5 ∧ q ≤ w5.heap.size from ⟨hB5, Nat.le_trans HB3.out.2 HB5.out.size⟩)
  obtain ⟨cs5, hW5⟩ := own_whole8 hO5
  have c5 : w5.cell? ⟨g, L, none⟩ = some (.int .u8 ((y1.toNat : Nat) : Int)) := by
    obtain ⟨b', o', e', -, hcc⟩ := byt_below HBY3.out HB5.out (Nat.le_refl _) (by rw [← hzs, HL1.out]; omega)
    cases e'
    have := hcc L (by rw [← hzs, HL1.out]; omega)
    rw [Nat.zero_add] at this
    rw [this, ← hzs]
    congr 3
    rw [List.getD_eq_getElem?_getD, List.getElem?_set_self (by simp; rw [HX.out]; omega)]
    rfl
  have z5 : w5.frozen? ⟨g, L, none⟩ = false := hW5.frozen L
  have HO5 := Lib.hid hO5
  clear HB3 HB4 HB5 HB30 HSS HCK HBZ3 HBY3 HTL HDR hsl HAL hB5 hO5 hW5 HB23 HB2 HO2 HK1 HBT1
  by_cases hk0 : k = 0
  · subst hk0
    go_wp2_with fail
    go_ret
    exact ⟨rfl, by rw [HQ.out]; exact HB5q.out.1⟩
  · have hk0I : ((k : Int) == 0) = false := beq_eq_false_iff_ne.2 (by omega)
    obtain ⟨j, hj⟩ : ∃ j, b % k = j := ⟨_, rfl⟩
    have hjk : j < k := by rw [← hj]; exact Nat.mod_lt _ (by omega)
    have e3 : (b : Int).tmod (k : Int) = (j : Int) := by rw [Int.tmod_eq_emod_of_nonneg (by omega)]; omega
    have e4 : IntKind.i64.wrap (b : Int) = (b : Int) := by rw [IntWalk.i64_left, IntWalk.wrap64_in _ (by omega)]
    have s1 : IntKind.i64.wrap ((L : Int)) = L := by rw [IntWalk.i64_left, IntWalk.wrap64_in _ (by have := HL.out; omega)]
    have s2 : (0 : Int) ≤ L := by omega
    have s5 : (0 : Int) ≤ j := by omega
    have s4 : (L : Int) < (L : Int) + 1 := by omega
    have HJ := Lib.hid hjk
    clear hj
    go_upto_region 14 with (fail)
    go_still_tail 13, (by kernel_rfl)
    change wpList _ _ _ _ _ w5.drew
    have d1 : w5.drew.cell? ⟨g, L, none⟩ = some (.int .u8 ((y1.toNat : Nat) : Int)) := c5
    have d2 : w5.drew.frozen? ⟨g, L, none⟩ = false := z5
    clear c5 z5 s1 s2 s4 e3 e4
    go_wp2_with fail
    obtain ⟨y2, hy2⟩ : ∃ y2 : UInt8, y2 = UInt8.ofNat (y1.toNat + 2 ^ j) := ⟨_, rfl⟩
    obtain ⟨hsb, hlt⟩ := set_bit k HK.out j HJ.out y1.toNat y1.toNat_lt HC0.out
    have hy2n : y2.toNat = y1.toNat + 2 ^ j := by rw [hy2]; simp; omega
    have hval : bits BinOp.or IntKind.u8 (y1.toNat : Int) (2 ^ min j 8 % 256) = ((y2.toNat : Nat) : Int) := by
      rw [hy2n, ← hsb]
      congr 1
      have hk := HK.out
      have hj := HJ.out
      have h8 : j = 0 ∨ j = 1 ∨ j = 2 ∨ j = 3 ∨ j = 4 ∨ j = 5 ∨ j = 6 := by omega
      rcases h8 with rfl | rfl | rfl | rfl | rfl | rfl | rfl <;> decide
    have hbt2 : bt ((UInt8.ofNat k :: xs).set L y2) = false := by rw [HBT.out, hy2n, btF_bit k j _ HJ.out HC0.out]
    rw [hval]
    have hown6 : (w5.setCell ⟨g, L, none⟩ (.int .u8 (y2.toNat : Int))).drew.ownsRow 0 5 1 (.slice (some ⟨g, 0, none⟩) (L + 1) cap) (L + 1) (cellsOf ((UInt8.ofNat k :: xs).set L y2)) := by
      have := own_set8 (k := L) (v := .int .u8 (y2.toNat : Int)) HO5.out
      rw [cells_set, ← hzs, List.set_set] at this
      exact this
    have hB6 : Below q w (w5.setCell ⟨g, L, none⟩ (.int .u8 (y2.toNat : Int))).drew := (HB5q.out.1.setCell (p := ⟨g, L, none⟩) HY.out _).drew
    generalize (w5.setCell ⟨g, L, none⟩ (.int .u8 (y2.toNat : Int))).drew = w6 at *
    obtain ⟨A0, c0, e0, -, hby6, -⟩ := byt_owned hown6
    rw [HL1.out] at e0
    injection e0 with e0 _ e0'
    subst e0
    subst e0'
    refine (bits_not HBI.out w6 (some ⟨g, 0, none⟩) cap (L + 1) _ hby6 (HL1.out y2) hcap (by have := HL.out; omega) hbt2).mono ?_
    rintro e w7 ⟨A7, c7, rfl, hB7⟩
    have HB7 := Lib.hid (hB6.trans (hB7.mono (by rw [← HQ.out]; rw [← HQ.out] at hB6; exact hB6.size)))
    clear hB7 hB6 hown6 hby6 hbt2 hval hy2n hsb hlt d1 d2 hy2
    go_wp2_with fail
    go_ret
    exact ⟨rfl, by rw [HQ.out]; exact HB7.out⟩

theorem wf_byte {n : Int} (h : (Lit.int .u8 n).wf = true) : ∃ m : Nat, n = (m : Int) ∧ m < 256 := by
  simp [Lit.wf, IntKind.min, IntKind.max, IntKind.signed, IntKind.bits] at h
  exact ⟨n.toNat, by omega, by omega⟩
theorem dertypeBits_walk (w : World) (A : Option Addr) (c : Nat) (xs : List UInt8) (_ : xs.length ≤ c) (_ : c ≤ 140737488351232) (hb : Byt w w.heap.size A xs) (u : Int) (hu : (Lit.int .u8 u).wf = true) (b : Int) (hb2 : (Lit.int .u8 b).wf = true) :
    Calls Try.prog 8 #[.slice A xs.length c, .int .u8 u, .int .u8 b] w fun e w' => e = .returned (.bool true) ∧ Below w.heap.size w w' := by
  obtain ⟨u', rfl, hu'⟩ := wf_byte hu
  obtain ⟨b', rfl, hb'⟩ := wf_byte hb2
  by_cases h : 500 < xs.length ∨ xs.length = 0
  · exact dertypeBits_out aliveC bitsC w A c xs.length u' b' hu' h
  · exact dertypeBits_in aliveC bitsC checkC w A c xs.length xs rfl u' b' (u' % 8) hu' rfl (by omega) hb' (by omega) hb

set_option maxRecDepth 100000 in
theorem dertypeBits_lifted (os : Os) (started : os.Started) (H : Type) (enc : TypeId × Value → H) :
    ReturnsInHanded {} Try.checked os 8 .any (Rows.dertypeBitsSpec.pre6 enc Try.prog Try.f8 Rows.dertypeBitsRow.domain false) (Rows.dertypeBitsSpec.post enc Try.prog Try.f8 false true false false) := by
  refine returnsInHanded_of_change_sized (C := Try.checked) own started (by kernel_rfl) Try.func8
    (ChangeSpec.witness6 (enc := enc) (C := Try.checked) false ⟨#[], #[.slice none 0 0, .int .u8 0, .int .u8 0], []⟩ 8 (by kernel_rfl) (by kernel_rfl) (by kernel_rfl) (by kernel_rfl)) ?_
  intro W base args ds gs before hval0 hW hcnd hsz0 _
  have hval : ∀ (j : Nat) t v, Try.f8.params[j]? = some t → args[j]? = some v → Value.okWide Try.prog W .any base t v := hval0
  have hsz : (DataW.weightsEach Try.prog (Try.f8.params.toList ++ Rows.dertypeBitsSpec.plain.varTypes Try.prog) (ds ++ gs)).all (· ≤ reachBytes) = true := hsz0
  have hW' := hW
  obtain ⟨p, q, hA0, hV, rfl, hfz, hnd⟩ := hW
  have hA : DataW.TrodAll enc Try.prog W 0 (fun _ => true) true Try.f8.params.toList args.toList ds p := hA0
  rw [Try.params8] at hA hval hsz
  obtain ⟨v0, vs0, d0, ds0, p0, q0, hargs, rfl, rfl, h0, r0⟩ := trodAll_cons hA
  obtain ⟨v1, vs1, d1, ds1, p1, q1, rfl, rfl, rfl, h1, r1⟩ := trodAll_cons r0
  obtain ⟨v2, vs2, d2, ds2, p2, q2, rfl, rfl, rfl, h2, r2⟩ := trodAll_cons r1
  obtain ⟨rfl, rfl, rfl⟩ := trodAll_nil r2
  obtain rfl : args = #[v0, v1, v2] := by cases args; simp_all
  obtain ⟨rfl, rfl⟩ := trodVars_none hV
  have k0 := h0
  have lt0 : ∀ x ∈ p0, x.block < W.heap.size := by obtain ⟨m, hm⟩ := k0; exact DataW.trod_lt m _ _ _ hm
  obtain ⟨A0, c0, x0, rfl, l0, m0, b0⟩ := arg_bytes (hval 0 22 v0 rfl rfl) h0 hsz (j := 0) rfl rfl
  obtain ⟨a1, rfl, rfl, rfl, w1⟩ := open_int Try.underlying5 (hval 1 5 v1 rfl rfl) h1
  obtain ⟨a2, rfl, rfl, rfl, w2⟩ := open_int Try.underlying5 (hval 2 5 v2 rfl rfl) h2
  clear hA0 hval0 hsz0
  refine (dertypeBits_walk W A0 c0 x0 l0 m0 b0 a1 w1 a2 w2).mono fun e W' ⟨he, bel⟩ => ?_
  subst he
  exact ⟨_, rfl, _, _, _, [], _, [], hW', trodAll_mk1 (shut_bool Try.underlying4 _), (trodAll_cons_mk (Below.trod laidOut (by kernel_rfl) (of_decide_eq_true (by kernel_rfl)) k0 bel lt0) (trodAll_cons_mk (shut_int Try.underlying5 w1) (trodAll_cons_mk (shut_int Try.underlying5 w2) trodAll_mk0))), rfl, bel.frame _, fun h => by cases h⟩

theorem dertypeBits_over : Rows.dertypeBitsRow.holds Try.pinned (OpenSpec.ofChange Rows.dertypeBitsSpec) :=
  OpenClaim.holds_of_wide 8 Try.f8 rfl rfl rfl rfl rfl rfl rfl ⟨rfl, rfl, rfl, rfl, rfl⟩ rfl rfl rfl rfl rfl (by kernel_rfl) Try.func8 (by kernel_rfl)
    (of_decide_eq_true (by kernel_rfl)) (by unfold Func.isWrapper; first | (rw [if_pos (by decide +kernel)]; kernel_rfl) | (rw [if_neg (by decide +kernel)]; exact ⟨rfl, rfl⟩))
    (fun os started H enc _ => dertypeBits_lifted os started H enc)

theorem dertypeBits_holds : Rows.DertypeBitsSaid := dertypeBits_over
#print axioms dertypeBits_holds
end Go.Proofs.Ytnegakobammljaa

