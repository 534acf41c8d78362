/- A head has two bytes up to 127, three up to 255, four up to 65535, five beyond; the length is told by all but its first bytes; one with a byte of 0 ahead is none: for every number and byte the law returns true, and they read as they did. Condition: the table of the package holds what the program's own text lays there (the card). -/
import Derived.Test.YtbeknillegkidaaDoorLz9
import Derived.Test.YtbeknillegkidaaDoorLb9
namespace Go.Proofs.YtbeknillegkidaaDoor
open Go.ChangeShapes Go.WideShapes Go.ChangeAt Go.RowKit

/-- The number that is asked for. -/
theorem dl_k (n : Int) : ∃ K : Nat, wrap64 ((IntKind.u64.wrap n).tmod 16777216) = (K : Int) ∧ K < 16777216 := by
  rw [IntKind.wrap_u64]
  have h0 : 0 ≤ n % 18446744073709551616 := by omega
  obtain ⟨a, ha⟩ := Int.eq_ofNat_of_zero_le h0
  rw [ha]
  refine ⟨a % 16777216, ?_, by omega⟩
  rw [Int.tmod_eq_emod_of_nonneg (by omega), IntWalk.wrap64_in _ (by omega)]
  rfl
def shd (K : Nat) : Nat → Nat
  | 0 => K
  | j + 1 => shd K j / 256
theorem i64_and_nat (a b : Nat) (ha : a < 8589934592) (hb : b < 8589934592) : bits .and .i64 (a : Int) (b : Int) = ((a &&& b : Nat) : Int) := by
  have hx : a &&& b < 2 ^ 33 := Nat.and_lt_two_pow _ (by omega)
  show IntKind.i64.wrap ((BitVec.ofInt 64 (a : Int) &&& BitVec.ofInt 64 (b : Int)).toNat : Int) = _
  rw [BitVec.toNat_and, ofInt_u64 a (by omega), ofInt_u64 b (by omega), IntWalk.i64_left, IntWalk.wrap64_in _ (by omega)]
theorem or_byte32 (a b : Nat) (ha : a < 33554432) (hb : b < 256) : bits .or .i64 ((a : Int) * 256) (b : Int) = ((256 * a + b : Nat) : Int) := by
  have e2 : ((a : Int) * 256) = ((a * 256 : Nat) : Int) := by omega
  have hx : a * 256 ||| b < 2 ^ 33 := Nat.or_lt_two_pow (by omega) (by omega)
  have : bits .or .i64 ((a * 256 : Nat) : Int) (b : Int) = ((a * 256 ||| b : Nat) : Int) := by
    show IntKind.i64.wrap ((BitVec.ofInt 64 ((a * 256 : Nat) : Int) ||| BitVec.ofInt 64 (b : Int)).toNat : Int) = _
    rw [BitVec.toNat_or, ofInt_u64 (a * 256) (by omega), ofInt_u64 b (by omega), IntWalk.i64_left, IntWalk.wrap64_in _ (by omega)]
  rw [e2, this]
  have h3 := Nat.two_pow_add_eq_or_of_lt (i := 8) (b := b) (by omega) a
  have e3 : 2 ^ 8 * a = a * 256 := by omega
  rw [e3] at h3
  rw [← h3]
  omega
theorem and_low1 (G K : Nat) (h : G = 129 * 256 + K) (hK : K < 256) : bits .and .i64 (G : Int) 255 = (K : Int) := by
  have := i64_and_nat G 255 (by omega) (by omega)
  rw [show ((255 : Nat) : Int) = 255 from rfl] at this
  rw [this, show G &&& 255 = G % 2 ^ 8 from Nat.and_two_pow_sub_one_eq_mod G 8]
  omega
theorem and_low2 (G K : Nat) (h : G = 130 * 65536 + K) (hK : K < 65536) : bits .and .i64 (G : Int) 65535 = (K : Int) := by
  have := i64_and_nat G 65535 (by omega) (by omega)
  rw [show ((65535 : Nat) : Int) = 65535 from rfl] at this
  rw [this, show G &&& 65535 = G % 2 ^ 16 from Nat.and_two_pow_sub_one_eq_mod G 16]
  omega
theorem and_low3 (G K : Nat) (h : G = 131 * 16777216 + K) (hK : K < 16777216) : bits .and .i64 (G : Int) 16777215 = (K : Int) := by
  have := i64_and_nat G 16777215 (by omega) (by omega)
  rw [show ((16777215 : Nat) : Int) = 16777215 from rfl] at this
  rw [this, show G &&& 16777215 = G % 2 ^ 24 from Nat.and_two_pow_sub_one_eq_mod G 24]
  omega
theorem slice_from (w : World) (b o n c : Nat) (hn : 1 ≤ n) (hc : 1 < c) :
    (Instr.slice 22 (.slice (some ⟨b, o, none⟩) n c) (some (.int .i64 1)) none none).run Tryd.prog w = .ok (.slice (some ⟨b, o + 1, none⟩) (n - 1) (c - 1)) w := by
  have ht : Tryd.prog.underlying 22 = some (.slice (Tryd.prog.elem 22)) := by rw [elem_u8]; exact Tryd.underlying22
  rw [run_slice_l w 22 (some ⟨b, o, none⟩) n c ht .i64 1 (by omega) (by omega), elem_u8, size_of_u8]
  have h1 : ¬ c = 1 := by omega
  simp [Result.andThen, sliced, Addr.add, h1]
/-- A new row of three bytes behind another one. -/
theorem app_lit (w : World) (c1 c2 : Array Value) (x1 x2 : List UInt8) (h1 : c1.toList = cellsOf x1) (h2 : c2.toList = cellsOf x2) (l1 : x1.length = 3) (l2 : x2.length = 3) :
    ∀ ty, ∃ v' w', (Builtin.append_ #[22, 22] ty #[.slice (some ⟨w.heap.size, 0, none⟩) 3 3, .slice (some ⟨w.heap.size + 1, 0, none⟩) 3 3]).run Tryd.prog ((w.alloc (.cells c1 5)).alloc (.cells c2 5)) = .ok v' w' ∧
      (w'.ownsRow 0 5 1 v' 6 (cellsOf (x1 ++ x2)) ∧ Below w.heap.size w w' ∧ w.heap.size ≤ w'.heap.size) := fun ty => by
  have k1 := own_fr (own_new w c1 x1 h1 (by omega)) ((Fr.refl _ (fun _ => False)).alloc (.cells c2 5)) (fun _ _ h => h)
  have k2 := own_by (own_new (w.alloc (.cells c1 5)) c2 x2 h2 (by omega))
  rw [World.size_alloc, l2] at k2
  rw [l1] at k1
  have hl2 : 3 = x2.length := l2.symm
  obtain ⟨v', w', hr, a1, a2, a3⟩ := append_bytes (P := Tryd.prog) _ 22 ty 5 Tryd.underlying22 info_u8 k1 k2 3 (by omega)
  rw [l2] at hr a1
  refine ⟨v', w', hr, a1, ?_, ?_⟩
  · refine (((Below.refl _ w).alloc (Nat.le_refl _) _).alloc (by simp) _).trans (grew_below a2 (by simp; omega) (fun k hk => ?_))
    simp [Value.ownBlock] at hk
    omega
  · have := a2.size
    simp at this
    omega
theorem kd4 : kd (hdC 4) (hdT 4) (hdM 4) = true := by decide
theorem kd04 : kd 0 4 false = true := by decide
theorem rdH_long2 (x m : UInt8) : rdH ([4, 130, 0] ++ [0, x, m]) = (.z, 1, 13) := by
  have e : rl [130, 0, 0, x, m] = (0, 1, 13) := by
    unfold rl
    simp [bval, nd]
  show rdH (4 :: [130, 0, 0, x, m]) = _
  rw [rdH_rl 4 _ kd4, e]
  rfl
theorem rdH_long3 (x y m : UInt8) (h : nd (256 * x.toNat + y.toNat) ≤ 2) : rdH ([4, 131, 0] ++ [x, y, m]) = (.z, 1, 13) := by
  have e : rl [131, 0, x, y, m] = (0, 1, 13) := by
    unfold rl
    simp only [show (131 : UInt8).toNat = 131 from rfl]
    rw [if_neg (by omega), if_neg (by omega), if_neg (by simp)]
    have : bval (List.take (131 - 128) [0, x, y, m]) = 256 * x.toNat + y.toNat := by simp [bval]
    rw [this, if_pos (by omega)]
  show rdH (4 :: [131, 0, x, y, m]) = _
  rw [rdH_rl 4 _ kd4, e]
  rfl


set_option maxRecDepth 100000 in
set_option maxHeartbeats 4000000 in
theorem dl0 (w : World) (n m : Int) (hm : (Lit.int .u8 m).wf = true) (HT : Hid (Tb w)) (K : Nat) (hK : wrap64 ((IntKind.u64.wrap n).tmod 16777216) = (K : Int)) (hhi : K < 128) :
    Calls Tryd.prog 8 #[.int .i64 n, .int .u8 m] w fun e w' => e = .returned (.bool true) ∧ Below w.heap.size w w' := by
  obtain ⟨q, hq⟩ : ∃ q, w.heap.size = q := ⟨_, rfl⟩
  have hq0 : 0 < q := by rw [← hq]; exact HT.out.lt
  have hlb : lenB K = [.ofNat K] := by unfold lenB; rw [if_pos hhi]
  have hnd : nd K = 0 := by unfold nd; rw [if_pos hhi]
  have hput := put_yes w HT.out ⟨0, 4, false, (K : Int)⟩ kd04
  have hp : putH ⟨0, 4, false, (K : Int)⟩ = 4 :: lenB K := by show _ :: lenB ((K : Int)).toNat = _; rw [Int.toNat_natCast]; rfl
  have hlen : (4 :: lenB K).length = 2 := by rw [hlb]; rfl
  rw [hp, hlen] at hput
  dsimp only [Hd.agg] at hput
  have hG : bval (lenB K) = K := by rw [hlb]; simp [bval]; omega
  have HP := Lib.hid hput
  have HLB := Lib.hid hlb
  have HLEN := Lib.hid hlen
  have HG := Lib.hid hG
  have HND := Lib.hid hnd
  clear hput hlb hlen hp hG hnd
  rw [hq]
  go_enter Tryd.func8, Tryd.ntmps8
  go_wp2_with fail
  refine HP.out.mono ?_
  rintro e w1 ⟨hor, hB1⟩
  rcases hor with ⟨hbad, -⟩ | ⟨-, v, rfl, own, -⟩
  · exact absurd (show 0 ≤ (K : Int) ∧ (K : Int) ≤ 16777215 by omega) hbad
  obtain ⟨bo, cap, rfl, -, -⟩ := own_slice own (by omega)
  have hcap : 2 ≤ cap := by
    rcases own.2 with ⟨h0, h1⟩ | ⟨b, cap', cur, h1, _, _, hle, _⟩
    · cases h0
    · cases h1; exact hle
  have B1 := Lib.hid (show Below q w w1 ∧ q ≤ w1.heap.size from ⟨by rw [← hq]; exact hB1, by rw [← hq]; exact hB1.size⟩)
  have HY1 := Lib.hid (show Byt w1 w1.heap.size (some ⟨bo, 0, none⟩) (4 :: lenB K) from (own_by own).byt)
  clear own hB1 HP
  go_wp2_with fail
  refine (alive9_any w1 (HT.out.below B1.out.1 hq0)).mono ?_
  rintro e w2 ⟨rfl, hB2⟩
  have B2 := Lib.hid (show Below q w w2 ∧ q ≤ w2.heap.size from ⟨B1.out.1.trans (hB2.mono B1.out.2), Nat.le_trans B1.out.2 hB2.size⟩)
  have HY2 := Lib.hid (byt_below HY1.out hB2 (Nat.le_refl _))
  clear hB2 B1 HY1 hK
  go_wp2_with fail
  go_loopw [8, 9] (fun t x wr => ∃ j : Nat, j ≤ 0 ∧ t = .int .i64 (2 + j : Nat) ∧ x = .int .i64 (shd K j : Nat) ∧ wr = w2) (fun t _ _ => 2 - (intOf t).toNat)
  case atStart => exact ⟨0, Nat.zero_le _, rfl, rfl, rfl⟩
  case round =>
    obtain ⟨j, hj, rfl, rfl, hwr⟩ := hrel
    obtain rfl : w2 = wr := hwr.symm
    clear hwr
    have h127 : ¬ 127 < (K : Int) := by omega
    obtain rfl : j = 0 := by omega
    rw [show shd K 0 = K from rfl]
    have hsl := fun W => slice_from W bo 0 2 cap (by omega) (by omega)
    have b1 : w2.cell? ⟨bo, 1, none⟩ = some (.int .u8 (((lenB K).getD 0 0).toNat : Int)) := by
      obtain ⟨b', o', e', _, hc⟩ := HY2.out (by simp)
      cases e'
      have := hc 1 (by rw [HLEN.out]; omega)
      simpa using this
    have hb1 : (((lenB K).getD 0 0).toNat : Int) = K := by rw [HLB.out]; simp; omega
    rw [hb1] at b1
    have B1C := Lib.hid b1
    clear b1 hb1
    go_wp2_with fail
    clear hsl
    go_loopw [10, 52] (fun g i wr => ∃ j : Nat, j ≤ 1 ∧ i = .int .i64 j ∧ g = .int .i64 (bval ((lenB K).take j) : Nat) ∧ wr = w2) (fun _ i _ => 1 - (intOf i).toNat)
    case atStart => exact ⟨0, Nat.zero_le _, rfl, rfl, rfl⟩
    case round =>
      obtain ⟨j, hj, rfl, rfl, hwr⟩ := hrel
      obtain rfl : w2 = wr := hwr.symm
      clear hwr
      by_cases hlt : j < 1
      · have hlb2 : (lenB K).length = 1 := by have := HLEN.out; simpa using this
        obtain ⟨V, hV⟩ : ∃ V, bval ((lenB K).take j) = V := ⟨_, rfl⟩
        have hVb : V < 33554432 := by
          rw [← hV]
          have h1 := bval_lt ((lenB K).take j)
          have h2 : ((lenB K).take j).length ≤ 3 := by rw [List.length_take]; omega
          have h3 : 256 ^ ((lenB K).take j).length ≤ 256 ^ 3 := Nat.pow_le_pow_right (by omega) h2
          have h4 : (256 : Nat) ^ 3 = 16777216 := rfl
          omega
        obtain ⟨x, hx'⟩ : ∃ x, ((lenB K).getD j 0).toNat = x := ⟨_, rfl⟩
        have hx256 : x < 256 := by rw [← hx']; exact UInt8.toNat_lt _
        have hnext : bval ((lenB K).take (j + 1)) = 256 * V + x := by rw [bval_take (by rw [hlb2]; exact hlt), hV, hx']
        have c1 : w2.cell? ⟨bo, 0 + 1 + j, none⟩ = some (.int .u8 (x : Int)) := by
          obtain ⟨b', o', e', _, hc⟩ := HY2.out (by simp)
          cases e'
          have := hc (1 + j) (by rw [HLEN.out]; omega)
          rw [Nat.add_assoc, this, ← hx']
          congr 3
          rw [show 1 + j = j + 1 by omega]
          simp
        rw [show 0 + 1 + j = 1 + j by omega] at c1
        have hor := or_byte32 V x hVb hx256
        have hw1 : wrap64 ((V : Int) * 256) = (V : Int) * 256 := IntWalk.wrap64_in _ (by omega)
        have f1 : IntKind.i64.wrap (x : Int) = x := by rw [IntWalk.i64_left, IntWalk.wrap64_in _ (by omega)]
        rw [← hnext] at hor
        rw [hV]
        clear hx' hV hnext hVb
        go_wp2_with fail
        go_roundw
        case rel => exact ⟨j + 1, hlt, rfl, rfl, trivial⟩
        case measure => simp [intOf]; omega
      · obtain rfl : j = 1 := by omega
        have htk : (lenB K).take 1 = lenB K := List.take_of_length_le (by have := HLEN.out; simp at this; omega)
        rw [htk, HG.out]
        clear htk
        have k1 : (K : Int) < 128 := by omega
        have hmb := bounds_u8 hm
        obtain ⟨mm, rfl⟩ := Int.eq_ofNat_of_zero_le hmb.1
        have f8 : IntKind.u8.wrap ((K : Int) / 256) = 0 := by show ((K : Int) / 256) % 256 = 0; omega
        have f0 : IntKind.u8.wrap (K : Int) = K := by show (K : Int) % 256 = K; omega
        have HA := Lib.hid (app_lit w2 #[.int .u8 4, .int .u8 130, .int .u8 0] #[.int .u8 0, .int .u8 (K : Int), .int .u8 (mm : Int)] [4, 130, 0] [0, .ofNat K, .ofNat mm] rfl (by simp only [cellsOf, List.map_cons, List.map_nil]; rw [u8_nat K (by omega), u8_nat mm (by omega)]; rfl) rfl rfl)
        have HRL := Lib.hid (rdH_long2 (.ofNat K) (.ofNat mm))
        clear hmb hm
        go_wp2_with (at_builtin; refine wpList_append_run _ rfl (.tmp 108) (.tmp 115) 22 rfl rfl rfl HA.out ?_; rintro v2 w3 a2; have A2 := Lib.hid a2; clear a2 HA)
        have own2 := A2.out.1
        obtain ⟨b2, cap2, rfl, -, -⟩ := own_slice own2 (by omega)
        have hc6 : 6 ≤ cap2 := by
          rcases own2.2 with ⟨h0, h1⟩ | ⟨b, cap', cur, h1, _, _, hle, _⟩
          · cases h0
          · cases h1; exact hle
        have B3 := Lib.hid (show Below q w w3 ∧ q ≤ w3.heap.size from ⟨B2.out.1.trans (A2.out.2.1.mono B2.out.2), Nat.le_trans B2.out.2 A2.out.2.2⟩)
        have hr := read_big w3 (HT.out.below B3.out.1 hq0) (some ⟨b2, 0, none⟩) cap2 _ (own_by own2).byt hc6
        rw [HRL.out] at hr
        dsimp only [Hd.agg, Hd.z] at hr
        clear own2 A2 B2 HRL
        refine hr.mono ?_
        rintro e w4 ⟨rfl, hB4⟩
        have hs4 := hB4.size
        have B4 := Lib.hid (show Below q w (w4.alloc (.cells #[.int .i64 0, .int .i64 0, .bool false, .int .i64 0] 24)) from (B3.out.1.trans (hB4.mono B3.out.2)).alloc (by have := B3.out.2; omega) _)
        clear hr hB4 hs4 B3
        go_wp2_with fail
        go_ret
        exact ⟨rfl, B4.out⟩

set_option maxRecDepth 100000 in
set_option maxHeartbeats 4000000 in
theorem dl1 (w : World) (n m : Int) (hm : (Lit.int .u8 m).wf = true) (HT : Hid (Tb w)) (K : Nat) (hK : wrap64 ((IntKind.u64.wrap n).tmod 16777216) = (K : Int)) (hlo : 128 ≤ K) (hhi : K < 256) :
    Calls Tryd.prog 8 #[.int .i64 n, .int .u8 m] w fun e w' => e = .returned (.bool true) ∧ Below w.heap.size w w' := by
  obtain ⟨q, hq⟩ : ∃ q, w.heap.size = q := ⟨_, rfl⟩
  have hq0 : 0 < q := by rw [← hq]; exact HT.out.lt
  have hlb : lenB K = [129, .ofNat K] := by unfold lenB; rw [if_neg (show ¬ K < 128 by omega)]; rw [if_pos hhi]
  have hnd : nd K = 1 := by unfold nd; rw [if_neg (show ¬ K < 128 by omega)]; rw [if_pos hhi]
  have hput := put_yes w HT.out ⟨0, 4, false, (K : Int)⟩ kd04
  have hp : putH ⟨0, 4, false, (K : Int)⟩ = 4 :: lenB K := by show _ :: lenB ((K : Int)).toNat = _; rw [Int.toNat_natCast]; rfl
  have hlen : (4 :: lenB K).length = 3 := by rw [hlb]; rfl
  rw [hp, hlen] at hput
  dsimp only [Hd.agg] at hput
  have hG : bval (lenB K) = 129 * 256 + K := by rw [hlb]; simp [bval]; omega
  have HP := Lib.hid hput
  have HLB := Lib.hid hlb
  have HLEN := Lib.hid hlen
  have HG := Lib.hid hG
  have HND := Lib.hid hnd
  clear hput hlb hlen hp hG hnd
  rw [hq]
  go_enter Tryd.func8, Tryd.ntmps8
  go_wp2_with fail
  refine HP.out.mono ?_
  rintro e w1 ⟨hor, hB1⟩
  rcases hor with ⟨hbad, -⟩ | ⟨-, v, rfl, own, -⟩
  · exact absurd (show 0 ≤ (K : Int) ∧ (K : Int) ≤ 16777215 by omega) hbad
  obtain ⟨bo, cap, rfl, -, -⟩ := own_slice own (by omega)
  have hcap : 3 ≤ cap := by
    rcases own.2 with ⟨h0, h1⟩ | ⟨b, cap', cur, h1, _, _, hle, _⟩
    · cases h0
    · cases h1; exact hle
  have B1 := Lib.hid (show Below q w w1 ∧ q ≤ w1.heap.size from ⟨by rw [← hq]; exact hB1, by rw [← hq]; exact hB1.size⟩)
  have HY1 := Lib.hid (show Byt w1 w1.heap.size (some ⟨bo, 0, none⟩) (4 :: lenB K) from (own_by own).byt)
  clear own hB1 HP
  go_wp2_with fail
  refine (alive9_any w1 (HT.out.below B1.out.1 hq0)).mono ?_
  rintro e w2 ⟨rfl, hB2⟩
  have B2 := Lib.hid (show Below q w w2 ∧ q ≤ w2.heap.size from ⟨B1.out.1.trans (hB2.mono B1.out.2), Nat.le_trans B1.out.2 hB2.size⟩)
  have HY2 := Lib.hid (byt_below HY1.out hB2 (Nat.le_refl _))
  clear hB2 B1 HY1 hK
  go_wp2_with fail
  go_loopw [8, 9] (fun t x wr => ∃ j : Nat, j ≤ 1 ∧ t = .int .i64 (2 + j : Nat) ∧ x = .int .i64 (shd K j : Nat) ∧ wr = w2) (fun t _ _ => 3 - (intOf t).toNat)
  case atStart => exact ⟨0, Nat.zero_le _, rfl, rfl, rfl⟩
  case round =>
    obtain ⟨j, hj, rfl, rfl, hwr⟩ := hrel
    obtain rfl : w2 = wr := hwr.symm
    clear hwr
    have h127 : 127 < (K : Int) := by omega
    by_cases e0 : j = 0
    · subst e0
      have hx : 0 < (K : Int) := by omega
      rw [show shd K 0 = K from rfl]
      go_wp2_with fail
      go_roundw
      case rel => exact ⟨1, by omega, rfl, rfl, trivial⟩
      case measure => simp [intOf]
    obtain rfl : j = 1 := by omega
    rw [show shd K 1 = K / 256 from rfl]
    have hx : (K : Int) / 256 ≤ 0 := by omega
    have hsl := fun W => slice_from W bo 0 3 cap (by omega) (by omega)
    have b1 : w2.cell? ⟨bo, 1, none⟩ = some (.int .u8 (((lenB K).getD 0 0).toNat : Int)) := by
      obtain ⟨b', o', e', _, hc⟩ := HY2.out (by simp)
      cases e'
      have := hc 1 (by rw [HLEN.out]; omega)
      simpa using this
    have hb1 : (((lenB K).getD 0 0).toNat : Int) = 129 := by rw [HLB.out]; simp
    rw [hb1] at b1
    have B1C := Lib.hid b1
    clear b1 hb1
    go_wp2_with fail
    clear hsl
    go_loopw [10, 52] (fun g i wr => ∃ j : Nat, j ≤ 2 ∧ i = .int .i64 j ∧ g = .int .i64 (bval ((lenB K).take j) : Nat) ∧ wr = w2) (fun _ i _ => 2 - (intOf i).toNat)
    case atStart => exact ⟨0, Nat.zero_le _, rfl, rfl, rfl⟩
    case round =>
      obtain ⟨j, hj, rfl, rfl, hwr⟩ := hrel
      obtain rfl : w2 = wr := hwr.symm
      clear hwr
      by_cases hlt : j < 2
      · have hlb2 : (lenB K).length = 2 := by have := HLEN.out; simpa using this
        obtain ⟨V, hV⟩ : ∃ V, bval ((lenB K).take j) = V := ⟨_, rfl⟩
        have hVb : V < 33554432 := by
          rw [← hV]
          have h1 := bval_lt ((lenB K).take j)
          have h2 : ((lenB K).take j).length ≤ 3 := by rw [List.length_take]; omega
          have h3 : 256 ^ ((lenB K).take j).length ≤ 256 ^ 3 := Nat.pow_le_pow_right (by omega) h2
          have h4 : (256 : Nat) ^ 3 = 16777216 := rfl
          omega
        obtain ⟨x, hx'⟩ : ∃ x, ((lenB K).getD j 0).toNat = x := ⟨_, rfl⟩
        have hx256 : x < 256 := by rw [← hx']; exact UInt8.toNat_lt _
        have hnext : bval ((lenB K).take (j + 1)) = 256 * V + x := by rw [bval_take (by rw [hlb2]; exact hlt), hV, hx']
        have c1 : w2.cell? ⟨bo, 0 + 1 + j, none⟩ = some (.int .u8 (x : Int)) := by
          obtain ⟨b', o', e', _, hc⟩ := HY2.out (by simp)
          cases e'
          have := hc (1 + j) (by rw [HLEN.out]; omega)
          rw [Nat.add_assoc, this, ← hx']
          congr 3
          rw [show 1 + j = j + 1 by omega]
          simp
        rw [show 0 + 1 + j = 1 + j by omega] at c1
        have hor := or_byte32 V x hVb hx256
        have hw1 : wrap64 ((V : Int) * 256) = (V : Int) * 256 := IntWalk.wrap64_in _ (by omega)
        have f1 : IntKind.i64.wrap (x : Int) = x := by rw [IntWalk.i64_left, IntWalk.wrap64_in _ (by omega)]
        rw [← hnext] at hor
        rw [hV]
        clear hx' hV hnext hVb
        go_wp2_with fail
        go_roundw
        case rel => exact ⟨j + 1, hlt, rfl, rfl, trivial⟩
        case measure => simp [intOf]; omega
      · obtain rfl : j = 2 := by omega
        have htk : (lenB K).take 2 = lenB K := List.take_of_length_le (by have := HLEN.out; simp at this; omega)
        rw [htk, HG.out]
        clear htk
        have k1 : ¬ (K : Int) < 128 := by omega
        have b1 := B1C.out
        obtain ⟨G, hGG⟩ : ∃ G, 129 * 256 + K = G := ⟨_, rfl⟩
        have hand := and_low1 G K (by omega) (by omega)
        rw [hGG]
        have HGG := Lib.hid hGG
        clear hGG
        have hmb := bounds_u8 hm
        obtain ⟨mm, rfl⟩ := Int.eq_ofNat_of_zero_le hmb.1
        have f8 : IntKind.u8.wrap ((K : Int) / 256) = 0 := by show ((K : Int) / 256) % 256 = 0; omega
        have f0 : IntKind.u8.wrap (K : Int) = K := by show (K : Int) % 256 = K; omega
        have HA := Lib.hid (app_lit w2 #[.int .u8 4, .int .u8 130, .int .u8 0] #[.int .u8 0, .int .u8 (K : Int), .int .u8 (mm : Int)] [4, 130, 0] [0, .ofNat K, .ofNat mm] rfl (by simp only [cellsOf, List.map_cons, List.map_nil]; rw [u8_nat K (by omega), u8_nat mm (by omega)]; rfl) rfl rfl)
        have HRL := Lib.hid (rdH_long2 (.ofNat K) (.ofNat mm))
        clear hmb hm
        go_wp2_with (at_builtin; refine wpList_append_run _ rfl (.tmp 108) (.tmp 115) 22 rfl rfl rfl HA.out ?_; rintro v2 w3 a2; have A2 := Lib.hid a2; clear a2 HA)
        have own2 := A2.out.1
        obtain ⟨b2, cap2, rfl, -, -⟩ := own_slice own2 (by omega)
        have hc6 : 6 ≤ cap2 := by
          rcases own2.2 with ⟨h0, h1⟩ | ⟨b, cap', cur, h1, _, _, hle, _⟩
          · cases h0
          · cases h1; exact hle
        have B3 := Lib.hid (show Below q w w3 ∧ q ≤ w3.heap.size from ⟨B2.out.1.trans (A2.out.2.1.mono B2.out.2), Nat.le_trans B2.out.2 A2.out.2.2⟩)
        have hr := read_big w3 (HT.out.below B3.out.1 hq0) (some ⟨b2, 0, none⟩) cap2 _ (own_by own2).byt hc6
        rw [HRL.out] at hr
        dsimp only [Hd.agg, Hd.z] at hr
        clear own2 A2 B2 HRL
        refine hr.mono ?_
        rintro e w4 ⟨rfl, hB4⟩
        have hs4 := hB4.size
        have B4 := Lib.hid (show Below q w (w4.alloc (.cells #[.int .i64 0, .int .i64 0, .bool false, .int .i64 0] 24)) from (B3.out.1.trans (hB4.mono B3.out.2)).alloc (by have := B3.out.2; omega) _)
        clear hr hB4 hs4 B3
        go_wp2_with fail
        go_ret
        exact ⟨rfl, B4.out⟩

set_option maxRecDepth 100000 in
set_option maxHeartbeats 4000000 in
theorem dl2 (w : World) (n m : Int) (hm : (Lit.int .u8 m).wf = true) (HT : Hid (Tb w)) (K : Nat) (hK : wrap64 ((IntKind.u64.wrap n).tmod 16777216) = (K : Int)) (hlo : 256 ≤ K) (hhi : K < 65536) :
    Calls Tryd.prog 8 #[.int .i64 n, .int .u8 m] w fun e w' => e = .returned (.bool true) ∧ Below w.heap.size w w' := by
  obtain ⟨q, hq⟩ : ∃ q, w.heap.size = q := ⟨_, rfl⟩
  have hq0 : 0 < q := by rw [← hq]; exact HT.out.lt
  have hlb : lenB K = [130, .ofNat (K / 256), .ofNat (K % 256)] := by unfold lenB; rw [if_neg (show ¬ K < 128 by omega)]; rw [if_neg (show ¬ K < 256 by omega)]; rw [if_pos hhi]
  have hnd : nd K = 2 := by unfold nd; rw [if_neg (show ¬ K < 128 by omega)]; rw [if_neg (show ¬ K < 256 by omega)]; rw [if_pos hhi]
  have hput := put_yes w HT.out ⟨0, 4, false, (K : Int)⟩ kd04
  have hp : putH ⟨0, 4, false, (K : Int)⟩ = 4 :: lenB K := by show _ :: lenB ((K : Int)).toNat = _; rw [Int.toNat_natCast]; rfl
  have hlen : (4 :: lenB K).length = 4 := by rw [hlb]; rfl
  rw [hp, hlen] at hput
  dsimp only [Hd.agg] at hput
  have hG : bval (lenB K) = 130 * 65536 + K := by rw [hlb]; simp [bval]; omega
  have HP := Lib.hid hput
  have HLB := Lib.hid hlb
  have HLEN := Lib.hid hlen
  have HG := Lib.hid hG
  have HND := Lib.hid hnd
  clear hput hlb hlen hp hG hnd
  rw [hq]
  go_enter Tryd.func8, Tryd.ntmps8
  go_wp2_with fail
  refine HP.out.mono ?_
  rintro e w1 ⟨hor, hB1⟩
  rcases hor with ⟨hbad, -⟩ | ⟨-, v, rfl, own, -⟩
  · exact absurd (show 0 ≤ (K : Int) ∧ (K : Int) ≤ 16777215 by omega) hbad
  obtain ⟨bo, cap, rfl, -, -⟩ := own_slice own (by omega)
  have hcap : 4 ≤ cap := by
    rcases own.2 with ⟨h0, h1⟩ | ⟨b, cap', cur, h1, _, _, hle, _⟩
    · cases h0
    · cases h1; exact hle
  have B1 := Lib.hid (show Below q w w1 ∧ q ≤ w1.heap.size from ⟨by rw [← hq]; exact hB1, by rw [← hq]; exact hB1.size⟩)
  have HY1 := Lib.hid (show Byt w1 w1.heap.size (some ⟨bo, 0, none⟩) (4 :: lenB K) from (own_by own).byt)
  clear own hB1 HP
  go_wp2_with fail
  refine (alive9_any w1 (HT.out.below B1.out.1 hq0)).mono ?_
  rintro e w2 ⟨rfl, hB2⟩
  have B2 := Lib.hid (show Below q w w2 ∧ q ≤ w2.heap.size from ⟨B1.out.1.trans (hB2.mono B1.out.2), Nat.le_trans B1.out.2 hB2.size⟩)
  have HY2 := Lib.hid (byt_below HY1.out hB2 (Nat.le_refl _))
  clear hB2 B1 HY1 hK
  go_wp2_with fail
  go_loopw [8, 9] (fun t x wr => ∃ j : Nat, j ≤ 2 ∧ t = .int .i64 (2 + j : Nat) ∧ x = .int .i64 (shd K j : Nat) ∧ wr = w2) (fun t _ _ => 4 - (intOf t).toNat)
  case atStart => exact ⟨0, Nat.zero_le _, rfl, rfl, rfl⟩
  case round =>
    obtain ⟨j, hj, rfl, rfl, hwr⟩ := hrel
    obtain rfl : w2 = wr := hwr.symm
    clear hwr
    have h127 : 127 < (K : Int) := by omega
    by_cases e0 : j = 0
    · subst e0
      have hx : 0 < (K : Int) := by omega
      rw [show shd K 0 = K from rfl]
      go_wp2_with fail
      go_roundw
      case rel => exact ⟨1, by omega, rfl, rfl, trivial⟩
      case measure => simp [intOf]
    by_cases e1 : j = 1
    · subst e1
      have hx : 0 < (K : Int) / 256 := by omega
      rw [show shd K 1 = K / 256 from rfl]
      go_wp2_with fail
      go_roundw
      case rel => exact ⟨2, by omega, rfl, rfl, trivial⟩
      case measure => simp [intOf]
    obtain rfl : j = 2 := by omega
    rw [show shd K 2 = K / 256 / 256 from rfl]
    have hx : (K : Int) / 256 / 256 ≤ 0 := by omega
    have hsl := fun W => slice_from W bo 0 4 cap (by omega) (by omega)
    have b1 : w2.cell? ⟨bo, 1, none⟩ = some (.int .u8 (((lenB K).getD 0 0).toNat : Int)) := by
      obtain ⟨b', o', e', _, hc⟩ := HY2.out (by simp)
      cases e'
      have := hc 1 (by rw [HLEN.out]; omega)
      simpa using this
    have hb1 : (((lenB K).getD 0 0).toNat : Int) = 130 := by rw [HLB.out]; simp
    rw [hb1] at b1
    have B1C := Lib.hid b1
    clear b1 hb1
    go_wp2_with fail
    clear hsl
    go_loopw [10, 52] (fun g i wr => ∃ j : Nat, j ≤ 3 ∧ i = .int .i64 j ∧ g = .int .i64 (bval ((lenB K).take j) : Nat) ∧ wr = w2) (fun _ i _ => 3 - (intOf i).toNat)
    case atStart => exact ⟨0, Nat.zero_le _, rfl, rfl, rfl⟩
    case round =>
      obtain ⟨j, hj, rfl, rfl, hwr⟩ := hrel
      obtain rfl : w2 = wr := hwr.symm
      clear hwr
      by_cases hlt : j < 3
      · have hlb2 : (lenB K).length = 3 := by have := HLEN.out; simpa using this
        obtain ⟨V, hV⟩ : ∃ V, bval ((lenB K).take j) = V := ⟨_, rfl⟩
        have hVb : V < 33554432 := by
          rw [← hV]
          have h1 := bval_lt ((lenB K).take j)
          have h2 : ((lenB K).take j).length ≤ 3 := by rw [List.length_take]; omega
          have h3 : 256 ^ ((lenB K).take j).length ≤ 256 ^ 3 := Nat.pow_le_pow_right (by omega) h2
          have h4 : (256 : Nat) ^ 3 = 16777216 := rfl
          omega
        obtain ⟨x, hx'⟩ : ∃ x, ((lenB K).getD j 0).toNat = x := ⟨_, rfl⟩
        have hx256 : x < 256 := by rw [← hx']; exact UInt8.toNat_lt _
        have hnext : bval ((lenB K).take (j + 1)) = 256 * V + x := by rw [bval_take (by rw [hlb2]; exact hlt), hV, hx']
        have c1 : w2.cell? ⟨bo, 0 + 1 + j, none⟩ = some (.int .u8 (x : Int)) := by
          obtain ⟨b', o', e', _, hc⟩ := HY2.out (by simp)
          cases e'
          have := hc (1 + j) (by rw [HLEN.out]; omega)
          rw [Nat.add_assoc, this, ← hx']
          congr 3
          rw [show 1 + j = j + 1 by omega]
          simp
        rw [show 0 + 1 + j = 1 + j by omega] at c1
        have hor := or_byte32 V x hVb hx256
        have hw1 : wrap64 ((V : Int) * 256) = (V : Int) * 256 := IntWalk.wrap64_in _ (by omega)
        have f1 : IntKind.i64.wrap (x : Int) = x := by rw [IntWalk.i64_left, IntWalk.wrap64_in _ (by omega)]
        rw [← hnext] at hor
        rw [hV]
        clear hx' hV hnext hVb
        go_wp2_with fail
        go_roundw
        case rel => exact ⟨j + 1, hlt, rfl, rfl, trivial⟩
        case measure => simp [intOf]; omega
      · obtain rfl : j = 3 := by omega
        have htk : (lenB K).take 3 = lenB K := List.take_of_length_le (by have := HLEN.out; simp at this; omega)
        rw [htk, HG.out]
        clear htk
        have k1 : ¬ (K : Int) < 128 := by omega
        have b1 := B1C.out
        obtain ⟨G, hGG⟩ : ∃ G, 130 * 65536 + K = G := ⟨_, rfl⟩
        have hand := and_low2 G K (by omega) (by omega)
        rw [hGG]
        have HGG := Lib.hid hGG
        clear hGG
        have hmb := bounds_u8 hm
        obtain ⟨mm, rfl⟩ := Int.eq_ofNat_of_zero_le hmb.1
        have f8 : IntKind.u8.wrap ((K : Int) / 256) = (K : Int) / 256 := by show ((K : Int) / 256) % 256 = _; omega
        have f0 : IntKind.u8.wrap (K : Int) = (K : Int) % 256 := rfl
        have HA := Lib.hid (app_lit w2 #[.int .u8 4, .int .u8 131, .int .u8 0] #[.int .u8 ((K : Int) / 256), .int .u8 ((K : Int) % 256), .int .u8 (mm : Int)] [4, 131, 0] [.ofNat (K / 256), .ofNat (K % 256), .ofNat mm] rfl (by simp only [cellsOf, List.map_cons, List.map_nil]; rw [u8_nat (K / 256) (by omega), u8_nat (K % 256) (by omega), u8_nat mm (by omega)]; rfl) rfl rfl)
        have e1 : (UInt8.ofNat (K / 256)).toNat = K / 256 := by simp; omega
        have e2 : (UInt8.ofNat (K % 256)).toNat = K % 256 := by simp
        have HRL := Lib.hid (rdH_long3 (.ofNat (K / 256)) (.ofNat (K % 256)) (.ofNat mm) (by rw [e1, e2, show 256 * (K / 256) + K % 256 = K by omega, HND.out]; exact Nat.le_refl _))
        clear e1 e2
        clear hmb hm
        go_wp2_with (at_builtin; refine wpList_append_run _ rfl (.tmp 108) (.tmp 115) 22 rfl rfl rfl HA.out ?_; rintro v2 w3 a2; have A2 := Lib.hid a2; clear a2 HA)
        have own2 := A2.out.1
        obtain ⟨b2, cap2, rfl, -, -⟩ := own_slice own2 (by omega)
        have hc6 : 6 ≤ cap2 := by
          rcases own2.2 with ⟨h0, h1⟩ | ⟨b, cap', cur, h1, _, _, hle, _⟩
          · cases h0
          · cases h1; exact hle
        have B3 := Lib.hid (show Below q w w3 ∧ q ≤ w3.heap.size from ⟨B2.out.1.trans (A2.out.2.1.mono B2.out.2), Nat.le_trans B2.out.2 A2.out.2.2⟩)
        have hr := read_big w3 (HT.out.below B3.out.1 hq0) (some ⟨b2, 0, none⟩) cap2 _ (own_by own2).byt hc6
        rw [HRL.out] at hr
        dsimp only [Hd.agg, Hd.z] at hr
        clear own2 A2 B2 HRL
        refine hr.mono ?_
        rintro e w4 ⟨rfl, hB4⟩
        have hs4 := hB4.size
        have B4 := Lib.hid (show Below q w (w4.alloc (.cells #[.int .i64 0, .int .i64 0, .bool false, .int .i64 0] 24)) from (B3.out.1.trans (hB4.mono B3.out.2)).alloc (by have := B3.out.2; omega) _)
        clear hr hB4 hs4 B3
        go_wp2_with fail
        go_ret
        exact ⟨rfl, B4.out⟩

set_option maxRecDepth 100000 in
set_option maxHeartbeats 4000000 in
theorem dl3 (w : World) (n m : Int) (_ : (Lit.int .u8 m).wf = true) (HT : Hid (Tb w)) (K : Nat) (hK : wrap64 ((IntKind.u64.wrap n).tmod 16777216) = (K : Int)) (hlo : 65536 ≤ K) (hhi : K < 16777216) :
    Calls Tryd.prog 8 #[.int .i64 n, .int .u8 m] w fun e w' => e = .returned (.bool true) ∧ Below w.heap.size w w' := by
  obtain ⟨q, hq⟩ : ∃ q, w.heap.size = q := ⟨_, rfl⟩
  have hq0 : 0 < q := by rw [← hq]; exact HT.out.lt
  have hlb : lenB K = [131, .ofNat (K / 65536), .ofNat (K / 256 % 256), .ofNat (K % 256)] := by unfold lenB; rw [if_neg (show ¬ K < 128 by omega)]; rw [if_neg (show ¬ K < 256 by omega)]; rw [if_neg (show ¬ K < 65536 by omega)]; skip
  have hnd : nd K = 3 := by unfold nd; rw [if_neg (show ¬ K < 128 by omega)]; rw [if_neg (show ¬ K < 256 by omega)]; rw [if_neg (show ¬ K < 65536 by omega)]; skip
  have hput := put_yes w HT.out ⟨0, 4, false, (K : Int)⟩ kd04
  have hp : putH ⟨0, 4, false, (K : Int)⟩ = 4 :: lenB K := by show _ :: lenB ((K : Int)).toNat = _; rw [Int.toNat_natCast]; rfl
  have hlen : (4 :: lenB K).length = 5 := by rw [hlb]; rfl
  rw [hp, hlen] at hput
  dsimp only [Hd.agg] at hput
  have hG : bval (lenB K) = 131 * 16777216 + K := by rw [hlb]; simp [bval]; omega
  have HP := Lib.hid hput
  have HLB := Lib.hid hlb
  have HLEN := Lib.hid hlen
  have HG := Lib.hid hG
  have HND := Lib.hid hnd
  clear hput hlb hlen hp hG hnd
  rw [hq]
  go_enter Tryd.func8, Tryd.ntmps8
  go_wp2_with fail
  refine HP.out.mono ?_
  rintro e w1 ⟨hor, hB1⟩
  rcases hor with ⟨hbad, -⟩ | ⟨-, v, rfl, own, -⟩
  · exact absurd (show 0 ≤ (K : Int) ∧ (K : Int) ≤ 16777215 by omega) hbad
  obtain ⟨bo, cap, rfl, -, -⟩ := own_slice own (by omega)
  have hcap : 5 ≤ cap := by
    rcases own.2 with ⟨h0, h1⟩ | ⟨b, cap', cur, h1, _, _, hle, _⟩
    · cases h0
    · cases h1; exact hle
  have B1 := Lib.hid (show Below q w w1 ∧ q ≤ w1.heap.size from ⟨by rw [← hq]; exact hB1, by rw [← hq]; exact hB1.size⟩)
  have HY1 := Lib.hid (show Byt w1 w1.heap.size (some ⟨bo, 0, none⟩) (4 :: lenB K) from (own_by own).byt)
  clear own hB1 HP
  go_wp2_with fail
  refine (alive9_any w1 (HT.out.below B1.out.1 hq0)).mono ?_
  rintro e w2 ⟨rfl, hB2⟩
  have B2 := Lib.hid (show Below q w w2 ∧ q ≤ w2.heap.size from ⟨B1.out.1.trans (hB2.mono B1.out.2), Nat.le_trans B1.out.2 hB2.size⟩)
  have HY2 := Lib.hid (byt_below HY1.out hB2 (Nat.le_refl _))
  clear hB2 B1 HY1 hK
  go_wp2_with fail
  go_loopw [8, 9] (fun t x wr => ∃ j : Nat, j ≤ 3 ∧ t = .int .i64 (2 + j : Nat) ∧ x = .int .i64 (shd K j : Nat) ∧ wr = w2) (fun t _ _ => 5 - (intOf t).toNat)
  case atStart => exact ⟨0, Nat.zero_le _, rfl, rfl, rfl⟩
  case round =>
    obtain ⟨j, hj, rfl, rfl, hwr⟩ := hrel
    obtain rfl : w2 = wr := hwr.symm
    clear hwr
    have h127 : 127 < (K : Int) := by omega
    by_cases e0 : j = 0
    · subst e0
      have hx : 0 < (K : Int) := by omega
      rw [show shd K 0 = K from rfl]
      go_wp2_with fail
      go_roundw
      case rel => exact ⟨1, by omega, rfl, rfl, trivial⟩
      case measure => simp [intOf]
    by_cases e1 : j = 1
    · subst e1
      have hx : 0 < (K : Int) / 256 := by omega
      rw [show shd K 1 = K / 256 from rfl]
      go_wp2_with fail
      go_roundw
      case rel => exact ⟨2, by omega, rfl, rfl, trivial⟩
      case measure => simp [intOf]
    by_cases e2 : j = 2
    · subst e2
      have hx : 0 < (K : Int) / 256 / 256 := by omega
      rw [show shd K 2 = K / 256 / 256 from rfl]
      go_wp2_with fail
      go_roundw
      case rel => exact ⟨3, by omega, rfl, rfl, trivial⟩
      case measure => simp [intOf]
    obtain rfl : j = 3 := by omega
    rw [show shd K 3 = K / 256 / 256 / 256 from rfl]
    have hx : (K : Int) / 256 / 256 / 256 ≤ 0 := by omega
    have hsl := fun W => slice_from W bo 0 5 cap (by omega) (by omega)
    have b1 : w2.cell? ⟨bo, 1, none⟩ = some (.int .u8 (((lenB K).getD 0 0).toNat : Int)) := by
      obtain ⟨b', o', e', _, hc⟩ := HY2.out (by simp)
      cases e'
      have := hc 1 (by rw [HLEN.out]; omega)
      simpa using this
    have hb1 : (((lenB K).getD 0 0).toNat : Int) = 131 := by rw [HLB.out]; simp
    rw [hb1] at b1
    have B1C := Lib.hid b1
    clear b1 hb1
    go_wp2_with fail
    clear hsl
    go_loopw [10, 52] (fun g i wr => ∃ j : Nat, j ≤ 4 ∧ i = .int .i64 j ∧ g = .int .i64 (bval ((lenB K).take j) : Nat) ∧ wr = w2) (fun _ i _ => 4 - (intOf i).toNat)
    case atStart => exact ⟨0, Nat.zero_le _, rfl, rfl, rfl⟩
    case round =>
      obtain ⟨j, hj, rfl, rfl, hwr⟩ := hrel
      obtain rfl : w2 = wr := hwr.symm
      clear hwr
      by_cases hlt : j < 4
      · have hlb2 : (lenB K).length = 4 := by have := HLEN.out; simpa using this
        obtain ⟨V, hV⟩ : ∃ V, bval ((lenB K).take j) = V := ⟨_, rfl⟩
        have hVb : V < 33554432 := by
          rw [← hV]
          have h1 := bval_lt ((lenB K).take j)
          have h2 : ((lenB K).take j).length ≤ 3 := by rw [List.length_take]; omega
          have h3 : 256 ^ ((lenB K).take j).length ≤ 256 ^ 3 := Nat.pow_le_pow_right (by omega) h2
          have h4 : (256 : Nat) ^ 3 = 16777216 := rfl
          omega
        obtain ⟨x, hx'⟩ : ∃ x, ((lenB K).getD j 0).toNat = x := ⟨_, rfl⟩
        have hx256 : x < 256 := by rw [← hx']; exact UInt8.toNat_lt _
        have hnext : bval ((lenB K).take (j + 1)) = 256 * V + x := by rw [bval_take (by rw [hlb2]; exact hlt), hV, hx']
        have c1 : w2.cell? ⟨bo, 0 + 1 + j, none⟩ = some (.int .u8 (x : Int)) := by
          obtain ⟨b', o', e', _, hc⟩ := HY2.out (by simp)
          cases e'
          have := hc (1 + j) (by rw [HLEN.out]; omega)
          rw [Nat.add_assoc, this, ← hx']
          congr 3
          rw [show 1 + j = j + 1 by omega]
          simp
        rw [show 0 + 1 + j = 1 + j by omega] at c1
        have hor := or_byte32 V x hVb hx256
        have hw1 : wrap64 ((V : Int) * 256) = (V : Int) * 256 := IntWalk.wrap64_in _ (by omega)
        have f1 : IntKind.i64.wrap (x : Int) = x := by rw [IntWalk.i64_left, IntWalk.wrap64_in _ (by omega)]
        rw [← hnext] at hor
        rw [hV]
        clear hx' hV hnext hVb
        go_wp2_with fail
        go_roundw
        case rel => exact ⟨j + 1, hlt, rfl, rfl, trivial⟩
        case measure => simp [intOf]; omega
      · obtain rfl : j = 4 := by omega
        have htk : (lenB K).take 4 = lenB K := List.take_of_length_le (by have := HLEN.out; simp at this; omega)
        rw [htk, HG.out]
        clear htk
        have k1 : ¬ (K : Int) < 128 := by omega
        have b1 := B1C.out
        obtain ⟨G, hGG⟩ : ∃ G, 131 * 16777216 + K = G := ⟨_, rfl⟩
        have hand := and_low3 G K (by omega) (by omega)
        rw [hGG]
        have HGG := Lib.hid hGG
        clear hGG
        go_wp2_with fail
        go_ret
        exact ⟨rfl, B2.out.1⟩

theorem dertagLengths_walk (w : World) (n : Int) (_ : (Lit.int .i64 n).wf = true) (m : Int) (hm : (Lit.int .u8 m).wf = true) (hL : laidMetH Tryd.prog laidList w) :
    Calls Tryd.prog 8 #[.int .i64 n, .int .u8 m] w fun e w' => e = .returned (.bool true) ∧ Below w.heap.size w w' := by
  have HT := Lib.hid (tb_of_laid hL)
  obtain ⟨K, hK, hlt⟩ := dl_k n
  by_cases h1 : K < 128
  · exact dl0 w n m hm HT K hK h1
  by_cases h2 : K < 256
  · exact dl1 w n m hm HT K hK (by omega) h2
  by_cases h3 : K < 65536
  · exact dl2 w n m hm HT K hK (by omega) h3
  exact dl3 w n m hm HT K hK (by omega) hlt

set_option maxRecDepth 100000 in
theorem dertagLengths_lifted (os : Os) (started : os.Started) (H : Type) (enc : TypeId × Value → H) :
    ReturnsInHanded {} Tryd.checked os 8 .any (fun w args => (Rows.dertagLengthsSpec.pre enc Tryd.prog Tryd.f8 [] false w args ∧ laidMetH Tryd.prog laidList w) ∧ sizedMet enc Tryd.prog Tryd.f8 (OpenSpec.ofChange Rows.dertagLengthsSpec) false w args)
      (Rows.dertagLengthsSpec.post enc Tryd.prog Tryd.f8 false true false false) := by
  refine returnsInHanded_of_change_and (C := Tryd.checked) (X := fun w _ => laidMetH Tryd.prog laidList w) (fun _ _ _ hh h => h.of_heap hh) own started (by kernel_rfl) Tryd.func8
    (ChangeSpec.witness_shaped (enc := enc) (C := Tryd.checked) (os := os) (X := fun w _ => laidMetH Tryd.prog laidList w) false (World.doorLaid Tryd.prog doorSteps os) #[.int .i64 0, .int .u8 0] 8 rfl (World.shaped_of_RefB (by kernel_rfl) (by kernel_rfl)) (by kernel_rfl) (by kernel_rfl) (by kernel_rfl) (door_met os _)) ?_
  intro W base args ds gs before hval0 hW hcnd hsz0 hL _
  have hval : ∀ (j : Nat) t v, Tryd.f8.params[j]? = some t → args[j]? = some v → Value.okWide Tryd.prog W .any base t v := hval0
  have hsz : (DataW.weightsEach Tryd.prog (Tryd.f8.params.toList ++ Rows.dertagLengthsSpec.plain.varTypes Tryd.prog) (ds ++ gs)).all (· ≤ reachBytes) = true := hsz0
  have hW' := hW
  obtain ⟨p, q, hA0, hV, rfl, hfz, hnd⟩ := hW
  have hA : DataW.TrodAll enc Tryd.prog W 0 (fun _ => true) true Tryd.f8.params.toList args.toList ds p := hA0
  rw [Tryd.params8] at hA hval hsz
  obtain ⟨v0, vs0, d0, ds0, p0, q0, hargs, rfl, rfl, h0, r0⟩ := trodAll_cons hA
  obtain ⟨v1, vs1, d1, ds1, p1, q1, rfl, rfl, rfl, h1, r1⟩ := trodAll_cons r0
  obtain ⟨rfl, rfl, rfl⟩ := trodAll_nil r1
  obtain rfl : args = #[v0, v1] := by cases args; simp_all
  obtain ⟨rfl, rfl⟩ := trodVars_none hV
  obtain ⟨a0, rfl, rfl, rfl, w0⟩ := open_int Tryd.underlying3 (hval 0 3 v0 rfl rfl) h0
  obtain ⟨a1, rfl, rfl, rfl, w1⟩ := open_int Tryd.underlying5 (hval 1 5 v1 rfl rfl) h1
  clear hA0 hval0 hsz0
  refine (dertagLengths_walk W a0 w0 a1 w1 hL).mono fun e W' ⟨he, bel⟩ => ?_
  subst he
  exact ⟨_, rfl, _, _, _, [], _, [], hW', trodAll_mk1 (shut_bool Tryd.underlying4 _), (trodAll_cons_mk (shut_int Tryd.underlying3 w0) (trodAll_cons_mk (shut_int Tryd.underlying5 w1) trodAll_mk0)), rfl, bel.frame _, fun h => by cases h⟩

theorem dertagLengths_over : Rows.dertagLengthsRow.holds Tryd.pinned (OpenSpec.ofChange Rows.dertagLengthsSpec) :=
  OpenClaim.holds_of_wide 8 Tryd.f8 rfl rfl rfl rfl rfl rfl rfl ⟨rfl, rfl, rfl, rfl, rfl⟩ rfl rfl rfl rfl rfl (by kernel_rfl) Tryd.func8 (by kernel_rfl)
    (of_decide_eq_true (by kernel_rfl)) (by unfold Func.isWrapper; first | (rw [if_pos (by decide +kernel)]; kernel_rfl) | (rw [if_neg (by decide +kernel)]; exact ⟨rfl, rfl⟩))
    (fun os started H enc _ => dertagLengths_lifted os started H enc)

theorem dertagLengths_holds : Rows.DertagLengthsSaid := dertagLengths_over
#print axioms dertagLengths_holds

/-- The row's card: what it lists of the package's variables is what the program's own text lays there. -/
theorem dertagLengths_card : Rows.DertagLengthsCardSaid :=
  Claim7.holds_tied_plain_at .later [] [.data] true Rows.dertagLengthsCard.stood.harness false
    dertagLengths_holds (fun _ h => by cases h) (by kernel_rfl) (fun _ h => by cases h) dertagLengths_row_tie rfl ⟨rfl, rfl⟩ (by kernel_rfl) rfl
    (fun f fn hf hfn => by
      obtain rfl : f = 8 := Option.some.inj ((show Tryd.prog.funcNamed "passepartout/passepartoutlaw09.DertagLengths" = some 8 by kernel_rfl).symm.trans hf) |>.symm
      obtain rfl : fn = Tryd.f8 := (Option.some.inj (Tryd.func8.symm.trans hfn)).symm
      exact ⟨by kernel_rfl, fun j t ht => by
        rw [Tryd.params8] at ht
        have hm : t ∈ [3, 5] := by simpa using Array.mem_of_getElem? ht
        have hall : ([3, 5].all fun u => !Tryd.prog.wantsStandIn u) = true := by kernel_rfl
        exact (show Tryd.prog.wantsStandIn t = false by simpa using List.all_eq_true.1 hall t hm)⟩)
    (by kernel_rfl)
#print axioms dertagLengths_card
end Go.Proofs.YtbeknillegkidaaDoor

