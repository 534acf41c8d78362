/- The document's own answers of layer 9: Put. -/
import Derived.Test.YtbeknillegkidaaDoorDk
import Derived.Lib.Hide
namespace Go.Proofs.YtbeknillegkidaaDoor
open Go.RowKit

set_option maxRecDepth 100000 in
theorem info_u8 : (Tryd.prog.info? 5).map (fun i => (i.zero, i.size, i.bytes)) = some (some (.int .u8 0), 1, 1) := by kernel_rfl

/-- A new block of bytes is an owned row. -/
theorem own_new (w : World) (cs : Array Value) (xs : List UInt8) (h : cs.toList = cellsOf xs) (hl : xs.length ≤ 100) : (w.alloc (.cells cs 5)).ownsRow 0 5 1 (.slice (some ⟨w.heap.size, 0, none⟩) xs.length xs.length) xs.length (cellsOf xs) := by
  have hs : cs.size = xs.length := by rw [← Array.length_toList, h, cellsOf_length]
  exact ⟨by rw [cellsOf_length]; omega, .inr ⟨w.heap.size, xs.length, cs, rfl, Nat.zero_le _, Whole.new _ _ _, Nat.le_refl _, by unfold maxLen; omega, by omega, by rw [h]; rw [Nat.mul_one, ← cellsOf_length xs, List.take_length]⟩⟩

/-- 'append' of a new row of bytes to a new row of one byte. -/
theorem app_two (w : World) (f : UInt8) (bs : List UInt8) (cs : Array Value) (hcs : cs.toList = cellsOf bs) (hl : bs.length ≤ 100) : ∀ ty, ∃ v' w', (Builtin.append_ #[22, 22] ty #[.slice (some ⟨w.heap.size, 0, none⟩) 1 1, .slice (some ⟨w.heap.size + 1, 0, none⟩) bs.length bs.length]).run Tryd.prog ((w.alloc (.cells #[.int .u8 (f.toNat : Int)] 5)).alloc (.cells cs 5)) = .ok v' w' ∧
    AppLeft ((w.alloc (.cells #[.int .u8 (f.toNat : Int)] 5)).alloc (.cells cs 5)) 5 1 (.slice (some ⟨w.heap.size, 0, none⟩) 1 1) (1 + bs.length) (cellsOf ([f] ++ bs)) v' w' := fun ty => by
  have h1 := own_new w #[.int .u8 (f.toNat : Int)] [f] rfl (by simp)
  have h2 := own_fr h1 ((Fr.refl _ (fun _ => False)).alloc (.cells cs 5)) (fun _ _ h => h)
  have h3 := own_by (own_new (w.alloc (.cells #[.int .u8 (f.toNat : Int)] 5)) cs bs hcs hl)
  rw [World.size_alloc] at h3
  exact append_bytes (P := Tryd.prog) _ 22 ty 5 Tryd.underlying22 info_u8 h2 h3 bs.length (by simp; omega)

theorem u8_nat (n : Nat) (h : n < 256) : ((UInt8.ofNat n).toNat : Int) = n := by simp; omega

set_option maxRecDepth 100000 in
set_option maxHeartbeats 4000000 in
theorem rput_any (w : World) (h : Hd) (hk : kd h.c h.t h.m = true) (h0 : 0 ≤ h.l) (h1 : h.l ≤ 16777215) :
    Calls Tryd.prog 15 #[h.agg] w fun e w' => ∃ v, e = .returned v ∧ w'.ownsRow 0 5 1 v (putH h).length (cellsOf (putH h)) ∧ Below w.heap.size w w' ∧ (∀ k, v.ownBlock = some k → w.heap.size ≤ k) := by
  obtain ⟨c, t, m, l⟩ := h
  obtain ⟨hc, ht0, ht1⟩ := kd_bounds hk
  dsimp only at h0 h1 hc ht0 ht1
  have e1 : wrap64 (64 * c) = 64 * c := IntWalk.wrap64_in _ (by omega)
  have e2 : wrap64 (64 * c + t) = 64 * c + t := IntWalk.wrap64_in _ (by omega)
  have e3 : wrap64 (64 * c + t + 32) = 64 * c + t + 32 := IntWalk.wrap64_in _ (by omega)
  obtain ⟨n, rfl⟩ := Int.eq_ofNat_of_zero_le h0
  clear hk
  have hput : ∀ m, (putH ⟨c, t, m, (n : Int)⟩) = [.ofNat (fb c t m)] ++ lenB n := fun m => rfl
  rw [hput, Hd.agg]
  clear hput
  cases m with
  | false =>
    by_cases l1 : n < 128
    · have l1' : (n : Int) < 128 := by omega
      have hlb : lenB n = [.ofNat n] := by unfold lenB; rw [if_pos (by omega)]
      have ef : ((UInt8.ofNat (fb c t false)).toNat : Int) = 64 * c + t := by rw [u8_nat _ (by unfold fb; simp only [Bool.false_eq_true, if_false]; omega)]; unfold fb; simp only [Bool.false_eq_true, if_false]; omega
      have HA0 := app_two (w.alloc (.cells #[.int .i64 c, .int .i64 t, .bool false, .int .i64 (n : Int)] 28)) (.ofNat (fb c t false)) [.ofNat n] #[.int .u8 (n : Int)] (by simp only [cellsOf, List.map_cons, List.map_nil]; rw [u8_nat (n) (by omega)]; try rfl) (by simp)
      rw [ef, World.size_alloc, ← hlb] at HA0
      have hlen : (lenB n).length = 1 := by rw [hlb]; rfl
      rw [hlen] at HA0
      have HA := Lib.hid HA0
      have HLEN := Lib.hid hlen
      clear HA0 hlen hlb ef l1
      go_enter Tryd.func15, Tryd.ntmps15
      go_wp2_with (at_builtin; refine wpList_append_run _ rfl (.tmp 21) (.tmp 25) 22 rfl rfl rfl HA.out ?_; rintro v' w1 ⟨a1, a2, a3⟩; have A1 := Lib.hid a1; have A2 := Lib.hid a2; have A3 := Lib.hid a3; clear a1 a2 a3)
      go_ret
      refine ⟨v', rfl, ?_, ?_, ?_⟩
      · have := A1.out
        have hl : (lenB n).length + 1 = 1 + 1 := by rw [HLEN.out]
        first | (rw [hl]; exact this) | (show w1.ownsRow 0 5 1 v' ((lenB n).length + 1) _; rw [hl]; exact this)
      · exact grew_below (grew_own (row := none) (p := w.heap.size + 1) (grew_alloc (grew_alloc (grew_alloc (grew_refl w none) _) _) _) A2.out (by omega)) (Nat.le_refl _) (fun _ h => by cases h)
      · intro k hk
        rcases A3.out with h | h
        · rw [hk] at h; simp [Value.ownBlock] at h; omega
        · rw [hk] at h; simp at h; omega
    by_cases l2 : n < 256
    · have l2' : (n : Int) < 256 := by omega
      have j1 : ¬ (n : Int) < 128 := by omega
      have hlb : lenB n = [129, .ofNat n] := by unfold lenB; rw [if_neg (by omega)]; rw [if_pos (by omega)]
      have ef : ((UInt8.ofNat (fb c t false)).toNat : Int) = 64 * c + t := by rw [u8_nat _ (by unfold fb; simp only [Bool.false_eq_true, if_false]; omega)]; unfold fb; simp only [Bool.false_eq_true, if_false]; omega
      have HA0 := app_two (w.alloc (.cells #[.int .i64 c, .int .i64 t, .bool false, .int .i64 (n : Int)] 28)) (.ofNat (fb c t false)) [129, .ofNat n] #[.int .u8 129, .int .u8 (n : Int)] (by simp only [cellsOf, List.map_cons, List.map_nil]; rw [u8_nat (n) (by omega)]; try rfl) (by simp)
      rw [ef, World.size_alloc, ← hlb] at HA0
      have hlen : (lenB n).length = 2 := by rw [hlb]; rfl
      rw [hlen] at HA0
      have HA := Lib.hid HA0
      have HLEN := Lib.hid hlen
      clear HA0 hlen hlb ef l1 l2
      go_enter Tryd.func15, Tryd.ntmps15
      go_wp2_with (at_builtin; refine wpList_append_run _ rfl (.tmp 30) (.tmp 34) 22 rfl rfl rfl HA.out ?_; rintro v' w1 ⟨a1, a2, a3⟩; have A1 := Lib.hid a1; have A2 := Lib.hid a2; have A3 := Lib.hid a3; clear a1 a2 a3)
      go_ret
      refine ⟨v', rfl, ?_, ?_, ?_⟩
      · have := A1.out
        have hl : (lenB n).length + 1 = 1 + 2 := by rw [HLEN.out]
        first | (rw [hl]; exact this) | (show w1.ownsRow 0 5 1 v' ((lenB n).length + 1) _; rw [hl]; exact this)
      · exact grew_below (grew_own (row := none) (p := w.heap.size + 1) (grew_alloc (grew_alloc (grew_alloc (grew_refl w none) _) _) _) A2.out (by omega)) (Nat.le_refl _) (fun _ h => by cases h)
      · intro k hk
        rcases A3.out with h | h
        · rw [hk] at h; simp [Value.ownBlock] at h; omega
        · rw [hk] at h; simp at h; omega
    by_cases l3 : n < 65536
    · have l3' : (n : Int) < 65536 := by omega
      have j1 : ¬ (n : Int) < 128 := by omega
      have j2 : ¬ (n : Int) < 256 := by omega
      have hlb : lenB n = [130, .ofNat (n / 256), .ofNat (n % 256)] := by unfold lenB; rw [if_neg (by omega)]; rw [if_neg (by omega)]; rw [if_pos (by omega)]
      have ef : ((UInt8.ofNat (fb c t false)).toNat : Int) = 64 * c + t := by rw [u8_nat _ (by unfold fb; simp only [Bool.false_eq_true, if_false]; omega)]; unfold fb; simp only [Bool.false_eq_true, if_false]; omega
      have HA0 := app_two (w.alloc (.cells #[.int .i64 c, .int .i64 t, .bool false, .int .i64 (n : Int)] 28)) (.ofNat (fb c t false)) [130, .ofNat (n / 256), .ofNat (n % 256)] #[.int .u8 130, .int .u8 ((n / 256 : Nat) : Int), .int .u8 ((n % 256 : Nat) : Int)] (by simp only [cellsOf, List.map_cons, List.map_nil]; rw [u8_nat (n / 256) (by omega)]; rw [u8_nat (n % 256) (by omega)]; try rfl) (by simp)
      rw [ef, World.size_alloc, ← hlb] at HA0
      have hlen : (lenB n).length = 3 := by rw [hlb]; rfl
      rw [hlen] at HA0
      have HA := Lib.hid HA0
      have HLEN := Lib.hid hlen
      clear HA0 hlen hlb ef l1 l2 l3
      go_enter Tryd.func15, Tryd.ntmps15
      go_wp2_with (at_builtin; refine wpList_append_run _ rfl (.tmp 39) (.tmp 48) 22 rfl rfl rfl HA.out ?_; rintro v' w1 ⟨a1, a2, a3⟩; have A1 := Lib.hid a1; have A2 := Lib.hid a2; have A3 := Lib.hid a3; clear a1 a2 a3)
      go_ret
      refine ⟨v', rfl, ?_, ?_, ?_⟩
      · have := A1.out
        have hl : (lenB n).length + 1 = 1 + 3 := by rw [HLEN.out]
        first | (rw [hl]; exact this) | (show w1.ownsRow 0 5 1 v' ((lenB n).length + 1) _; rw [hl]; exact this)
      · exact grew_below (grew_own (row := none) (p := w.heap.size + 1) (grew_alloc (grew_alloc (grew_alloc (grew_refl w none) _) _) _) A2.out (by omega)) (Nat.le_refl _) (fun _ h => by cases h)
      · intro k hk
        rcases A3.out with h | h
        · rw [hk] at h; simp [Value.ownBlock] at h; omega
        · rw [hk] at h; simp at h; omega
    have j1 : ¬ (n : Int) < 128 := by omega
    have j2 : ¬ (n : Int) < 256 := by omega
    have j3 : ¬ (n : Int) < 65536 := by omega
    have hlb : lenB n = [131, .ofNat (n / 65536), .ofNat (n / 256 % 256), .ofNat (n % 256)] := by unfold lenB; rw [if_neg (by omega)]; rw [if_neg (by omega)]; rw [if_neg (by omega)]
    have ef : ((UInt8.ofNat (fb c t false)).toNat : Int) = 64 * c + t := by rw [u8_nat _ (by unfold fb; simp only [Bool.false_eq_true, if_false]; omega)]; unfold fb; simp only [Bool.false_eq_true, if_false]; omega
    have HA0 := app_two (w.alloc (.cells #[.int .i64 c, .int .i64 t, .bool false, .int .i64 (n : Int)] 28)) (.ofNat (fb c t false)) [131, .ofNat (n / 65536), .ofNat (n / 256 % 256), .ofNat (n % 256)] #[.int .u8 131, .int .u8 ((n / 65536 : Nat) : Int), .int .u8 ((n / 256 % 256 : Nat) : Int), .int .u8 ((n % 256 : Nat) : Int)] (by simp only [cellsOf, List.map_cons, List.map_nil]; rw [u8_nat (n / 65536) (by omega)]; rw [u8_nat (n / 256 % 256) (by omega)]; rw [u8_nat (n % 256) (by omega)]; try rfl) (by simp)
    rw [ef, World.size_alloc, ← hlb] at HA0
    have hlen : (lenB n).length = 4 := by rw [hlb]; rfl
    rw [hlen] at HA0
    have HA := Lib.hid HA0
    have HLEN := Lib.hid hlen
    clear HA0 hlen hlb ef l1 l2 l3
    go_enter Tryd.func15, Tryd.ntmps15
    go_wp2_with (at_builtin; refine wpList_append_run _ rfl (.tmp 50) (.tmp 64) 22 rfl rfl rfl HA.out ?_; rintro v' w1 ⟨a1, a2, a3⟩; have A1 := Lib.hid a1; have A2 := Lib.hid a2; have A3 := Lib.hid a3; clear a1 a2 a3)
    go_ret
    refine ⟨v', rfl, ?_, ?_, ?_⟩
    · have := A1.out
      have hl : (lenB n).length + 1 = 1 + 4 := by rw [HLEN.out]
      first | (rw [hl]; exact this) | (show w1.ownsRow 0 5 1 v' ((lenB n).length + 1) _; rw [hl]; exact this)
    · exact grew_below (grew_own (row := none) (p := w.heap.size + 1) (grew_alloc (grew_alloc (grew_alloc (grew_refl w none) _) _) _) A2.out (by omega)) (Nat.le_refl _) (fun _ h => by cases h)
    · intro k hk
      rcases A3.out with h | h
      · rw [hk] at h; simp [Value.ownBlock] at h; omega
      · rw [hk] at h; simp at h; omega
  | true =>
    by_cases l1 : n < 128
    · have l1' : (n : Int) < 128 := by omega
      have hlb : lenB n = [.ofNat n] := by unfold lenB; rw [if_pos (by omega)]
      have ef : ((UInt8.ofNat (fb c t true)).toNat : Int) = 64 * c + t + 32 := by rw [u8_nat _ (by unfold fb; simp only [if_true]; omega)]; unfold fb; simp only [if_true]; omega
      have HA0 := app_two (w.alloc (.cells #[.int .i64 c, .int .i64 t, .bool true, .int .i64 (n : Int)] 28)) (.ofNat (fb c t true)) [.ofNat n] #[.int .u8 (n : Int)] (by simp only [cellsOf, List.map_cons, List.map_nil]; rw [u8_nat (n) (by omega)]; try rfl) (by simp)
      rw [ef, World.size_alloc, ← hlb] at HA0
      have hlen : (lenB n).length = 1 := by rw [hlb]; rfl
      rw [hlen] at HA0
      have HA := Lib.hid HA0
      have HLEN := Lib.hid hlen
      clear HA0 hlen hlb ef l1
      go_enter Tryd.func15, Tryd.ntmps15
      go_wp2_with (at_builtin; refine wpList_append_run _ rfl (.tmp 21) (.tmp 25) 22 rfl rfl rfl HA.out ?_; rintro v' w1 ⟨a1, a2, a3⟩; have A1 := Lib.hid a1; have A2 := Lib.hid a2; have A3 := Lib.hid a3; clear a1 a2 a3)
      go_ret
      refine ⟨v', rfl, ?_, ?_, ?_⟩
      · have := A1.out
        have hl : (lenB n).length + 1 = 1 + 1 := by rw [HLEN.out]
        first | (rw [hl]; exact this) | (show w1.ownsRow 0 5 1 v' ((lenB n).length + 1) _; rw [hl]; exact this)
      · exact grew_below (grew_own (row := none) (p := w.heap.size + 1) (grew_alloc (grew_alloc (grew_alloc (grew_refl w none) _) _) _) A2.out (by omega)) (Nat.le_refl _) (fun _ h => by cases h)
      · intro k hk
        rcases A3.out with h | h
        · rw [hk] at h; simp [Value.ownBlock] at h; omega
        · rw [hk] at h; simp at h; omega
    by_cases l2 : n < 256
    · have l2' : (n : Int) < 256 := by omega
      have j1 : ¬ (n : Int) < 128 := by omega
      have hlb : lenB n = [129, .ofNat n] := by unfold lenB; rw [if_neg (by omega)]; rw [if_pos (by omega)]
      have ef : ((UInt8.ofNat (fb c t true)).toNat : Int) = 64 * c + t + 32 := by rw [u8_nat _ (by unfold fb; simp only [if_true]; omega)]; unfold fb; simp only [if_true]; omega
      have HA0 := app_two (w.alloc (.cells #[.int .i64 c, .int .i64 t, .bool true, .int .i64 (n : Int)] 28)) (.ofNat (fb c t true)) [129, .ofNat n] #[.int .u8 129, .int .u8 (n : Int)] (by simp only [cellsOf, List.map_cons, List.map_nil]; rw [u8_nat (n) (by omega)]; try rfl) (by simp)
      rw [ef, World.size_alloc, ← hlb] at HA0
      have hlen : (lenB n).length = 2 := by rw [hlb]; rfl
      rw [hlen] at HA0
      have HA := Lib.hid HA0
      have HLEN := Lib.hid hlen
      clear HA0 hlen hlb ef l1 l2
      go_enter Tryd.func15, Tryd.ntmps15
      go_wp2_with (at_builtin; refine wpList_append_run _ rfl (.tmp 30) (.tmp 34) 22 rfl rfl rfl HA.out ?_; rintro v' w1 ⟨a1, a2, a3⟩; have A1 := Lib.hid a1; have A2 := Lib.hid a2; have A3 := Lib.hid a3; clear a1 a2 a3)
      go_ret
      refine ⟨v', rfl, ?_, ?_, ?_⟩
      · have := A1.out
        have hl : (lenB n).length + 1 = 1 + 2 := by rw [HLEN.out]
        first | (rw [hl]; exact this) | (show w1.ownsRow 0 5 1 v' ((lenB n).length + 1) _; rw [hl]; exact this)
      · exact grew_below (grew_own (row := none) (p := w.heap.size + 1) (grew_alloc (grew_alloc (grew_alloc (grew_refl w none) _) _) _) A2.out (by omega)) (Nat.le_refl _) (fun _ h => by cases h)
      · intro k hk
        rcases A3.out with h | h
        · rw [hk] at h; simp [Value.ownBlock] at h; omega
        · rw [hk] at h; simp at h; omega
    by_cases l3 : n < 65536
    · have l3' : (n : Int) < 65536 := by omega
      have j1 : ¬ (n : Int) < 128 := by omega
      have j2 : ¬ (n : Int) < 256 := by omega
      have hlb : lenB n = [130, .ofNat (n / 256), .ofNat (n % 256)] := by unfold lenB; rw [if_neg (by omega)]; rw [if_neg (by omega)]; rw [if_pos (by omega)]
      have ef : ((UInt8.ofNat (fb c t true)).toNat : Int) = 64 * c + t + 32 := by rw [u8_nat _ (by unfold fb; simp only [if_true]; omega)]; unfold fb; simp only [if_true]; omega
      have HA0 := app_two (w.alloc (.cells #[.int .i64 c, .int .i64 t, .bool true, .int .i64 (n : Int)] 28)) (.ofNat (fb c t true)) [130, .ofNat (n / 256), .ofNat (n % 256)] #[.int .u8 130, .int .u8 ((n / 256 : Nat) : Int), .int .u8 ((n % 256 : Nat) : Int)] (by simp only [cellsOf, List.map_cons, List.map_nil]; rw [u8_nat (n / 256) (by omega)]; rw [u8_nat (n % 256) (by omega)]; try rfl) (by simp)
      rw [ef, World.size_alloc, ← hlb] at HA0
      have hlen : (lenB n).length = 3 := by rw [hlb]; rfl
      rw [hlen] at HA0
      have HA := Lib.hid HA0
      have HLEN := Lib.hid hlen
      clear HA0 hlen hlb ef l1 l2 l3
      go_enter Tryd.func15, Tryd.ntmps15
      go_wp2_with (at_builtin; refine wpList_append_run _ rfl (.tmp 39) (.tmp 48) 22 rfl rfl rfl HA.out ?_; rintro v' w1 ⟨a1, a2, a3⟩; have A1 := Lib.hid a1; have A2 := Lib.hid a2; have A3 := Lib.hid a3; clear a1 a2 a3)
      go_ret
      refine ⟨v', rfl, ?_, ?_, ?_⟩
      · have := A1.out
        have hl : (lenB n).length + 1 = 1 + 3 := by rw [HLEN.out]
        first | (rw [hl]; exact this) | (show w1.ownsRow 0 5 1 v' ((lenB n).length + 1) _; rw [hl]; exact this)
      · exact grew_below (grew_own (row := none) (p := w.heap.size + 1) (grew_alloc (grew_alloc (grew_alloc (grew_refl w none) _) _) _) A2.out (by omega)) (Nat.le_refl _) (fun _ h => by cases h)
      · intro k hk
        rcases A3.out with h | h
        · rw [hk] at h; simp [Value.ownBlock] at h; omega
        · rw [hk] at h; simp at h; omega
    have j1 : ¬ (n : Int) < 128 := by omega
    have j2 : ¬ (n : Int) < 256 := by omega
    have j3 : ¬ (n : Int) < 65536 := by omega
    have hlb : lenB n = [131, .ofNat (n / 65536), .ofNat (n / 256 % 256), .ofNat (n % 256)] := by unfold lenB; rw [if_neg (by omega)]; rw [if_neg (by omega)]; rw [if_neg (by omega)]
    have ef : ((UInt8.ofNat (fb c t true)).toNat : Int) = 64 * c + t + 32 := by rw [u8_nat _ (by unfold fb; simp only [if_true]; omega)]; unfold fb; simp only [if_true]; omega
    have HA0 := app_two (w.alloc (.cells #[.int .i64 c, .int .i64 t, .bool true, .int .i64 (n : Int)] 28)) (.ofNat (fb c t true)) [131, .ofNat (n / 65536), .ofNat (n / 256 % 256), .ofNat (n % 256)] #[.int .u8 131, .int .u8 ((n / 65536 : Nat) : Int), .int .u8 ((n / 256 % 256 : Nat) : Int), .int .u8 ((n % 256 : Nat) : Int)] (by simp only [cellsOf, List.map_cons, List.map_nil]; rw [u8_nat (n / 65536) (by omega)]; rw [u8_nat (n / 256 % 256) (by omega)]; rw [u8_nat (n % 256) (by omega)]; try rfl) (by simp)
    rw [ef, World.size_alloc, ← hlb] at HA0
    have hlen : (lenB n).length = 4 := by rw [hlb]; rfl
    rw [hlen] at HA0
    have HA := Lib.hid HA0
    have HLEN := Lib.hid hlen
    clear HA0 hlen hlb ef l1 l2 l3
    go_enter Tryd.func15, Tryd.ntmps15
    go_wp2_with (at_builtin; refine wpList_append_run _ rfl (.tmp 50) (.tmp 64) 22 rfl rfl rfl HA.out ?_; rintro v' w1 ⟨a1, a2, a3⟩; have A1 := Lib.hid a1; have A2 := Lib.hid a2; have A3 := Lib.hid a3; clear a1 a2 a3)
    go_ret
    refine ⟨v', rfl, ?_, ?_, ?_⟩
    · have := A1.out
      have hl : (lenB n).length + 1 = 1 + 4 := by rw [HLEN.out]
      first | (rw [hl]; exact this) | (show w1.ownsRow 0 5 1 v' ((lenB n).length + 1) _; rw [hl]; exact this)
    · exact grew_below (grew_own (row := none) (p := w.heap.size + 1) (grew_alloc (grew_alloc (grew_alloc (grew_refl w none) _) _) _) A2.out (by omega)) (Nat.le_refl _) (fun _ h => by cases h)
    · intro k hk
      rcases A3.out with h | h
      · rw [hk] at h; simp [Value.ownBlock] at h; omega
      · rw [hk] at h; simp at h; omega
end Go.Proofs.YtbeknillegkidaaDoor

