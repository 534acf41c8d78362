/- Sizes of values: the small calls. -/
import Derived.Test.YtibbeodcheefaaaQ12
import Derived.Test.YtibbeodcheefaaaQ4
import Derived.Test.YtibbeodcheefaaaQ8
import Derived.Laws.ShiftsVar
import Derived.Test.YtibbeodcheefaaaQ1
import Derived.OrdersHeld
import Derived.Deep.RegionHeld
namespace Go.Proofs.Ytibbeodcheefaaa
open Go.RowKit Va

set_option maxRecDepth 100000 in
theorem vret_bool {a b : Bool} (h : a = b) : Ending.returned (.bool a) = .returned (.bool b) := by rw [h]
/-- A pair of numbers, as a call hands it out. -/
def two (r : Int × Int) : Value := .tuple #[.int .i64 r.1, .int .i64 r.2]

set_option maxRecDepth 100000 in
theorem filled_any (w : World) (v : Va) (o : Nat) (ho : o = 0 ∨ o = 1 ∨ o = 2) :
    Calls Try.prog 99 #[v.val, .int .i64 o] w fun e w' => e = .returned (.bool (fil v o)) ∧ Grew w w' none := by
  rw [vval_eq]
  have h0 : fil v 0 = decide (v.n ≠ 0) := rfl
  have h1 : fil v 1 = decide (0 < v.bs.length) := rfl
  have h2 : fil v 2 = decide (0 < v.ls.length) := rfl
  have H0 := Lib.hid h0
  have H1 := Lib.hid h1
  have H2 := Lib.hid h2
  clear h0 h1 h2
  rcases ho with rfl | rfl | rfl
  · go_enter Try.func99, Try.ntmps99
    go_wp2_with fail
    go_ret
    exact ⟨vret_bool (by rw [H0.out]; by_cases h : v.n = 0 <;> simp [h]), grew_alloc (grew_refl _ _) _⟩
  · go_enter Try.func99, Try.ntmps99
    go_wp2_with fail
    go_ret
    exact ⟨vret_bool (by rw [H1.out]), grew_alloc (grew_refl _ _) _⟩
  · go_enter Try.func99, Try.ntmps99
    go_wp2_with fail
    go_ret
    exact ⟨vret_bool (by rw [H2.out]), grew_alloc (grew_refl _ _) _⟩

set_option maxRecDepth 100000 in
theorem lone_true {v : Va} {o : Nat} (h : ∀ j, j < 3 → j ≠ o → fil v j = false) : lonB v o = true := by
  unfold lonB
  by_cases h0 : o = 0
  · subst h0; simp [h 1 (by omega) (by omega), h 2 (by omega) (by omega)]
  · by_cases h1 : o = 1
    · subst h1; simp [h 0 (by omega) (by omega), h 2 (by omega) (by omega)]
    · by_cases h2 : o = 2
      · subst h2; simp [h 0 (by omega) (by omega), h 1 (by omega) (by omega)]
      · simp [h 0 (by omega) (by omega), h 1 (by omega) (by omega), h 2 (by omega) (by omega)]
set_option maxRecDepth 100000 in
theorem lone_false {v : Va} {o j : Nat} (hj : j < 3) (hne : j ≠ o) (h : fil v j = true) : lonB v o = false := by
  unfold lonB
  have key : j = 0 ∨ j = 1 ∨ j = 2 := by omega
  rcases key with rfl | rfl | rfl
  · have : (o == 0) = false := by simp; omega
    rw [this, h]; rfl
  · have : (o == 1) = false := by simp; omega
    rw [this, h]; simp
  · have : (o == 2) = false := by simp; omega
    rw [this, h]; simp

set_option maxRecDepth 100000 in
set_option maxHeartbeats 1000000 in
theorem valone_any (w : World) (v : Va) (o : Nat) (ho : o < 3) :
    Calls Try.prog 78 #[v.val, .int .i64 o] w fun e w' => e = .returned (.bool (lonB v o)) ∧ Grew w w' none := by
  rw [vval_eq]
  have HW := Lib.hid (Whole.new w #[.int .u64 v.n, .slice v.B v.bs.length v.d, .slice v.A v.ls.length v.c] 29)
  have HR := Lib.hid (show Grew w (w.alloc (.cells #[.int .u64 v.n, .slice v.B v.bs.length v.d, .slice v.A v.ls.length v.c] 29)) none ∧ Whole (w.alloc (.cells #[.int .u64 v.n, .slice v.B v.bs.length v.d, .slice v.A v.ls.length v.c] 29)) w.heap.size #[.int .u64 v.n, .slice v.B v.bs.length v.d, .slice v.A v.ls.length v.c] 29 ∧ ∀ j, j < 0 → j ≠ o → fil v j = false from ⟨grew_alloc (grew_refl _ _) _, Whole.new _ _ _, fun j hj => by omega⟩)
  clear HW
  go_enter Try.func78, Try.ntmps78
  go_wp2_with fail
  generalize w.alloc (.cells #[.int .u64 v.n, .slice v.B v.bs.length v.d, .slice v.A v.ls.length v.c] 29) = W0 at *
  generalize w.heap.size = q at *
  go_loopw [6] (fun i wr => ∃ (n : Nat), n ≤ 3 ∧ i = .int .i64 n ∧ Hid (Grew w wr none ∧ Whole wr q #[.int .u64 v.n, .slice v.B v.bs.length v.d, .slice v.A v.ls.length v.c] 29 ∧ ∀ j, j < n → j ≠ o → fil v j = false)) (fun i _ => 3 - (intOf i).toNat)
  case atStart => exact ⟨0, by omega, rfl, HR⟩
  case round =>
    obtain ⟨n, hn, rfl, R⟩ := hrel
    by_cases hlt : n < 3
    · by_cases hno : n = o
      · subst hno
        have HR2 := Lib.hid (show Grew w wr none ∧ Whole wr q #[.int .u64 v.n, .slice v.B v.bs.length v.d, .slice v.A v.ls.length v.c] 29 ∧ ∀ j, j < n + 1 → j ≠ n → fil v j = false from ⟨R.out.1, R.out.2.1, fun j hj hjn => R.out.2.2 j (by omega) hjn⟩)
        clear R
        go_wp2_with fail
        go_roundw
        case rel => exact ⟨n + 1, by omega, by go_num, HR2⟩
        case measure => simp [intOf]; omega
      · have hb : ((n : Int) != (o : Int)) = true := by simp; omega
        obtain ⟨c0, c1, c2⟩ := R.out.2.1.three
        go_wp2_with fail
        refine (filled_any _ v n (by omega)).mono ?_
        rintro e w2 ⟨rfl, g2⟩
        cases hf : fil v n with
        | true =>
          have HE := Lib.hid (lone_false (by omega) hno hf)
          have HG := Lib.hid (grew_trans R.out.1 g2)
          clear hf g2 R c0 c1 c2 hno
          go_wp2_with fail
          go_ret
          exact ⟨by rw [HE.out]; rfl, HG.out⟩
        | false =>
          have HR2 := Lib.hid (show Grew w w2 none ∧ Whole w2 q #[.int .u64 v.n, .slice v.B v.bs.length v.d, .slice v.A v.ls.length v.c] 29 ∧ ∀ j, j < n + 1 → j ≠ o → fil v j = false from ⟨grew_trans R.out.1 g2, R.out.2.1.grew g2 (by simp), fun j hj hjn => by
            by_cases h : j = n
            · subst h; exact hf
            · exact R.out.2.2 j (by omega) hjn⟩)
          clear hf g2 R c0 c1 c2 hno
          go_wp2_with fail
          go_roundw
          case rel => exact ⟨n + 1, by omega, by go_num, HR2⟩
          case measure => simp [intOf]; omega
    · have HE := Lib.hid (lone_true (v := v) (o := o) (fun j hj hjo => R.out.2.2 j (by omega) hjo))
      have HG := Lib.hid R.out.1
      clear R
      go_wp2_with fail
      go_ret
      exact ⟨by rw [HE.out]; rfl, HG.out⟩

set_option maxRecDepth 100000 in
theorem sizeNumber_any (w : World) (k s l h t x : Int) (A : Option Addr) (m c : Nat) (hs : s = 1 ∨ s = 2 ∨ s = 3 ∨ s = 4 ∨ s = 8) (h0 : 0 ≤ x) (h1 : x ≤ 18446744073709551615) :
    Calls Try.prog 79 #[.agg #[.int .i64 k, .int .i64 s, .int .i64 l, .int .i64 h, .int .i64 t, .slice A m c], .int .u64 x] w fun e w' => e = .returned (two (if x < 256 ^ s.toNat then (s, 0) else (0, 3))) ∧ Grew w w' none := by
  rcases hs with rfl | rfl | rfl | rfl | rfl
  · by_cases hx : x < 256
    · rw [if_pos (show x < 256 ^ Int.toNat 1 from hx)]
      have hb : (x / 256 != 0) = false := by simp; omega
      clear hx
      go_enter Try.func79, Try.ntmps79
      go_wp2_with fail
      go_ret2
      exact ⟨rfl, grew_alloc (grew_refl _ _) _⟩
    · rw [if_neg (show ¬ x < 256 ^ Int.toNat 1 from hx)]
      have hb : (x / 256 != 0) = true := by simp; omega
      clear hx
      go_enter Try.func79, Try.ntmps79
      go_wp2_with fail
      go_ret2
      exact ⟨rfl, grew_alloc (grew_refl _ _) _⟩
  · by_cases hx : x < 65536
    · rw [if_pos (show x < 256 ^ Int.toNat 2 from hx)]
      have hb : (x / 65536 != 0) = false := by simp; omega
      clear hx
      go_enter Try.func79, Try.ntmps79
      go_wp2_with fail
      go_ret2
      exact ⟨rfl, grew_alloc (grew_refl _ _) _⟩
    · rw [if_neg (show ¬ x < 256 ^ Int.toNat 2 from hx)]
      have hb : (x / 65536 != 0) = true := by simp; omega
      clear hx
      go_enter Try.func79, Try.ntmps79
      go_wp2_with fail
      go_ret2
      exact ⟨rfl, grew_alloc (grew_refl _ _) _⟩
  · by_cases hx : x < 16777216
    · rw [if_pos (show x < 256 ^ Int.toNat 3 from hx)]
      have hb : (x / 16777216 != 0) = false := by simp; omega
      clear hx
      go_enter Try.func79, Try.ntmps79
      go_wp2_with fail
      go_ret2
      exact ⟨rfl, grew_alloc (grew_refl _ _) _⟩
    · rw [if_neg (show ¬ x < 256 ^ Int.toNat 3 from hx)]
      have hb : (x / 16777216 != 0) = true := by simp; omega
      clear hx
      go_enter Try.func79, Try.ntmps79
      go_wp2_with fail
      go_ret2
      exact ⟨rfl, grew_alloc (grew_refl _ _) _⟩
  · by_cases hx : x < 4294967296
    · rw [if_pos (show x < 256 ^ Int.toNat 4 from hx)]
      have hb : (x / 4294967296 != 0) = false := by simp; omega
      clear hx
      go_enter Try.func79, Try.ntmps79
      go_wp2_with fail
      go_ret2
      exact ⟨rfl, grew_alloc (grew_refl _ _) _⟩
    · rw [if_neg (show ¬ x < 256 ^ Int.toNat 4 from hx)]
      have hb : (x / 4294967296 != 0) = true := by simp; omega
      clear hx
      go_enter Try.func79, Try.ntmps79
      go_wp2_with fail
      go_ret2
      exact ⟨rfl, grew_alloc (grew_refl _ _) _⟩
  · have hx : x < 18446744073709551616 := by omega
    rw [if_pos (show x < 256 ^ Int.toNat 8 from hx)]
    have hb : (x / 18446744073709551616 != 0) = false := by simp; omega
    clear hx
    go_enter Try.func79, Try.ntmps79
    go_wp2_with fail
    go_ret2
    exact ⟨rfl, grew_alloc (grew_refl _ _) _⟩

set_option maxRecDepth 100000 in
theorem sizeLength_any (w : World) (k s l h t n : Int) (A : Option Addr) (m c : Nat) (ht : 1 ≤ t) (hl : 0 ≤ l) (hs : 1 ≤ s ∧ s ≤ 3) (hh : h ≤ 16777215) :
    Calls Try.prog 100 #[.agg #[.int .i64 k, .int .i64 s, .int .i64 l, .int .i64 h, .int .i64 t, .slice A m c], .int .i64 n] w fun e w' => e = .returned (two (wl s l h t n)) ∧ Grew w w' none := by
  by_cases a : n < l
  · have HE := Lib.hid (show wl s l h t n = (0, 5) by unfold wl; rw [if_neg (by omega)])
    go_enter Try.func100, Try.ntmps100
    go_wp2_with fail
    go_ret2
    exact ⟨by rw [HE.out]; rfl, grew_alloc (grew_refl _ _) _⟩
  · by_cases b : h < n
    · have HE := Lib.hid (show wl s l h t n = (0, 5) by unfold wl; rw [if_neg (by omega)])
      go_enter Try.func100, Try.ntmps100
      go_wp2_with fail
      go_ret2
      exact ⟨by rw [HE.out]; rfl, grew_alloc (grew_refl _ _) _⟩
    · have n0 : 0 ≤ n := by omega
      by_cases d : n % t = 0
      · have HE := Lib.hid (show wl s l h t n = (s + n, 0) by unfold wl; rw [if_pos (by omega)]; rw [Fo.plus, IntWalk.wrap64_in _ (by omega)])
        go_enter Try.func100, Try.ntmps100
        go_wp2_with fail
        go_ret2
        exact ⟨by rw [HE.out]; rfl, grew_alloc (grew_refl _ _) _⟩
      · have HE := Lib.hid (show wl s l h t n = (0, 5) by unfold wl; rw [if_neg (by omega)])
        go_enter Try.func100, Try.ntmps100
        go_wp2_with fail
        go_ret2
        exact ⟨by rw [HE.out]; rfl, grew_alloc (grew_refl _ _) _⟩
end Go.Proofs.Ytibbeodcheefaaa


/- Sizes of values: bytes, lists, rows, and all. -/
namespace Go.Proofs.Ytibbeodcheefaaa
open Go.RowKit Va

set_option maxRecDepth 100000 in
theorem right12 {k s l h t : Int} {n : Nat} (hk : k = 1 ∨ k = 2) (h0 : Fo.alone k s l h t n = 0) : (1 ≤ s ∧ s ≤ 3) ∧ 0 ≤ l ∧ l ≤ h ∧ h ≤ 16777215 ∧ 1 ≤ t ∧ t ≤ 65536 ∧ (k = 2 → n = 1) := by
  unfold Fo.alone at h0
  rw [if_neg (by omega), if_neg (by omega), if_neg (by omega), if_pos hk] at h0
  by_cases hs : 1 ≤ s ∧ s ≤ 3
  · rw [if_pos hs] at h0
    by_cases hb : 0 ≤ l ∧ l ≤ h ∧ h ≤ 256 ^ s.toNat - 1 ∧ 1 ≤ t ∧ t ≤ 65536
    · rw [if_pos hb] at h0
      have hh : h ≤ 16777215 := by
        have key : s = 1 ∨ s = 2 ∨ s = 3 := by omega
        rcases key with rfl | rfl | rfl
        · have := hb.2.2.1; simp at this; omega
        · have := hb.2.2.1; simp at this; omega
        · have := hb.2.2.1; simp at this; omega
      refine ⟨hs, hb.1, hb.2.1, hh, hb.2.2.2.1, hb.2.2.2.2, fun h2 => ?_⟩
      by_cases hn : n = 1
      · exact hn
      · rw [if_pos ⟨h2, hn⟩] at h0; omega
    · rw [if_neg hb] at h0; omega
  · rw [if_neg hs] at h0; omega

set_option maxRecDepth 100000 in
theorem sizeBytes_any (w : World) (k s l h t : Int) (n : Nat) (A : Option Addr) (m c : Nat) (hk : k = 1 ∨ k = 4 ∨ k = 5) (h0 : Fo.alone k s l h t m = 0) (_hn : n ≤ 140737488355328) :
    Calls Try.prog 80 #[.agg #[.int .i64 k, .int .i64 s, .int .i64 l, .int .i64 h, .int .i64 t, .slice A m c], .int .i64 n] w fun e w' => e = .returned (two (fitB k s l h t n)) ∧ Grew w w' none := by
  rcases hk with rfl | rfl | rfl
  · obtain ⟨hs, hl, hlh, hh, ht, ht2, _⟩ := right12 (.inl rfl) h0
    have hE : fitB 1 s l h t n = wl s l h t n := rfl
    rw [hE]
    generalize hR : wl s l h t n = R at *
    have HC := Lib.hid (fun w' => hR ▸ sizeLength_any w' 1 s l h t n A m c ht hl hs hh)
    clear h0 hE hR hs hl hlh hh ht ht2
    go_enter Try.func80, Try.ntmps80
    go_wp2_with fail
    refine (HC.out _).mono ?_
    rintro e w1 ⟨rfl, g1⟩
    unfold two
    go_wp2_with fail
    go_ret2
    exact ⟨rfl, grew_trans (grew_alloc (grew_refl _ _) _) g1⟩
  · have hE : fitB 4 s l h t n = if l ≤ n ∧ (n : Int) ≤ h then ((n : Int), 0) else (0, 5) := rfl
    clear h0
    by_cases a : (n : Int) < l
    · rw [if_neg (by omega)] at hE
      rw [hE]
      clear hE
      go_enter Try.func80, Try.ntmps80
      go_wp2_with fail
      go_ret2
      exact ⟨rfl, grew_alloc (grew_refl _ _) _⟩
    · by_cases b : h < (n : Int)
      · rw [if_neg (by omega)] at hE
        rw [hE]
        clear hE
        go_enter Try.func80, Try.ntmps80
        go_wp2_with fail
        go_ret2
        exact ⟨rfl, grew_alloc (grew_refl _ _) _⟩
      · rw [if_pos (by omega)] at hE
        rw [hE]
        clear hE
        go_enter Try.func80, Try.ntmps80
        go_wp2_with fail
        go_ret2
        exact ⟨rfl, grew_alloc (grew_refl _ _) _⟩
  · have hE : fitB 5 s l h t n = if (n : Int) = l then ((n : Int), 0) else (0, 5) := rfl
    clear h0
    by_cases a : (n : Int) = l
    · rw [if_pos a] at hE
      rw [hE]
      subst a
      clear hE
      go_enter Try.func80, Try.ntmps80
      go_wp2_with fail
      go_ret2
      exact ⟨rfl, grew_alloc (grew_refl _ _) _⟩
    · rw [if_neg a] at hE
      rw [hE]
      have hb : ((n : Int) != l) = true := by simpa using a
      clear hE a
      go_enter Try.func80, Try.ntmps80
      go_wp2_with fail
      go_ret2
      exact ⟨rfl, grew_alloc (grew_refl _ _) _⟩

/-- What a size of a part is, in each world behind this one. -/
def Part (w : World) (q : Nat) (p : Fo) (v : Va) : Prop :=
  ∀ w', Grew w w' none → Calls Try.prog 62 #[.map (some q), p.val, v.val] w' fun e w'' => e = .returned (two (fit p v)) ∧ Grew w' w'' none

set_option maxRecDepth 100000 in
set_option maxHeartbeats 1000000 in
theorem sizeList_any (w : World) (q : Nat) (s l h t : Int) (A : Option Addr) (c : Nat) (p : Fo) (Av : Option Addr) (cv : Nat) (ls : List Va) (hp : Fo.Lie w A [p]) (hl : Va.Lie w Av ls) (hz : ls.length ≤ 2513169434916)
    (h0 : Fo.alone 2 s l h t 1 = 0) (hc : ∀ v ∈ ls, Part w q p v) :
    Calls Try.prog 81 #[.map (some q), .agg #[.int .i64 2, .int .i64 s, .int .i64 l, .int .i64 h, .int .i64 t, .slice A 1 c], .slice Av ls.length cv] w fun e w' => e = .returned (two (behind s l h t (tot 0 (ls.map (fit p))))) ∧ Grew w w' none := by
  obtain ⟨hs, hl0, hlh, hh, ht, ht2, _⟩ := right12 (.inr rfl) h0
  have HS := Lib.hid (fun w' n => sizeLength_any w' 2 s l h t n A 1 c ht hl0 hs hh)
  clear h0 hs hl0 hlh hh ht ht2
  have HP := Lib.hid hp
  have HL := Lib.hid hl
  have HC := Lib.hid hc
  clear hp hl hc
  have HR := Lib.hid (show Grew w (w.alloc (.cells #[.int .i64 2, .int .i64 s, .int .i64 l, .int .i64 h, .int .i64 t, .slice A 1 c] 24)) none ∧ Whole (w.alloc (.cells #[.int .i64 2, .int .i64 s, .int .i64 l, .int .i64 h, .int .i64 t, .slice A 1 c] 24)) w.heap.size #[.int .i64 2, .int .i64 s, .int .i64 l, .int .i64 h, .int .i64 t, .slice A 1 c] 24 ∧ tot 0 ((ls.drop 0).map (fit p)) = tot 0 (ls.map (fit p)) from ⟨grew_alloc (grew_refl _ _) _, Whole.new _ _ _, rfl⟩)
  generalize hT : tot 0 (ls.map (fit p)) = T at *
  clear hT
  go_enter Try.func81, Try.ntmps81
  go_wp2_with fail
  generalize w.alloc (.cells #[.int .i64 2, .int .i64 s, .int .i64 l, .int .i64 h, .int .i64 t, .slice A 1 c] 24) = W0 at *
  generalize w.heap.size = qf at *
  go_loopw [15, 8] (fun i d wr => ∃ (n : Nat) (x : Int), n ≤ ls.length ∧ i = .int .i64 n ∧ d = .int .i64 x ∧ Hid (Grew w wr none ∧ Whole wr qf #[.int .i64 2, .int .i64 s, .int .i64 l, .int .i64 h, .int .i64 t, .slice A 1 c] 24 ∧ tot x ((ls.drop n).map (fit p)) = T)) (fun i _ _ => ls.length - (intOf i).toNat)
  case atStart => exact ⟨0, 0, Nat.zero_le _, rfl, rfl, HR⟩
  case round =>
    obtain ⟨n, x, hn, rfl, rfl, R⟩ := hrel
    by_cases hlt : n < ls.length
    · obtain ⟨b, o, v, rfl, hv, hvm, c0, c1, c2⟩ := (HL.out.grew R.out.1).at hlt
      have HV := Lib.hid (show ls[n]? = some v ∧ v ∈ ls from ⟨hv, hvm⟩)
      clear hv hvm
      go_wp2_with fail
      clear c0 c1 c2
      have hwv := Whole.new wr #[.int .u64 v.n, .slice v.B v.bs.length v.d, .slice v.A v.ls.length v.c] 29
      have hgv := grew_alloc R.out.1 (.cells #[.int .u64 v.n, .slice v.B v.bs.length v.d, .slice v.A v.ls.length v.c] 29)
      have hwf := R.out.2.1.grew (grew_alloc (grew_refl wr none) (.cells #[.int .u64 v.n, .slice v.B v.bs.length v.d, .slice v.A v.ls.length v.c] 29)) (by simp)
      have hT := R.out.2.2
      clear R
      have ht0 : tot x ((ls.drop n).map (fit p)) = if (fit p v).2 = 0 then tot (Fo.plus x (fit p v).1) ((ls.drop (n + 1)).map (fit p)) else (0, (fit p v).2) := by
        rw [Va.drop_at HV.out.1, List.map_cons, tot]
      have hcv := HC.out v HV.out.2
      unfold Part at hcv
      generalize fit p v = F at *
      obtain ⟨r1, r2⟩ := F
      have hpl := (HP.out.grew hgv).at (i := 0) (by simp)
      generalize wr.alloc (.cells #[.int .u64 v.n, .slice v.B v.bs.length v.d, .slice v.A v.ls.length v.c] 29) = W1 at *
      generalize wr.heap.size = qv at *
      obtain ⟨bf, of, p', hA, hp', _, d0, d1, d2, d3, d4, d5⟩ := hpl
      simp at hp'
      subst hp'
      subst hA
      simp only [Nat.zero_mul, Nat.add_zero] at d0 d1 d2 d3 d4 d5
      have HCV : Hid (∀ x, Calls Try.prog 62 #[.map (some q), .agg #[.int .i64 p.k, .int .i64 p.s, .int .i64 p.l, .int .i64 p.h, .int .i64 p.t, .slice p.A p.ps.length p.c], .agg #[.int .u64 v.n, .slice v.B v.bs.length v.d, .slice v.A v.ls.length v.c]] (World.pad W1 x) fun e w'' => e = .returned (.tuple #[.int .i64 r1, .int .i64 r2]) ∧ Grew (World.pad W1 x) w'' none) := Lib.hid (fun x => hcv _ (grew_trans hgv (grew_pad _ _)))
      have HW := Lib.hid (show Grew w W1 none ∧ Whole W1 qf _ _ from ⟨hgv, hwf⟩)
      have HT := Lib.hid (ht0.symm.trans hT)
      obtain ⟨v0, v1, v2⟩ := hwv.three
      have f5 : ∀ x, (World.pad W1 x).cell? ⟨qf, 5, none⟩ = some (.slice (some ⟨bf, of, none⟩) 1 c) := fun x => pad_cell (hwf.cell 5) x
      have e0 := fun x => pad_cell d0 x
      have e1 := fun x => pad_cell d1 x
      have e2 := fun x => pad_cell d2 x
      have e3 := fun x => pad_cell d3 x
      have e4 := fun x => pad_cell d4 x
      have e5 := fun x => pad_cell d5 x
      have u0 := fun x => pad_cell v0 x
      have u1 := fun x => pad_cell v1 x
      have u2 := fun x => pad_cell v2 x
      clear hwv hgv hwf hT ht0 hcv d0 d1 d2 d3 d4 d5 v0 v1 v2
      refine wp_region_pad (by kernel_rfl) (by kernel_rfl) ?_
      repeat (go_big_quiet_step ((go_at_call 62; exact pad_call (HCV.out _))))
      refine wpQuiet_nil ?_
      rintro _ ⟨xq, rfl⟩
      clear f5 e0 e1 e2 e3 e4 e5 u0 u1 u2
      by_cases hr : r2 = 0
      · subst hr
        have HR2 := Lib.hid (show Grew w (World.pad W1 xq) none ∧ Whole (World.pad W1 xq) qf #[.int .i64 2, .int .i64 s, .int .i64 l, .int .i64 h, .int .i64 t, .slice (some ⟨bf, of, none⟩) 1 c] 24 ∧ tot (Fo.plus x r1) ((ls.drop (n + 1)).map (fit p)) = T from ⟨grew_trans HW.out.1 (grew_pad _ _), HW.out.2.grew (grew_pad _ _) (by simp), by have := HT.out; simpa using this⟩)
        go_wp2_with fail
        go_roundw
        case rel => exact ⟨n + 1, Fo.plus x r1, by omega, by go_num, rfl, HR2⟩
        case measure => simp [intOf]; omega
      · have hb : (r2 != 0) = true := by simpa using hr
        have HE := Lib.hid (show behind s l h t T = (0, r2) by
          have := HT.out
          simp only [if_neg hr] at this
          rw [← this, behind, if_neg hr])
        have HG := Lib.hid (grew_trans HW.out.1 (grew_pad _ xq))
        clear hr
        go_wp2_with fail
        go_ret2
        exact ⟨by rw [HE.out]; rfl, HG.out⟩
    · have HE := Lib.hid (show behind s l h t T = wl s l h t x by
        have h3 := R.out.2.2
        have : n = ls.length := by omega
        rw [this, List.drop_length, List.map_nil, tot] at h3
        rw [← h3, behind, if_pos rfl])
      obtain ⟨c0, c1, c2, c3, c4, c5⟩ := R.out.2.1.six
      have HG := Lib.hid R.out.1
      clear R
      go_wp2_with fail
      refine (HS.out _ x).mono ?_
      rintro e w1 ⟨rfl, g1⟩
      generalize wl s l h t x = Y at *
      unfold two
      go_wp2_with fail
      go_ret2
      exact ⟨by rw [HE.out]; rfl, grew_trans HG.out g1⟩
end Go.Proofs.Ytibbeodcheefaaa


/- Sizes of values: rows, and all; Fits, Size. -/
namespace Go.Proofs.Ytibbeodcheefaaa
open Go.RowKit Va

set_option maxRecDepth 100000 in
theorem pair_step {ps : List Fo} {ls : List Va} {n : Nat} {p : Fo} {v : Va} (hp : ps[n]? = some p) (hv : ls[n]? = some v) (x : Int) :
    tot x ((pair (fits ps) ls).drop n) = if (fit p v).2 = 0 then tot (Fo.plus x (fit p v).1) ((pair (fits ps) ls).drop (n + 1)) else (0, (fit p v).2) := by
  rw [dropL (pair_at hp hv), tot]

set_option maxRecDepth 100000 in
set_option maxHeartbeats 1000000 in
theorem sizeRow_any (w : World) (q : Nat) (s l h t : Int) (A : Option Addr) (c : Nat) (ps : List Fo) (Av : Option Addr) (cv : Nat) (ls : List Va) (hp : Fo.Lie w A ps) (hl : Va.Lie w Av ls) (hz : ls.length ≤ 2513169434916) (_hzp : ps.length ≤ 2199023255552)
    (hc : ∀ (i : Nat) (p : Fo) (v : Va), ps[i]? = some p → ls[i]? = some v → Part w q p v) :
    Calls Try.prog 82 #[.map (some q), .agg #[.int .i64 3, .int .i64 s, .int .i64 l, .int .i64 h, .int .i64 t, .slice A ps.length c], .slice Av ls.length cv] w fun e w' => e = .returned (two (if ls.length = ps.length then tot 0 (pair (fits ps) ls) else (0, 15))) ∧ Grew w w' none := by
  by_cases hln : ls.length = ps.length
  · rw [if_pos hln]
    have HP := Lib.hid hp
    have HL := Lib.hid hl
    have HC := Lib.hid hc
    have hb : ((ls.length : Int) != (ps.length : Int)) = false := by simp; omega
    have HLN := Lib.hid hln
    clear hp hl hc hln
    have HR := Lib.hid (show Grew w (w.alloc (.cells #[.int .i64 3, .int .i64 s, .int .i64 l, .int .i64 h, .int .i64 t, .slice A ps.length c] 24)) none ∧ Whole (w.alloc (.cells #[.int .i64 3, .int .i64 s, .int .i64 l, .int .i64 h, .int .i64 t, .slice A ps.length c] 24)) w.heap.size #[.int .i64 3, .int .i64 s, .int .i64 l, .int .i64 h, .int .i64 t, .slice A ps.length c] 24 ∧ tot 0 ((pair (fits ps) ls).drop 0) = tot 0 (pair (fits ps) ls) from ⟨grew_alloc (grew_refl _ _) _, Whole.new _ _ _, rfl⟩)
    generalize hT : tot 0 (pair (fits ps) ls) = T at *
    clear hT
    go_enter Try.func82, Try.ntmps82
    go_wp2_with fail
    generalize w.alloc (.cells #[.int .i64 3, .int .i64 s, .int .i64 l, .int .i64 h, .int .i64 t, .slice A ps.length c] 24) = W0 at *
    generalize w.heap.size = qf at *
    go_loopw [21, 8] (fun i d wr => ∃ (n : Nat) (x : Int), n ≤ ls.length ∧ i = .int .i64 n ∧ d = .int .i64 x ∧ Hid (Grew w wr none ∧ Whole wr qf #[.int .i64 3, .int .i64 s, .int .i64 l, .int .i64 h, .int .i64 t, .slice A ps.length c] 24 ∧ tot x ((pair (fits ps) ls).drop n) = T)) (fun i _ _ => ls.length - (intOf i).toNat)
    case atStart => exact ⟨0, 0, Nat.zero_le _, rfl, rfl, HR⟩
    case round =>
      obtain ⟨n, x, hn, rfl, rfl, R⟩ := hrel
      by_cases hlt : n < ls.length
      · have hlp : n < ps.length := by have := HLN.out; omega
        obtain ⟨b, o, v, rfl, hv, hvm, c0, c1, c2⟩ := (HL.out.grew R.out.1).at hlt
        have HV := Lib.hid hv
        clear hv hvm
        go_wp2_with fail
        clear c0 c1 c2
        have hwv := Whole.new wr #[.int .u64 v.n, .slice v.B v.bs.length v.d, .slice v.A v.ls.length v.c] 29
        have hgv := grew_alloc R.out.1 (.cells #[.int .u64 v.n, .slice v.B v.bs.length v.d, .slice v.A v.ls.length v.c] 29)
        have hwf := R.out.2.1.grew (grew_alloc (grew_refl wr none) (.cells #[.int .u64 v.n, .slice v.B v.bs.length v.d, .slice v.A v.ls.length v.c] 29)) (by simp)
        have hT := R.out.2.2
        clear R
        have hpl := (HP.out.grew hgv).at hlp
        generalize wr.alloc (.cells #[.int .u64 v.n, .slice v.B v.bs.length v.d, .slice v.A v.ls.length v.c] 29) = W1 at *
        generalize wr.heap.size = qv at *
        obtain ⟨bf, of, p, hA, hpn, _, d0, d1, d2, d3, d4, d5⟩ := hpl
        subst hA
        have hcv := HC.out n p v hpn HV.out
        have ht0 := pair_step hpn HV.out x
        unfold Part at hcv
        generalize fit p v = F at *
        obtain ⟨r1, r2⟩ := F
        have HCV : Hid (∀ x, Calls Try.prog 62 #[.map (some q), .agg #[.int .i64 p.k, .int .i64 p.s, .int .i64 p.l, .int .i64 p.h, .int .i64 p.t, .slice p.A p.ps.length p.c], .agg #[.int .u64 v.n, .slice v.B v.bs.length v.d, .slice v.A v.ls.length v.c]] (World.pad W1 x) fun e w'' => e = .returned (.tuple #[.int .i64 r1, .int .i64 r2]) ∧ Grew (World.pad W1 x) w'' none) := Lib.hid (fun x => hcv _ (grew_trans hgv (grew_pad _ _)))
        have HW := Lib.hid (show Grew w W1 none ∧ Whole W1 qf _ _ from ⟨hgv, hwf⟩)
        have HT := Lib.hid (ht0.symm.trans hT)
        obtain ⟨v0, v1, v2⟩ := hwv.three
        have f5 : ∀ x, (World.pad W1 x).cell? ⟨qf, 5, none⟩ = some (.slice (some ⟨bf, of, none⟩) ps.length c) := fun x => pad_cell (hwf.cell 5) x
        have e0 := fun x => pad_cell d0 x
        have e1 := fun x => pad_cell d1 x
        have e2 := fun x => pad_cell d2 x
        have e3 := fun x => pad_cell d3 x
        have e4 := fun x => pad_cell d4 x
        have e5 := fun x => pad_cell d5 x
        have u0 := fun x => pad_cell v0 x
        have u1 := fun x => pad_cell v1 x
        have u2 := fun x => pad_cell v2 x
        have i0 : (0 : Int) ≤ (n : Int) := by omega
        have i1 : (n : Int) < (ps.length : Int) := by omega
        clear hwv hgv hwf hT ht0 hcv d0 d1 d2 d3 d4 d5 v0 v1 v2 hpn
        refine wp_region_pad (by kernel_rfl) (by kernel_rfl) ?_
        repeat (go_big_quiet_step ((go_at_call 62; exact pad_call (HCV.out _))))
        refine wpQuiet_nil ?_
        rintro _ ⟨xq, rfl⟩
        clear f5 e0 e1 e2 e3 e4 e5 u0 u1 u2
        by_cases hr : r2 = 0
        · subst hr
          have HR2 := Lib.hid (show Grew w (World.pad W1 xq) none ∧ Whole (World.pad W1 xq) qf #[.int .i64 3, .int .i64 s, .int .i64 l, .int .i64 h, .int .i64 t, .slice (some ⟨bf, of, none⟩) ps.length c] 24 ∧ tot (Fo.plus x r1) ((pair (fits ps) ls).drop (n + 1)) = T from ⟨grew_trans HW.out.1 (grew_pad _ _), HW.out.2.grew (grew_pad _ _) (by simp), by have := HT.out; simpa using this⟩)
          go_wp2_with fail
          go_roundw
          case rel => exact ⟨n + 1, Fo.plus x r1, by omega, by go_num, rfl, HR2⟩
          case measure => simp [intOf]; omega
        · have hb2 : (r2 != 0) = true := by simpa using hr
          have HE := Lib.hid (show T = (0, r2) by
            have := HT.out
            simp only [if_neg hr] at this
            exact this.symm)
          have HG := Lib.hid (grew_trans HW.out.1 (grew_pad _ xq))
          clear hr
          go_wp2_with fail
          go_ret2
          exact ⟨by rw [HE.out]; rfl, HG.out⟩
      · have HE := Lib.hid (show T = (x, 0) by
          have h3 := R.out.2.2
          have h4 : n = (pair (fits ps) ls).length := by rw [pair_length HLN.out]; have := HLN.out; omega
          rw [h4, List.drop_length, tot] at h3
          exact h3.symm)
        have HG := Lib.hid R.out.1
        clear R
        go_wp2_with fail
        go_ret2
        exact ⟨by rw [HE.out]; rfl, HG.out⟩
  · rw [if_neg hln]
    have hb : ((ls.length : Int) != (ps.length : Int)) = true := by simp; omega
    clear hp hl hc hln
    go_enter Try.func82, Try.ntmps82
    go_wp2_with fail
    go_ret2
    exact ⟨rfl, grew_alloc (grew_refl _ _) _⟩
set_option maxRecDepth 100000 in
set_option maxHeartbeats 1000000 in
theorem size_k0 (w : World) (q : Nat) (s l h t : Int) (A : Option Addr) (c : Nat) (ps : List Fo) (v : Va) (hf : Fo.In w (.mk 0 s l h t A c ps)) (hv : v.In w) (hk : Kinds w q) (h0 : Fo.alone 0 s l h t ps.length = 0) :
    Calls Try.prog 62 #[.map (some q), (Fo.mk 0 s l h t A c ps).val, v.val] w fun e w' => e = .returned (two (fit (.mk 0 s l h t A c ps) v)) ∧ Grew w w' none := by
  have hE : fit (.mk 0 s l h t A c ps) v = if lonB v 0 = false then (0, 15) else (if v.n < 256 ^ s.toNat then (s, 0) else (0, 3)) := by rw [fit]; rfl
  generalize fit (.mk 0 s l h t A c ps) v = E at *
  have HE := Lib.hid hE
  have HF := Lib.hid hf
  have HV := Lib.hid hv
  have H0 := Lib.hid h0
  have hlook := (hk.grew (grew_alloc (grew_alloc (grew_refl w none) (.cells #[.int .i64 0, .int .i64 s, .int .i64 l, .int .i64 h, .int .i64 t, .slice A ps.length c] 24)) (.cells #[.int .u64 v.n, .slice v.B v.bs.length v.d, .slice v.A v.ls.length v.c] 29))).look (k := 0) (by omega)
  change _ = Result.ok (Value.int .i64 0) _ at hlook
  clear hE hf hv h0 hk
  change Calls Try.prog 62 #[.map (some q), .agg #[.int .i64 0, .int .i64 s, .int .i64 l, .int .i64 h, .int .i64 t, .slice A ps.length c], .agg #[.int .u64 v.n, .slice v.B v.bs.length v.d, .slice v.A v.ls.length v.c]] w _
  go_enter Try.func62, Try.ntmps62
  go_wp2_with fail
  have hw2 := Whole.new (w.alloc (.cells #[.int .i64 0, .int .i64 s, .int .i64 l, .int .i64 h, .int .i64 t, .slice A ps.length c] 24)) #[.int .u64 v.n, .slice v.B v.bs.length v.d, .slice v.A v.ls.length v.c] 29
  have hw1 := (Whole.new w #[.int .i64 0, .int .i64 s, .int .i64 l, .int .i64 h, .int .i64 t, .slice A ps.length c] 24).grew (grew_alloc (grew_refl _ none) (.cells #[.int .u64 v.n, .slice v.B v.bs.length v.d, .slice v.A v.ls.length v.c] 29)) (by simp)
  have hg2 := grew_alloc (grew_alloc (grew_refl w none) (.cells #[.int .i64 0, .int .i64 s, .int .i64 l, .int .i64 h, .int .i64 t, .slice A ps.length c] 24)) (.cells #[.int .u64 v.n, .slice v.B v.bs.length v.d, .slice v.A v.ls.length v.c] 29)
  have hsz : (w.alloc (.cells #[.int .i64 0, .int .i64 s, .int .i64 l, .int .i64 h, .int .i64 t, .slice A ps.length c] 24)).heap.size = w.heap.size + 1 := by simp
  rw [hsz] at hw2
  clear hlook hsz
  generalize (w.alloc (.cells #[.int .i64 0, .int .i64 s, .int .i64 l, .int .i64 h, .int .i64 t, .slice A ps.length c] 24)).alloc (.cells #[.int .u64 v.n, .slice v.B v.bs.length v.d, .slice v.A v.ls.length v.c] 29) = W2 at *
  generalize w.heap.size + 1 = qv at *
  generalize w.heap.size = qf at *
  have HG := Lib.hid hg2
  have HW1 := Lib.hid hw1
  have HW2 := Lib.hid hw2
  clear hg2 hw1 hw2
  refine (valone_any W2 v 0 (by omega)).mono ?_
  rintro e w3 ⟨rfl, g3⟩
  obtain ⟨v0, v1, v2⟩ := (HW2.out.grew g3 (by simp)).three
  obtain ⟨c0, c1, c2, c3, c4, c5⟩ := (HW1.out.grew g3 (by simp)).six
  have HG3 := Lib.hid (grew_trans HG.out g3)
  clear HG HW1 HW2 g3
  cases hlo : lonB v 0 with
  | false =>
    have HE2 := Lib.hid (show E = (0, 15) by rw [HE.out, if_pos hlo])
    clear hlo v0 v1 v2 c0 c1 c2 c3 c4 c5
    go_wp2_with fail
    go_ret2
    exact ⟨by rw [HE2.out]; rfl, HG3.out⟩
  | true =>
    have HE2 := Lib.hid (show E = (if v.n < 256 ^ s.toNat then (s, 0) else (0, 3)) by rw [HE.out, if_neg (by rw [hlo]; simp)])
    clear hlo
    go_wp2_with fail
    have key : s = 1 ∨ s = 2 ∨ s = 3 ∨ s = 4 ∨ s = 8 := by
      have h0 := H0.out
      unfold Fo.alone at h0
      rw [if_pos rfl] at h0
      by_cases hs : s = 1 ∨ s = 2 ∨ s = 3 ∨ s = 4 ∨ s = 8
      · exact hs
      · rw [if_neg hs] at h0; omega
    refine (sizeNumber_any w3 0 s l h t v.n A ps.length c key HV.out.num.1 HV.out.num.2).mono ?_
    clear key
    rintro e w4 ⟨rfl, g4⟩
    rw [← HE2.out]
    have HG4 := Lib.hid (grew_trans HG3.out g4)
    clear g4 HG3 v0 v1 v2 c0 c1 c2 c3 c4 c5
    generalize hY : E = Y at *
    have HY := Lib.hid hY
    clear hY
    unfold two
    go_wp2_with fail
    go_ret2
    exact ⟨by rw [HY.out]; rfl, HG4.out⟩

set_option maxRecDepth 100000 in
set_option maxHeartbeats 1000000 in
theorem size_k1 (w : World) (q : Nat) (s l h t : Int) (A : Option Addr) (c : Nat) (ps : List Fo) (v : Va) (hf : Fo.In w (.mk 1 s l h t A c ps)) (hv : v.In w) (hk : Kinds w q) (h0 : Fo.alone 1 s l h t ps.length = 0) :
    Calls Try.prog 62 #[.map (some q), (Fo.mk 1 s l h t A c ps).val, v.val] w fun e w' => e = .returned (two (fit (.mk 1 s l h t A c ps) v)) ∧ Grew w w' none := by
  have hE : fit (.mk 1 s l h t A c ps) v = if lonB v 1 = false then (0, 15) else fitB 1 s l h t v.bs.length := by rw [fit]; rfl
  generalize fit (.mk 1 s l h t A c ps) v = E at *
  have HE := Lib.hid hE
  have HF := Lib.hid hf
  have HV := Lib.hid hv
  have H0 := Lib.hid h0
  have hlook := (hk.grew (grew_alloc (grew_alloc (grew_refl w none) (.cells #[.int .i64 1, .int .i64 s, .int .i64 l, .int .i64 h, .int .i64 t, .slice A ps.length c] 24)) (.cells #[.int .u64 v.n, .slice v.B v.bs.length v.d, .slice v.A v.ls.length v.c] 29))).look (k := 1) (by omega)
  change _ = Result.ok (Value.int .i64 1) _ at hlook
  clear hE hf hv h0 hk
  change Calls Try.prog 62 #[.map (some q), .agg #[.int .i64 1, .int .i64 s, .int .i64 l, .int .i64 h, .int .i64 t, .slice A ps.length c], .agg #[.int .u64 v.n, .slice v.B v.bs.length v.d, .slice v.A v.ls.length v.c]] w _
  go_enter Try.func62, Try.ntmps62
  go_wp2_with fail
  have hw2 := Whole.new (w.alloc (.cells #[.int .i64 1, .int .i64 s, .int .i64 l, .int .i64 h, .int .i64 t, .slice A ps.length c] 24)) #[.int .u64 v.n, .slice v.B v.bs.length v.d, .slice v.A v.ls.length v.c] 29
  have hw1 := (Whole.new w #[.int .i64 1, .int .i64 s, .int .i64 l, .int .i64 h, .int .i64 t, .slice A ps.length c] 24).grew (grew_alloc (grew_refl _ none) (.cells #[.int .u64 v.n, .slice v.B v.bs.length v.d, .slice v.A v.ls.length v.c] 29)) (by simp)
  have hg2 := grew_alloc (grew_alloc (grew_refl w none) (.cells #[.int .i64 1, .int .i64 s, .int .i64 l, .int .i64 h, .int .i64 t, .slice A ps.length c] 24)) (.cells #[.int .u64 v.n, .slice v.B v.bs.length v.d, .slice v.A v.ls.length v.c] 29)
  have hsz : (w.alloc (.cells #[.int .i64 1, .int .i64 s, .int .i64 l, .int .i64 h, .int .i64 t, .slice A ps.length c] 24)).heap.size = w.heap.size + 1 := by simp
  rw [hsz] at hw2
  clear hlook hsz
  generalize (w.alloc (.cells #[.int .i64 1, .int .i64 s, .int .i64 l, .int .i64 h, .int .i64 t, .slice A ps.length c] 24)).alloc (.cells #[.int .u64 v.n, .slice v.B v.bs.length v.d, .slice v.A v.ls.length v.c] 29) = W2 at *
  generalize w.heap.size + 1 = qv at *
  generalize w.heap.size = qf at *
  have HG := Lib.hid hg2
  have HW1 := Lib.hid hw1
  have HW2 := Lib.hid hw2
  clear hg2 hw1 hw2
  refine (valone_any W2 v 1 (by omega)).mono ?_
  rintro e w3 ⟨rfl, g3⟩
  obtain ⟨v0, v1, v2⟩ := (HW2.out.grew g3 (by simp)).three
  obtain ⟨c0, c1, c2, c3, c4, c5⟩ := (HW1.out.grew g3 (by simp)).six
  have HG3 := Lib.hid (grew_trans HG.out g3)
  clear HG HW1 HW2 g3
  cases hlo : lonB v 1 with
  | false =>
    have HE2 := Lib.hid (show E = (0, 15) by rw [HE.out, if_pos hlo])
    clear hlo v0 v1 v2 c0 c1 c2 c3 c4 c5
    go_wp2_with fail
    go_ret2
    exact ⟨by rw [HE2.out]; rfl, HG3.out⟩
  | true =>
    have HE2 := Lib.hid (show E = fitB 1 s l h t v.bs.length by rw [HE.out, if_neg (by rw [hlo]; simp)])
    clear hlo
    go_wp2_with fail
    refine (sizeBytes_any w3 1 s l h t v.bs.length A ps.length c (by omega) H0.out HV.out.bytes.2.2).mono ?_
    rintro e w4 ⟨rfl, g4⟩
    rw [← HE2.out]
    have HG4 := Lib.hid (grew_trans HG3.out g4)
    clear g4 HG3 v0 v1 v2 c0 c1 c2 c3 c4 c5
    generalize hY : E = Y at *
    have HY := Lib.hid hY
    clear hY
    unfold two
    go_wp2_with fail
    go_ret2
    exact ⟨by rw [HY.out]; rfl, HG4.out⟩

set_option maxRecDepth 100000 in
set_option maxHeartbeats 1000000 in
theorem size_k2 (w : World) (q : Nat) (s l h t : Int) (A : Option Addr) (c : Nat) (ps : List Fo) (v : Va) (hf : Fo.In w (.mk 2 s l h t A c ps)) (hv : v.In w) (hk : Kinds w q) (h0 : Fo.alone 2 s l h t ps.length = 0) (hc : ∀ p ∈ ps, ∀ u ∈ v.ls, Part w q p u) :
    Calls Try.prog 62 #[.map (some q), (Fo.mk 2 s l h t A c ps).val, v.val] w fun e w' => e = .returned (two (fit (.mk 2 s l h t A c ps) v)) ∧ Grew w w' none := by
  have hE : fit (.mk 2 s l h t A c ps) v = if lonB v 2 = false then (0, 15) else behind s l h t (tot 0 (each (fits ps) v.ls)) := by rw [fit]; rfl
  generalize fit (.mk 2 s l h t A c ps) v = E at *
  have HE := Lib.hid hE
  have HF := Lib.hid hf
  have HV := Lib.hid hv
  have H0 := Lib.hid h0
  have hlook := (hk.grew (grew_alloc (grew_alloc (grew_refl w none) (.cells #[.int .i64 2, .int .i64 s, .int .i64 l, .int .i64 h, .int .i64 t, .slice A ps.length c] 24)) (.cells #[.int .u64 v.n, .slice v.B v.bs.length v.d, .slice v.A v.ls.length v.c] 29))).look (k := 2) (by omega)
  change _ = Result.ok (Value.int .i64 2) _ at hlook
  have HC := Lib.hid hc
  clear hc
  clear hE hf hv h0 hk
  change Calls Try.prog 62 #[.map (some q), .agg #[.int .i64 2, .int .i64 s, .int .i64 l, .int .i64 h, .int .i64 t, .slice A ps.length c], .agg #[.int .u64 v.n, .slice v.B v.bs.length v.d, .slice v.A v.ls.length v.c]] w _
  go_enter Try.func62, Try.ntmps62
  go_wp2_with fail
  have hw2 := Whole.new (w.alloc (.cells #[.int .i64 2, .int .i64 s, .int .i64 l, .int .i64 h, .int .i64 t, .slice A ps.length c] 24)) #[.int .u64 v.n, .slice v.B v.bs.length v.d, .slice v.A v.ls.length v.c] 29
  have hw1 := (Whole.new w #[.int .i64 2, .int .i64 s, .int .i64 l, .int .i64 h, .int .i64 t, .slice A ps.length c] 24).grew (grew_alloc (grew_refl _ none) (.cells #[.int .u64 v.n, .slice v.B v.bs.length v.d, .slice v.A v.ls.length v.c] 29)) (by simp)
  have hg2 := grew_alloc (grew_alloc (grew_refl w none) (.cells #[.int .i64 2, .int .i64 s, .int .i64 l, .int .i64 h, .int .i64 t, .slice A ps.length c] 24)) (.cells #[.int .u64 v.n, .slice v.B v.bs.length v.d, .slice v.A v.ls.length v.c] 29)
  have hsz : (w.alloc (.cells #[.int .i64 2, .int .i64 s, .int .i64 l, .int .i64 h, .int .i64 t, .slice A ps.length c] 24)).heap.size = w.heap.size + 1 := by simp
  rw [hsz] at hw2
  clear hlook hsz
  generalize (w.alloc (.cells #[.int .i64 2, .int .i64 s, .int .i64 l, .int .i64 h, .int .i64 t, .slice A ps.length c] 24)).alloc (.cells #[.int .u64 v.n, .slice v.B v.bs.length v.d, .slice v.A v.ls.length v.c] 29) = W2 at *
  generalize w.heap.size + 1 = qv at *
  generalize w.heap.size = qf at *
  have HG := Lib.hid hg2
  have HW1 := Lib.hid hw1
  have HW2 := Lib.hid hw2
  clear hg2 hw1 hw2
  refine (valone_any W2 v 2 (by omega)).mono ?_
  rintro e w3 ⟨rfl, g3⟩
  obtain ⟨v0, v1, v2⟩ := (HW2.out.grew g3 (by simp)).three
  obtain ⟨c0, c1, c2, c3, c4, c5⟩ := (HW1.out.grew g3 (by simp)).six
  have HG3 := Lib.hid (grew_trans HG.out g3)
  clear HG HW1 HW2 g3
  cases hlo : lonB v 2 with
  | false =>
    have HE2 := Lib.hid (show E = (0, 15) by rw [HE.out, if_pos hlo])
    clear hlo v0 v1 v2 c0 c1 c2 c3 c4 c5
    go_wp2_with fail
    go_ret2
    exact ⟨by rw [HE2.out]; rfl, HG3.out⟩
  | true =>
    have HE2 := Lib.hid (show E = behind s l h t (tot 0 (each (fits ps) v.ls)) by rw [HE.out, if_neg (by rw [hlo]; simp)])
    clear hlo
    go_wp2_with fail
    have h1 : ps.length = 1 := (right12 (.inr rfl) H0.out).2.2.2.2.2.2 rfl
    have hp1 : ∃ p, ps = [p] := by
      match ps, h1 with
      | [p], _ => exact ⟨p, rfl⟩
    obtain ⟨p, rfl⟩ := hp1
    clear h1
    have hfl := HF.out
    cases hfl with
    | mk ha hz hlie hpp =>
    refine (sizeList_any w3 q s l h t A c p v.A v.c v.ls (hlie.grew HG3.out) (HV.out.list.1.grew HG3.out) HV.out.list.2.2 H0.out (fun u hu w' g' => HC.out p (by simp) u hu w' (grew_trans HG3.out g'))).mono ?_
    clear ha hz hlie hpp
    have HE2 : Hid (E = behind s l h t (tot 0 (v.ls.map (fit p)))) := HE2
    rintro e w4 ⟨rfl, g4⟩
    rw [← HE2.out]
    have HG4 := Lib.hid (grew_trans HG3.out g4)
    clear g4 HG3 v0 v1 v2 c0 c1 c2 c3 c4 c5
    generalize hY : E = Y at *
    have HY := Lib.hid hY
    clear hY
    unfold two
    go_wp2_with fail
    go_ret2
    exact ⟨by rw [HY.out]; rfl, HG4.out⟩

set_option maxRecDepth 100000 in
set_option maxHeartbeats 1000000 in
theorem size_k3 (w : World) (q : Nat) (s l h t : Int) (A : Option Addr) (c : Nat) (ps : List Fo) (v : Va) (hf : Fo.In w (.mk 3 s l h t A c ps)) (hv : v.In w) (hk : Kinds w q) (h0 : Fo.alone 3 s l h t ps.length = 0) (hc : ∀ p ∈ ps, ∀ u ∈ v.ls, Part w q p u) :
    Calls Try.prog 62 #[.map (some q), (Fo.mk 3 s l h t A c ps).val, v.val] w fun e w' => e = .returned (two (fit (.mk 3 s l h t A c ps) v)) ∧ Grew w w' none := by
  have hE : fit (.mk 3 s l h t A c ps) v = if lonB v 2 = false then (0, 15) else (if v.ls.length = ps.length then tot 0 (pair (fits ps) v.ls) else (0, 15)) := by rw [fit]; rfl
  generalize fit (.mk 3 s l h t A c ps) v = E at *
  have HE := Lib.hid hE
  have HF := Lib.hid hf
  have HV := Lib.hid hv
  have H0 := Lib.hid h0
  have hlook := (hk.grew (grew_alloc (grew_alloc (grew_refl w none) (.cells #[.int .i64 3, .int .i64 s, .int .i64 l, .int .i64 h, .int .i64 t, .slice A ps.length c] 24)) (.cells #[.int .u64 v.n, .slice v.B v.bs.length v.d, .slice v.A v.ls.length v.c] 29))).look (k := 3) (by omega)
  change _ = Result.ok (Value.int .i64 2) _ at hlook
  have HC := Lib.hid hc
  clear hc
  clear hE hf hv h0 hk
  change Calls Try.prog 62 #[.map (some q), .agg #[.int .i64 3, .int .i64 s, .int .i64 l, .int .i64 h, .int .i64 t, .slice A ps.length c], .agg #[.int .u64 v.n, .slice v.B v.bs.length v.d, .slice v.A v.ls.length v.c]] w _
  go_enter Try.func62, Try.ntmps62
  go_wp2_with fail
  have hw2 := Whole.new (w.alloc (.cells #[.int .i64 3, .int .i64 s, .int .i64 l, .int .i64 h, .int .i64 t, .slice A ps.length c] 24)) #[.int .u64 v.n, .slice v.B v.bs.length v.d, .slice v.A v.ls.length v.c] 29
  have hw1 := (Whole.new w #[.int .i64 3, .int .i64 s, .int .i64 l, .int .i64 h, .int .i64 t, .slice A ps.length c] 24).grew (grew_alloc (grew_refl _ none) (.cells #[.int .u64 v.n, .slice v.B v.bs.length v.d, .slice v.A v.ls.length v.c] 29)) (by simp)
  have hg2 := grew_alloc (grew_alloc (grew_refl w none) (.cells #[.int .i64 3, .int .i64 s, .int .i64 l, .int .i64 h, .int .i64 t, .slice A ps.length c] 24)) (.cells #[.int .u64 v.n, .slice v.B v.bs.length v.d, .slice v.A v.ls.length v.c] 29)
  have hsz : (w.alloc (.cells #[.int .i64 3, .int .i64 s, .int .i64 l, .int .i64 h, .int .i64 t, .slice A ps.length c] 24)).heap.size = w.heap.size + 1 := by simp
  rw [hsz] at hw2
  clear hlook hsz
  generalize (w.alloc (.cells #[.int .i64 3, .int .i64 s, .int .i64 l, .int .i64 h, .int .i64 t, .slice A ps.length c] 24)).alloc (.cells #[.int .u64 v.n, .slice v.B v.bs.length v.d, .slice v.A v.ls.length v.c] 29) = W2 at *
  generalize w.heap.size + 1 = qv at *
  generalize w.heap.size = qf at *
  have HG := Lib.hid hg2
  have HW1 := Lib.hid hw1
  have HW2 := Lib.hid hw2
  clear hg2 hw1 hw2
  refine (valone_any W2 v 2 (by omega)).mono ?_
  rintro e w3 ⟨rfl, g3⟩
  obtain ⟨v0, v1, v2⟩ := (HW2.out.grew g3 (by simp)).three
  obtain ⟨c0, c1, c2, c3, c4, c5⟩ := (HW1.out.grew g3 (by simp)).six
  have HG3 := Lib.hid (grew_trans HG.out g3)
  clear HG HW1 HW2 g3
  cases hlo : lonB v 2 with
  | false =>
    have HE2 := Lib.hid (show E = (0, 15) by rw [HE.out, if_pos hlo])
    clear hlo v0 v1 v2 c0 c1 c2 c3 c4 c5
    go_wp2_with fail
    go_ret2
    exact ⟨by rw [HE2.out]; rfl, HG3.out⟩
  | true =>
    have HE2 := Lib.hid (show E = (if v.ls.length = ps.length then tot 0 (pair (fits ps) v.ls) else (0, 15)) by rw [HE.out, if_neg (by rw [hlo]; simp)])
    clear hlo
    go_wp2_with fail
    have hfl := HF.out
    cases hfl with
    | mk ha hz hlie hpp =>
    refine (sizeRow_any w3 q s l h t A c ps v.A v.c v.ls (hlie.grew HG3.out) (HV.out.list.1.grew HG3.out) HV.out.list.2.2 hz (fun i p u hp hu w' g' => HC.out p (List.mem_of_getElem? hp) u (List.mem_of_getElem? hu) w' (grew_trans HG3.out g'))).mono ?_
    clear ha hz hlie hpp
    rintro e w4 ⟨rfl, g4⟩
    rw [← HE2.out]
    have HG4 := Lib.hid (grew_trans HG3.out g4)
    clear g4 HG3 v0 v1 v2 c0 c1 c2 c3 c4 c5
    generalize hY : E = Y at *
    have HY := Lib.hid hY
    clear hY
    unfold two
    go_wp2_with fail
    go_ret2
    exact ⟨by rw [HY.out]; rfl, HG4.out⟩

set_option maxRecDepth 100000 in
set_option maxHeartbeats 1000000 in
theorem size_k4 (w : World) (q : Nat) (s l h t : Int) (A : Option Addr) (c : Nat) (ps : List Fo) (v : Va) (hf : Fo.In w (.mk 4 s l h t A c ps)) (hv : v.In w) (hk : Kinds w q) (h0 : Fo.alone 4 s l h t ps.length = 0) :
    Calls Try.prog 62 #[.map (some q), (Fo.mk 4 s l h t A c ps).val, v.val] w fun e w' => e = .returned (two (fit (.mk 4 s l h t A c ps) v)) ∧ Grew w w' none := by
  have hE : fit (.mk 4 s l h t A c ps) v = if lonB v 1 = false then (0, 15) else fitB 4 s l h t v.bs.length := by rw [fit]; rfl
  generalize fit (.mk 4 s l h t A c ps) v = E at *
  have HE := Lib.hid hE
  have HF := Lib.hid hf
  have HV := Lib.hid hv
  have H0 := Lib.hid h0
  have hlook := (hk.grew (grew_alloc (grew_alloc (grew_refl w none) (.cells #[.int .i64 4, .int .i64 s, .int .i64 l, .int .i64 h, .int .i64 t, .slice A ps.length c] 24)) (.cells #[.int .u64 v.n, .slice v.B v.bs.length v.d, .slice v.A v.ls.length v.c] 29))).look (k := 4) (by omega)
  change _ = Result.ok (Value.int .i64 1) _ at hlook
  clear hE hf hv h0 hk
  change Calls Try.prog 62 #[.map (some q), .agg #[.int .i64 4, .int .i64 s, .int .i64 l, .int .i64 h, .int .i64 t, .slice A ps.length c], .agg #[.int .u64 v.n, .slice v.B v.bs.length v.d, .slice v.A v.ls.length v.c]] w _
  go_enter Try.func62, Try.ntmps62
  go_wp2_with fail
  have hw2 := Whole.new (w.alloc (.cells #[.int .i64 4, .int .i64 s, .int .i64 l, .int .i64 h, .int .i64 t, .slice A ps.length c] 24)) #[.int .u64 v.n, .slice v.B v.bs.length v.d, .slice v.A v.ls.length v.c] 29
  have hw1 := (Whole.new w #[.int .i64 4, .int .i64 s, .int .i64 l, .int .i64 h, .int .i64 t, .slice A ps.length c] 24).grew (grew_alloc (grew_refl _ none) (.cells #[.int .u64 v.n, .slice v.B v.bs.length v.d, .slice v.A v.ls.length v.c] 29)) (by simp)
  have hg2 := grew_alloc (grew_alloc (grew_refl w none) (.cells #[.int .i64 4, .int .i64 s, .int .i64 l, .int .i64 h, .int .i64 t, .slice A ps.length c] 24)) (.cells #[.int .u64 v.n, .slice v.B v.bs.length v.d, .slice v.A v.ls.length v.c] 29)
  have hsz : (w.alloc (.cells #[.int .i64 4, .int .i64 s, .int .i64 l, .int .i64 h, .int .i64 t, .slice A ps.length c] 24)).heap.size = w.heap.size + 1 := by simp
  rw [hsz] at hw2
  clear hlook hsz
  generalize (w.alloc (.cells #[.int .i64 4, .int .i64 s, .int .i64 l, .int .i64 h, .int .i64 t, .slice A ps.length c] 24)).alloc (.cells #[.int .u64 v.n, .slice v.B v.bs.length v.d, .slice v.A v.ls.length v.c] 29) = W2 at *
  generalize w.heap.size + 1 = qv at *
  generalize w.heap.size = qf at *
  have HG := Lib.hid hg2
  have HW1 := Lib.hid hw1
  have HW2 := Lib.hid hw2
  clear hg2 hw1 hw2
  refine (valone_any W2 v 1 (by omega)).mono ?_
  rintro e w3 ⟨rfl, g3⟩
  obtain ⟨v0, v1, v2⟩ := (HW2.out.grew g3 (by simp)).three
  obtain ⟨c0, c1, c2, c3, c4, c5⟩ := (HW1.out.grew g3 (by simp)).six
  have HG3 := Lib.hid (grew_trans HG.out g3)
  clear HG HW1 HW2 g3
  cases hlo : lonB v 1 with
  | false =>
    have HE2 := Lib.hid (show E = (0, 15) by rw [HE.out, if_pos hlo])
    clear hlo v0 v1 v2 c0 c1 c2 c3 c4 c5
    go_wp2_with fail
    go_ret2
    exact ⟨by rw [HE2.out]; rfl, HG3.out⟩
  | true =>
    have HE2 := Lib.hid (show E = fitB 4 s l h t v.bs.length by rw [HE.out, if_neg (by rw [hlo]; simp)])
    clear hlo
    go_wp2_with fail
    refine (sizeBytes_any w3 4 s l h t v.bs.length A ps.length c (by omega) H0.out HV.out.bytes.2.2).mono ?_
    rintro e w4 ⟨rfl, g4⟩
    rw [← HE2.out]
    have HG4 := Lib.hid (grew_trans HG3.out g4)
    clear g4 HG3 v0 v1 v2 c0 c1 c2 c3 c4 c5
    generalize hY : E = Y at *
    have HY := Lib.hid hY
    clear hY
    unfold two
    go_wp2_with fail
    go_ret2
    exact ⟨by rw [HY.out]; rfl, HG4.out⟩

set_option maxRecDepth 100000 in
set_option maxHeartbeats 1000000 in
theorem size_k5 (w : World) (q : Nat) (s l h t : Int) (A : Option Addr) (c : Nat) (ps : List Fo) (v : Va) (hf : Fo.In w (.mk 5 s l h t A c ps)) (hv : v.In w) (hk : Kinds w q) (h0 : Fo.alone 5 s l h t ps.length = 0) :
    Calls Try.prog 62 #[.map (some q), (Fo.mk 5 s l h t A c ps).val, v.val] w fun e w' => e = .returned (two (fit (.mk 5 s l h t A c ps) v)) ∧ Grew w w' none := by
  have hE : fit (.mk 5 s l h t A c ps) v = if lonB v 1 = false then (0, 15) else fitB 5 s l h t v.bs.length := by rw [fit]; rfl
  generalize fit (.mk 5 s l h t A c ps) v = E at *
  have HE := Lib.hid hE
  have HF := Lib.hid hf
  have HV := Lib.hid hv
  have H0 := Lib.hid h0
  have hlook := (hk.grew (grew_alloc (grew_alloc (grew_refl w none) (.cells #[.int .i64 5, .int .i64 s, .int .i64 l, .int .i64 h, .int .i64 t, .slice A ps.length c] 24)) (.cells #[.int .u64 v.n, .slice v.B v.bs.length v.d, .slice v.A v.ls.length v.c] 29))).look (k := 5) (by omega)
  change _ = Result.ok (Value.int .i64 1) _ at hlook
  clear hE hf hv h0 hk
  change Calls Try.prog 62 #[.map (some q), .agg #[.int .i64 5, .int .i64 s, .int .i64 l, .int .i64 h, .int .i64 t, .slice A ps.length c], .agg #[.int .u64 v.n, .slice v.B v.bs.length v.d, .slice v.A v.ls.length v.c]] w _
  go_enter Try.func62, Try.ntmps62
  go_wp2_with fail
  have hw2 := Whole.new (w.alloc (.cells #[.int .i64 5, .int .i64 s, .int .i64 l, .int .i64 h, .int .i64 t, .slice A ps.length c] 24)) #[.int .u64 v.n, .slice v.B v.bs.length v.d, .slice v.A v.ls.length v.c] 29
  have hw1 := (Whole.new w #[.int .i64 5, .int .i64 s, .int .i64 l, .int .i64 h, .int .i64 t, .slice A ps.length c] 24).grew (grew_alloc (grew_refl _ none) (.cells #[.int .u64 v.n, .slice v.B v.bs.length v.d, .slice v.A v.ls.length v.c] 29)) (by simp)
  have hg2 := grew_alloc (grew_alloc (grew_refl w none) (.cells #[.int .i64 5, .int .i64 s, .int .i64 l, .int .i64 h, .int .i64 t, .slice A ps.length c] 24)) (.cells #[.int .u64 v.n, .slice v.B v.bs.length v.d, .slice v.A v.ls.length v.c] 29)
  have hsz : (w.alloc (.cells #[.int .i64 5, .int .i64 s, .int .i64 l, .int .i64 h, .int .i64 t, .slice A ps.length c] 24)).heap.size = w.heap.size + 1 := by simp
  rw [hsz] at hw2
  clear hlook hsz
  generalize (w.alloc (.cells #[.int .i64 5, .int .i64 s, .int .i64 l, .int .i64 h, .int .i64 t, .slice A ps.length c] 24)).alloc (.cells #[.int .u64 v.n, .slice v.B v.bs.length v.d, .slice v.A v.ls.length v.c] 29) = W2 at *
  generalize w.heap.size + 1 = qv at *
  generalize w.heap.size = qf at *
  have HG := Lib.hid hg2
  have HW1 := Lib.hid hw1
  have HW2 := Lib.hid hw2
  clear hg2 hw1 hw2
  refine (valone_any W2 v 1 (by omega)).mono ?_
  rintro e w3 ⟨rfl, g3⟩
  obtain ⟨v0, v1, v2⟩ := (HW2.out.grew g3 (by simp)).three
  obtain ⟨c0, c1, c2, c3, c4, c5⟩ := (HW1.out.grew g3 (by simp)).six
  have HG3 := Lib.hid (grew_trans HG.out g3)
  clear HG HW1 HW2 g3
  cases hlo : lonB v 1 with
  | false =>
    have HE2 := Lib.hid (show E = (0, 15) by rw [HE.out, if_pos hlo])
    clear hlo v0 v1 v2 c0 c1 c2 c3 c4 c5
    go_wp2_with fail
    go_ret2
    exact ⟨by rw [HE2.out]; rfl, HG3.out⟩
  | true =>
    have HE2 := Lib.hid (show E = fitB 5 s l h t v.bs.length by rw [HE.out, if_neg (by rw [hlo]; simp)])
    clear hlo
    go_wp2_with fail
    refine (sizeBytes_any w3 5 s l h t v.bs.length A ps.length c (by omega) H0.out HV.out.bytes.2.2).mono ?_
    rintro e w4 ⟨rfl, g4⟩
    rw [← HE2.out]
    have HG4 := Lib.hid (grew_trans HG3.out g4)
    clear g4 HG3 v0 v1 v2 c0 c1 c2 c3 c4 c5
    generalize hY : E = Y at *
    have HY := Lib.hid hY
    clear hY
    unfold two
    go_wp2_with fail
    go_ret2
    exact ⟨by rw [HY.out]; rfl, HG4.out⟩

end Go.Proofs.Ytibbeodcheefaaa


/- Operations of a region that draws its order, taken one by one by plain laws. -/
namespace Go.Proofs.Ytibbeodcheefaaa
open Go.RowKit Fo

section
variable {ρ : Operand → Value} {o : Oper}
theorem run_int {x : Operand} {q i : Nat} {v : Int} (ho : o.op = .load 3 x) (hx : ρ x = .pointer (some ⟨q, i, none⟩)) {w : World} (hc : w.cell? ⟨q, i, none⟩ = some (.int .i64 v)) : (execOp ρ o).run Try.prog w = .ok (.value (.int .i64 v)) w := by
  simp [execOp, ho, hx, go_sem, hc]
theorem run_form {x : Operand} {q : Nat} {f : Fo} (ho : o.op = .load 24 x) (hx : ρ x = .pointer (some ⟨q, 0, none⟩)) {w : World} (hc : Whole w q f.cells 24) : (execOp ρ o).run Try.prog w = .ok (.value f.val) w := by
  obtain ⟨c0, c1, c2, c3, c4, c5⟩ := hc.six
  simp [execOp, ho, hx, go_sem, c0, c1, c2, c3, c4, c5]
  rfl
theorem run_atS {x y : Operand} {b o' n l c : Nat} (ho : o.op = .indexAddr 22 x y) (hx : ρ x = .slice (some ⟨b, o', none⟩) l c) (hy : ρ y = .int .i64 n) (hn : n < l) (w : World) : (execOp ρ o).run Try.prog w = .ok (.value (.pointer (some ⟨b, o' + n * 6, none⟩))) w := by
  have hn' : (n : Int) < l := by omega
  simp [execOp, ho, go_sem, hx, hy, hn]
theorem run_formAt {x : Operand} {b q : Nat} {f : Fo} (ho : o.op = .load 24 x) (hx : ρ x = .pointer (some ⟨b, q, none⟩)) {w : World} (c0 : w.cell? ⟨b, q, none⟩ = some (.int .i64 f.k)) (c1 : w.cell? ⟨b, q + 1, none⟩ = some (.int .i64 f.s)) (c2 : w.cell? ⟨b, q + 2, none⟩ = some (.int .i64 f.l)) (c3 : w.cell? ⟨b, q + 3, none⟩ = some (.int .i64 f.h)) (c4 : w.cell? ⟨b, q + 4, none⟩ = some (.int .i64 f.t)) (c5 : w.cell? ⟨b, q + 5, none⟩ = some (.slice f.A f.ps.length f.c)) :
    (execOp ρ o).run Try.prog w = .ok (.value f.val) w := by
  simp [execOp, ho, hx, go_sem, c0, c1, c2, c3, c4, c5]
  rfl
theorem run_newF (ho : o.op = .alloc 24) (w : World) : (execOp ρ o).run Try.prog w = .ok (.value (.pointer (some ⟨w.heap.size, 0, none⟩))) (w.alloc (.cells #[.int .i64 0, .int .i64 0, .int .i64 0, .int .i64 0, .int .i64 0, .slice none 0 0] 24)) := by
  simp [execOp, ho, go_sem]
theorem run_newF2 (ho : o.op = .alloc 24) (w : World) (o2 : Obj) : (execOp ρ o).run Try.prog (w.alloc o2) = .ok (.value (.pointer (some ⟨w.heap.size + 1, 0, none⟩))) ((w.alloc o2).alloc (.cells #[.int .i64 0, .int .i64 0, .int .i64 0, .int .i64 0, .int .i64 0, .slice none 0 0] 24)) := by
  simp [execOp, ho, go_sem]
theorem run_storeF {x y : Operand} {q : Nat} {f : Fo} (ho : o.op = .store 24 x y) (hx : ρ x = .pointer (some ⟨q, 0, none⟩)) (hy : ρ y = f.val) {w : World} {a0 a1 a2 a3 a4 a5 : Value} (h : Whole w q #[a0, a1, a2, a3, a4, a5] 24) :
    (execOp ρ o).run Try.prog w = .ok .skip (put6 w q (.int .i64 f.k) (.int .i64 f.s) (.int .i64 f.l) (.int .i64 f.h) (.int .i64 f.t) (.slice f.A f.ps.length f.c)) := by
  obtain ⟨c0, c1, c2, c3, c4, c5⟩ := h.six
  have hz := h.frozen
  simp [execOp, ho, hx, hy, go_sem, Fo.val, Fo.cells, c0, c1, c2, c3, c4, c5, hz, put6]
theorem run_moveV {x : Operand} {v : Value} (ho : o.op = .move x) (hx : ρ x = v) (w : World) : (execOp ρ o).run Try.prog w = .ok (.value v) w := by rw [← hx]; exact BigFrame.run_move x ho w
theorem run_callF {f : FuncId} {xs : Array Operand} {ts : Array TypeId} (ho : o.op = .call { callee := .value (.func f), args := xs, argTypes := ts }) (hf : ρ (.func f) = .func (.func f) #[] #[]) (hc : ∀ args w, (callFunc f args).run Try.prog w = .ok (.enter f args) w) (w : World) : (execOp ρ o).run Try.prog w = .ok (.enter f (xs.map ρ)) w := by
  simp [execOp, ho, hf, go_sem, hc]
theorem run_build2 {x y : Operand} {f g : Fo} (ho : o.op = .buildSlice 22 2 #[(0, x), (1, y)]) (hx : ρ x = f.val) (hy : ρ y = g.val) (w : World) :
    (execOp ρ o).run Try.prog w = .ok (.value (.slice (some ⟨w.heap.size, 0, none⟩) 2 2)) (w.alloc (.cells (flat [f, g]).toArray 24)) := by
  simp [execOp, ho, hx, hy, go_sem, Fo.val, Fo.cells, flat]
theorem run_build6 {x0 x1 x2 x3 x4 x5 : Operand} {f0 f1 f2 f3 f4 f5 : Fo} (ho : o.op = .buildSlice 22 6 #[(0, x0), (1, x1), (2, x2), (3, x3), (4, x4), (5, x5)]) (h0 : ρ x0 = f0.val) (h1 : ρ x1 = f1.val) (h2 : ρ x2 = f2.val) (h3 : ρ x3 = f3.val) (h4 : ρ x4 = f4.val) (h5 : ρ x5 = f5.val) (w : World) :
    (execOp ρ o).run Try.prog w = .ok (.value (.slice (some ⟨w.heap.size, 0, none⟩) 6 6)) (w.alloc (.cells (flat [f0, f1, f2, f3, f4, f5]).toArray 24)) := by
  simp [execOp, ho, h0, h1, h2, h3, h4, h5, go_sem, Fo.val, Fo.cells, flat]
end

theorem ev_self (a : Act) (n : Nat) (v : Value) (h : n < a.tmps.size) : (a.put (some n) v).eval (.tmp n) = v := by simp [Act.put, Act.eval, h]
theorem ev_ne (a : Act) {m n : Nat} (v : Value) (h : m ≠ n) : (a.put (some m) v).eval (.tmp n) = a.eval (.tmp n) := by simp [Act.put, Act.eval, h]
theorem sz_put (a : Act) (n : Nat) (v : Value) : (a.put (some n) v).tmps.size = a.tmps.size := by simp [Act.put]
theorem pc (a : Act) (m n : Nat) (u v : Value) (h : m ≠ n) : (a.put (some m) u).put (some n) v = (a.put (some n) v).put (some m) u := by
  simp only [Act.put]
  rw [Array.setIfInBounds_comm _ _ h]
theorem comm80_2 (B : Act) (u l : Value) : (B.put (some 80) u).put (some 77) l = (B.put (some 77) l).put (some 80) u := pc B 80 77 u l (by decide)
theorem comm80_1 (B : Act) (u o l : Value) : ((B.put (some 80) u).put (some 67) o).put (some 77) l = ((B.put (some 67) o).put (some 77) l).put (some 80) u := by rw [pc B 80 67 u o (by decide), pc _ 80 77 u l (by decide)]
theorem comm80_0 (B : Act) (u n o l : Value) : (((B.put (some 80) u).put (some 60) n).put (some 67) o).put (some 77) l = (((B.put (some 60) n).put (some 67) o).put (some 77) l).put (some 80) u := by rw [pc B 80 60 u n (by decide), pc _ 80 67 u o (by decide), pc _ 80 77 u l (by decide)]
theorem act_letterC {P : Program} {c : Code} {Q : Exit → Act → World → Prop} {a : Act} {w : World} (h : ∀ A, a = A → c.wp P Q A w) : c.wp P Q a w := h a rfl
theorem put_none (a : Act) (v : Value) : a.put none v = a := rfl
theorem act_letter {P : Program} {md : Region.Mode} {ops : Array Oper} {Q : Exit → Act → World → Prop} {S : World → Prop} {fuel : Nat} {listed : Array Bool} {a : Act} {w : World} (h : ∀ A, a = A → wpAnyH P md ops Q S fuel listed A w) : wpAnyH P md ops Q S fuel listed a w := h a rfl

section
variable {ops : Array Oper} {S : World → Prop} {o : Oper} {a : Act}
theorem yi (hg : o.guard = none) {v : Value} (h : ∀ w, S w → (execOp a.eval o).run Try.prog w = .ok (.value v) w) : YieldsIf Try.prog ops S o v a := .inl ⟨by simp [Region.wanted, hg], h⟩
/-- A call of a function, by its contract. -/
theorem wp_callH {f : FuncId} {xs : Array Operand} {ts : Array TypeId} (ho : o.op = .call { callee := .value (.func f), args := xs, argTypes := ts }) (hg : o.guard = none) {vs : Array Value} (hc : ∀ args w, (callFunc f args).run Try.prog w = .ok (.enter f args) w) (hv : xs.map a.eval = vs) {w : World} {K : Act → World → Prop} {Q : Exit → Act → World → Prop}
    (h : Calls Try.prog f vs w fun e w' => ∃ v, e = .returned v ∧ K (a.put o.dst v) w') : if Region.wanted o (yielded ops a.tmps) = true then Oper.wp Try.prog o a w K Q else K (a.put o.dst undef) w := by
  rw [if_pos (by simp [Region.wanted, hg])]
  subst hv
  unfold Oper.wp
  rw [run_callF ho rfl hc]
  exact h.mono fun e w' ⟨v, he, hk⟩ => by subst he; exact hk
/-- A store whose run is known. -/
theorem wp_skipH (hg : o.guard = none) {w w' : World} (hr : (execOp a.eval o).run Try.prog w = .ok .skip w') {K : Act → World → Prop} {Q : Exit → Act → World → Prop}
    (h : K (a.put o.dst undef) w') : if Region.wanted o (yielded ops a.tmps) = true then Oper.wp Try.prog o a w K Q else K (a.put o.dst undef) w := by
  rw [if_pos (by simp [Region.wanted, hg])]
  unfold Oper.wp
  rw [hr]
  exact h
/-- An operation whose run is known. -/
theorem wp_runH (hg : o.guard = none) {v : Value} {w w' : World} (hr : (execOp a.eval o).run Try.prog w = .ok (.value v) w') {K : Act → World → Prop} {Q : Exit → Act → World → Prop}
    (h : K (a.put o.dst v) w') : if Region.wanted o (yielded ops a.tmps) = true then Oper.wp Try.prog o a w K Q else K (a.put o.dst undef) w := by
  rw [if_pos (by simp [Region.wanted, hg])]
  unfold Oper.wp
  rw [hr]
  exact h
end
end Go.Proofs.Ytibbeodcheefaaa

