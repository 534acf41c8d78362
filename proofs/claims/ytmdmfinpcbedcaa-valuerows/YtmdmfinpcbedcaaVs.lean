/- Sizes of values: the small calls. -/
import Derived.Test.YtmdmfinpcbedcaaVk
import Derived.Test.YtmdmfinpcbedcaaFc
import Derived.Test.YtmdmfinpcbedcaaRf
import Derived.Laws.ShiftsVar
namespace Go.Proofs.Ytmdmfinpcbedcaa
open Go.RowKit Va

theorem ret_bool {a b : Bool} (h : a = b) : Ending.returned (.bool a) = .returned (.bool b) := by rw [h]
/-- A pair of numbers, as a call hands it out. -/
def two (r : Int × Int) : Value := .tuple #[.int .i64 r.1, .int .i64 r.2]

theorem filled_any (w : World) (v : Va) (o : Nat) (ho : o = 0 ∨ o = 1 ∨ o = 2) :
    Calls Try.prog 51 #[v.val, .int .i64 o] w fun e w' => e = .returned (.bool (fil v o)) ∧ Grew w w' none := by
  rw [vval_eq]
  have h0 : fil v 0 = decide (v.n ≠ 0) := rfl
  have h1 : fil v 1 = decide (0 < v.bs.length) := rfl
  have h2 : fil v 2 = decide (0 < v.ls.length) := rfl
  have H0 := Lib.hid h0
  have H1 := Lib.hid h1
  have H2 := Lib.hid h2
  clear h0 h1 h2
  rcases ho with rfl | rfl | rfl
  · go_enter Try.func51, Try.ntmps51
    go_wp2_with fail
    go_ret
    exact ⟨ret_bool (by rw [H0.out]; by_cases h : v.n = 0 <;> simp [h]), grew_alloc (grew_refl _ _) _⟩
  · go_enter Try.func51, Try.ntmps51
    go_wp2_with fail
    go_ret
    exact ⟨ret_bool (by rw [H1.out]), grew_alloc (grew_refl _ _) _⟩
  · go_enter Try.func51, Try.ntmps51
    go_wp2_with fail
    go_ret
    exact ⟨ret_bool (by rw [H2.out]), grew_alloc (grew_refl _ _) _⟩

theorem lone_true {v : Va} {o : Nat} (h : ∀ j, j < 3 → j ≠ o → fil v j = false) : lonB v o = true := by
  unfold lonB
  by_cases h0 : o = 0
  · subst h0; simp [h 1 (by omega) (by omega), h 2 (by omega) (by omega)]
  · by_cases h1 : o = 1
    · subst h1; simp [h 0 (by omega) (by omega), h 2 (by omega) (by omega)]
    · by_cases h2 : o = 2
      · subst h2; simp [h 0 (by omega) (by omega), h 1 (by omega) (by omega)]
      · simp [h 0 (by omega) (by omega), h 1 (by omega) (by omega), h 2 (by omega) (by omega)]
theorem lone_false {v : Va} {o j : Nat} (hj : j < 3) (hne : j ≠ o) (h : fil v j = true) : lonB v o = false := by
  unfold lonB
  have key : j = 0 ∨ j = 1 ∨ j = 2 := by omega
  rcases key with rfl | rfl | rfl
  · have : (o == 0) = false := by simp; omega
    rw [this, h]; rfl
  · have : (o == 1) = false := by simp; omega
    rw [this, h]; simp
  · have : (o == 2) = false := by simp; omega
    rw [this, h]; simp

set_option maxHeartbeats 1000000 in
theorem valone_any (w : World) (v : Va) (o : Nat) (ho : o < 3) :
    Calls Try.prog 42 #[v.val, .int .i64 o] w fun e w' => e = .returned (.bool (lonB v o)) ∧ Grew w w' none := by
  rw [vval_eq]
  have HW := Lib.hid (Whole.new w #[.int .u64 v.n, .slice v.B v.bs.length v.d, .slice v.A v.ls.length v.c] 26)
  have HR := Lib.hid (show Grew w (w.alloc (.cells #[.int .u64 v.n, .slice v.B v.bs.length v.d, .slice v.A v.ls.length v.c] 26)) none ∧ Whole (w.alloc (.cells #[.int .u64 v.n, .slice v.B v.bs.length v.d, .slice v.A v.ls.length v.c] 26)) w.heap.size #[.int .u64 v.n, .slice v.B v.bs.length v.d, .slice v.A v.ls.length v.c] 26 ∧ ∀ j, j < 0 → j ≠ o → fil v j = false from ⟨grew_alloc (grew_refl _ _) _, Whole.new _ _ _, fun j hj => by omega⟩)
  clear HW
  go_enter Try.func42, Try.ntmps42
  go_wp2_with fail
  generalize w.alloc (.cells #[.int .u64 v.n, .slice v.B v.bs.length v.d, .slice v.A v.ls.length v.c] 26) = W0 at *
  generalize w.heap.size = q at *
  go_loopw [6] (fun i wr => ∃ (n : Nat), n ≤ 3 ∧ i = .int .i64 n ∧ Hid (Grew w wr none ∧ Whole wr q #[.int .u64 v.n, .slice v.B v.bs.length v.d, .slice v.A v.ls.length v.c] 26 ∧ ∀ j, j < n → j ≠ o → fil v j = false)) (fun i _ => 3 - (intOf i).toNat)
  case atStart => exact ⟨0, by omega, rfl, HR⟩
  case round =>
    obtain ⟨n, hn, rfl, R⟩ := hrel
    by_cases hlt : n < 3
    · by_cases hno : n = o
      · subst hno
        have HR2 := Lib.hid (show Grew w wr none ∧ Whole wr q #[.int .u64 v.n, .slice v.B v.bs.length v.d, .slice v.A v.ls.length v.c] 26 ∧ ∀ j, j < n + 1 → j ≠ n → fil v j = false from ⟨R.out.1, R.out.2.1, fun j hj hjn => R.out.2.2 j (by omega) hjn⟩)
        clear R
        go_wp2_with fail
        go_roundw
        case rel => exact ⟨n + 1, by omega, by go_num, HR2⟩
        case measure => simp [intOf]; omega
      · have hb : ((n : Int) != (o : Int)) = true := by simp; omega
        obtain ⟨c0, c1, c2⟩ := R.out.2.1.three
        go_wp2_with fail
        refine (filled_any _ v n (by omega)).mono ?_
        rintro e w2 ⟨rfl, g2⟩
        cases hf : fil v n with
        | true =>
          have HE := Lib.hid (lone_false (by omega) hno hf)
          have HG := Lib.hid (grew_trans R.out.1 g2)
          clear hf g2 R c0 c1 c2 hno
          go_wp2_with fail
          go_ret
          exact ⟨by rw [HE.out]; rfl, HG.out⟩
        | false =>
          have HR2 := Lib.hid (show Grew w w2 none ∧ Whole w2 q #[.int .u64 v.n, .slice v.B v.bs.length v.d, .slice v.A v.ls.length v.c] 26 ∧ ∀ j, j < n + 1 → j ≠ o → fil v j = false from ⟨grew_trans R.out.1 g2, R.out.2.1.grew g2 (by simp), fun j hj hjn => by
            by_cases h : j = n
            · subst h; exact hf
            · exact R.out.2.2 j (by omega) hjn⟩)
          clear hf g2 R c0 c1 c2 hno
          go_wp2_with fail
          go_roundw
          case rel => exact ⟨n + 1, by omega, by go_num, HR2⟩
          case measure => simp [intOf]; omega
    · have HE := Lib.hid (lone_true (v := v) (o := o) (fun j hj hjo => R.out.2.2 j (by omega) hjo))
      have HG := Lib.hid R.out.1
      clear R
      go_wp2_with fail
      go_ret
      exact ⟨by rw [HE.out]; rfl, HG.out⟩

theorem sizeNumber_any (w : World) (k s l h t x : Int) (A : Option Addr) (m c : Nat) (hs : s = 1 ∨ s = 2 ∨ s = 3 ∨ s = 4 ∨ s = 8) (h0 : 0 ≤ x) (h1 : x ≤ 18446744073709551615) :
    Calls Try.prog 43 #[.agg #[.int .i64 k, .int .i64 s, .int .i64 l, .int .i64 h, .int .i64 t, .slice A m c], .int .u64 x] w fun e w' => e = .returned (two (if x < 256 ^ s.toNat then (s, 0) else (0, 3))) ∧ Grew w w' none := by
  rcases hs with rfl | rfl | rfl | rfl | rfl
  · by_cases hx : x < 256
    · rw [if_pos (show x < 256 ^ Int.toNat 1 from hx)]
      have hb : (x / 256 != 0) = false := by simp; omega
      clear hx
      go_enter Try.func43, Try.ntmps43
      go_wp2_with fail
      go_ret2
      exact ⟨rfl, grew_alloc (grew_refl _ _) _⟩
    · rw [if_neg (show ¬ x < 256 ^ Int.toNat 1 from hx)]
      have hb : (x / 256 != 0) = true := by simp; omega
      clear hx
      go_enter Try.func43, Try.ntmps43
      go_wp2_with fail
      go_ret2
      exact ⟨rfl, grew_alloc (grew_refl _ _) _⟩
  · by_cases hx : x < 65536
    · rw [if_pos (show x < 256 ^ Int.toNat 2 from hx)]
      have hb : (x / 65536 != 0) = false := by simp; omega
      clear hx
      go_enter Try.func43, Try.ntmps43
      go_wp2_with fail
      go_ret2
      exact ⟨rfl, grew_alloc (grew_refl _ _) _⟩
    · rw [if_neg (show ¬ x < 256 ^ Int.toNat 2 from hx)]
      have hb : (x / 65536 != 0) = true := by simp; omega
      clear hx
      go_enter Try.func43, Try.ntmps43
      go_wp2_with fail
      go_ret2
      exact ⟨rfl, grew_alloc (grew_refl _ _) _⟩
  · by_cases hx : x < 16777216
    · rw [if_pos (show x < 256 ^ Int.toNat 3 from hx)]
      have hb : (x / 16777216 != 0) = false := by simp; omega
      clear hx
      go_enter Try.func43, Try.ntmps43
      go_wp2_with fail
      go_ret2
      exact ⟨rfl, grew_alloc (grew_refl _ _) _⟩
    · rw [if_neg (show ¬ x < 256 ^ Int.toNat 3 from hx)]
      have hb : (x / 16777216 != 0) = true := by simp; omega
      clear hx
      go_enter Try.func43, Try.ntmps43
      go_wp2_with fail
      go_ret2
      exact ⟨rfl, grew_alloc (grew_refl _ _) _⟩
  · by_cases hx : x < 4294967296
    · rw [if_pos (show x < 256 ^ Int.toNat 4 from hx)]
      have hb : (x / 4294967296 != 0) = false := by simp; omega
      clear hx
      go_enter Try.func43, Try.ntmps43
      go_wp2_with fail
      go_ret2
      exact ⟨rfl, grew_alloc (grew_refl _ _) _⟩
    · rw [if_neg (show ¬ x < 256 ^ Int.toNat 4 from hx)]
      have hb : (x / 4294967296 != 0) = true := by simp; omega
      clear hx
      go_enter Try.func43, Try.ntmps43
      go_wp2_with fail
      go_ret2
      exact ⟨rfl, grew_alloc (grew_refl _ _) _⟩
  · have hx : x < 18446744073709551616 := by omega
    rw [if_pos (show x < 256 ^ Int.toNat 8 from hx)]
    have hb : (x / 18446744073709551616 != 0) = false := by simp; omega
    clear hx
    go_enter Try.func43, Try.ntmps43
    go_wp2_with fail
    go_ret2
    exact ⟨rfl, grew_alloc (grew_refl _ _) _⟩

theorem sizeLength_any (w : World) (k s l h t n : Int) (A : Option Addr) (m c : Nat) (ht : 1 ≤ t) (hl : 0 ≤ l) (hs : 1 ≤ s ∧ s ≤ 3) (hh : h ≤ 16777215) :
    Calls Try.prog 52 #[.agg #[.int .i64 k, .int .i64 s, .int .i64 l, .int .i64 h, .int .i64 t, .slice A m c], .int .i64 n] w fun e w' => e = .returned (two (wl s l h t n)) ∧ Grew w w' none := by
  by_cases a : n < l
  · have HE := Lib.hid (show wl s l h t n = (0, 5) by unfold wl; rw [if_neg (by omega)])
    go_enter Try.func52, Try.ntmps52
    go_wp2_with fail
    go_ret2
    exact ⟨by rw [HE.out]; rfl, grew_alloc (grew_refl _ _) _⟩
  · by_cases b : h < n
    · have HE := Lib.hid (show wl s l h t n = (0, 5) by unfold wl; rw [if_neg (by omega)])
      go_enter Try.func52, Try.ntmps52
      go_wp2_with fail
      go_ret2
      exact ⟨by rw [HE.out]; rfl, grew_alloc (grew_refl _ _) _⟩
    · have n0 : 0 ≤ n := by omega
      by_cases d : n % t = 0
      · have HE := Lib.hid (show wl s l h t n = (s + n, 0) by unfold wl; rw [if_pos (by omega)]; rw [Fo.plus, IntWalk.wrap64_in _ (by omega)])
        go_enter Try.func52, Try.ntmps52
        go_wp2_with fail
        go_ret2
        exact ⟨by rw [HE.out]; rfl, grew_alloc (grew_refl _ _) _⟩
      · have HE := Lib.hid (show wl s l h t n = (0, 5) by unfold wl; rw [if_neg (by omega)])
        go_enter Try.func52, Try.ntmps52
        go_wp2_with fail
        go_ret2
        exact ⟨by rw [HE.out]; rfl, grew_alloc (grew_refl _ _) _⟩
end Go.Proofs.Ytmdmfinpcbedcaa

