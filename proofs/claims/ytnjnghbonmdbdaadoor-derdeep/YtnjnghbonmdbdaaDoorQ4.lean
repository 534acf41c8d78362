/- The document's own answers of layer 10: Check. -/
import Derived.Test.YtnjnghbonmdbdaaDoorQ2
import Derived.Test.YtnjnghbonmdbdaaDoorQ3
import Derived.Test.YtnjnghbonmdbdaaDoorQ1
namespace Go.Proofs.YtnjnghbonmdbdaaDoor
open Go.RowKit

set_option maxRecDepth 100000 in
set_option maxHeartbeats 2000000 in
theorem rck1 (w : World) (A : Option Addr) (c : Nat) (xs : List UInt8) (hb : Byt w w.heap.size A xs) :
    Calls Tryd.prog 34 #[.int .i64 1, .slice A xs.length c] w fun e w' => e = .returned (.int .i64 (ckE 1 xs)) ∧ Below w.heap.size w w' := by
  match xs, hb with
  | [], _ =>
    go_enter Tryd.func34, Tryd.ntmps34
    go_wp2_with fail
    go_ret
    exact ⟨rfl, Below.refl _ _⟩
  | x :: y :: r, _ =>
    have e : ckE 1 (x :: y :: r) = 13 := rfl
    rw [e]
    have hl : (((x :: y :: r).length : Nat) : Int) = (r.length : Int) + 1 + 1 := by simp
    have h1 : ((r.length : Int) + 1 + 1 == 1) = false := beq_eq_false_iff_ne.2 (by omega)
    obtain ⟨M, hM⟩ : ∃ M, (x :: y :: r).length = M := ⟨_, rfl⟩
    have hM1 : ((M : Int) == 1) = false := beq_eq_false_iff_ne.2 (by rw [← hM]; simp; omega)
    rw [hM]
    clear e hl h1 hM
    go_enter Tryd.func34, Tryd.ntmps34
    go_wp2_with fail
    go_ret
    exact ⟨rfl, Below.refl _ _⟩
  | [x], hb =>
    obtain ⟨b, o, rfl, -, hc⟩ := hb (by simp)
    obtain ⟨d, hd⟩ : ∃ d, x.toNat = d := ⟨_, rfl⟩
    have hd256 : d < 256 := by rw [← hd]; exact x.toNat_lt
    have c0 : w.cell? ⟨b, o, none⟩ = some (.int .u8 (d : Int)) := by have := hc 0 (by simp); rw [← hd]; simpa using this
    have hr : ckE 1 [x] = if d == 0 || d == 255 then 0 else 13 := by rw [← hd]; rfl
    have HR := Lib.hid hr
    clear hr hc hd
    by_cases g1 : d = 0
    · subst g1
      have HE := Lib.hid (show ckE 1 [x] = 0 by rw [HR.out]; rfl)
      rw [HE.out]
      go_enter Tryd.func34, Tryd.ntmps34
      go_wp2_with fail
      go_ret
      exact ⟨rfl, Below.refl _ _⟩
    · have g1' : ((d : Int) == 0) = false := beq_eq_false_iff_ne.2 (by omega)
      by_cases g2 : d = 255
      · subst g2
        have HE := Lib.hid (show ckE 1 [x] = 0 by rw [HR.out]; rfl)
        rw [HE.out]
        go_enter Tryd.func34, Tryd.ntmps34
        go_wp2_with fail
        go_ret
        exact ⟨rfl, Below.refl _ _⟩
      · have g2' : ((d : Int) == 255) = false := beq_eq_false_iff_ne.2 (by omega)
        have HE := Lib.hid (show ckE 1 [x] = 13 by rw [HR.out, beq_eq_false_iff_ne.2 g1, beq_eq_false_iff_ne.2 g2]; rfl)
        rw [HE.out]
        clear g1 g2
        go_enter Tryd.func34, Tryd.ntmps34
        go_wp2_with fail
        go_ret
        exact ⟨rfl, Below.refl _ _⟩

set_option maxRecDepth 100000 in
set_option maxHeartbeats 2000000 in
theorem rck2 (w : World) (A : Option Addr) (c : Nat) (xs : List UInt8) (hb : Byt w w.heap.size A xs) :
    Calls Tryd.prog 34 #[.int .i64 2, .slice A xs.length c] w fun e w' => e = .returned (.int .i64 (if nmB xs then 0 else 13)) ∧ Below w.heap.size w w' := by
  match xs, hb with
  | [], _ =>
    go_enter Tryd.func34, Tryd.ntmps34
    go_wp2_with fail
    go_ret
    exact ⟨rfl, Below.refl _ _⟩
  | [x], _ =>
    go_enter Tryd.func34, Tryd.ntmps34
    go_wp2_with fail
    go_ret
    exact ⟨rfl, Below.refl _ _⟩
  | x :: y :: r, hb =>
    obtain ⟨b, o, rfl, -, hc⟩ := hb (by simp)
    obtain ⟨d, hd⟩ : ∃ d, x.toNat = d := ⟨_, rfl⟩
    obtain ⟨k, hk⟩ : ∃ k, y.toNat = k := ⟨_, rfl⟩
    have hd256 : d < 256 := by rw [← hd]; exact x.toNat_lt
    have hk256 : k < 256 := by rw [← hk]; exact y.toNat_lt
    have c0 : w.cell? ⟨b, o, none⟩ = some (.int .u8 (d : Int)) := by have := hc 0 (by simp); rw [← hd]; simpa using this
    have c1 : w.cell? ⟨b, o + 1, none⟩ = some (.int .u8 (k : Int)) := by have := hc 1 (by simp); rw [← hk]; simpa using this
    have hr : nmB (x :: y :: r) = (!(d == 0 && decide (k < 128)) && !(d == 255 && decide (128 ≤ k))) := by rw [← hd, ← hk]; rfl
    have HR := Lib.hid hr
    obtain ⟨M, hM⟩ : ∃ M, r.length = M := ⟨_, rfl⟩
    have hlen : (x :: y :: r).length = M + 1 + 1 := by rw [← hM]; rfl
    rw [hlen]
    have hM1 : ((M : Int) + 1 + 1 == 1) = false := beq_eq_false_iff_ne.2 (by omega)
    have hM2 : 1 < (M : Int) + 1 + 1 := by omega
    clear hr hc hd hk hM hlen
    by_cases g1 : d = 0
    · subst g1
      by_cases g3 : k < 128
      · have g3' : (k : Int) < 128 := by omega
        have HE := Lib.hid (show nmB (x :: y :: r) = false by rw [HR.out, decide_eq_true g3]; rfl)
        rw [HE.out]
        clear g3
        go_enter Tryd.func34, Tryd.ntmps34
        go_wp2_with fail
        go_ret
        exact ⟨rfl, Below.refl _ _⟩
      · have g3' : ¬ (k : Int) < 128 := by omega
        have HE := Lib.hid (show nmB (x :: y :: r) = true by rw [HR.out, decide_eq_false g3]; rfl)
        rw [HE.out]
        clear g3
        go_enter Tryd.func34, Tryd.ntmps34
        go_wp2_with fail
        go_ret
        exact ⟨rfl, Below.refl _ _⟩
    · have g1' : ((d : Int) == 0) = false := beq_eq_false_iff_ne.2 (by omega)
      by_cases g2 : d = 255
      · subst g2
        by_cases g3 : 128 ≤ k
        · have g3' : 128 ≤ (k : Int) := by omega
          have HE := Lib.hid (show nmB (x :: y :: r) = false by rw [HR.out, decide_eq_true g3]; rfl)
          rw [HE.out]
          clear g3 g1
          go_enter Tryd.func34, Tryd.ntmps34
          go_wp2_with fail
          go_ret
          exact ⟨rfl, Below.refl _ _⟩
        · have g3' : ¬ 128 ≤ (k : Int) := by omega
          have HE := Lib.hid (show nmB (x :: y :: r) = true by rw [HR.out, decide_eq_false g3]; rfl)
          rw [HE.out]
          clear g3 g1
          go_enter Tryd.func34, Tryd.ntmps34
          go_wp2_with fail
          go_ret
          exact ⟨rfl, Below.refl _ _⟩
      · have g2' : ((d : Int) == 255) = false := beq_eq_false_iff_ne.2 (by omega)
        have HE := Lib.hid (show nmB (x :: y :: r) = true by rw [HR.out, beq_eq_false_iff_ne.2 g1, beq_eq_false_iff_ne.2 g2]; rfl)
        rw [HE.out]
        clear g1 g2
        go_enter Tryd.func34, Tryd.ntmps34
        go_wp2_with fail
        go_ret
        exact ⟨rfl, Below.refl _ _⟩

set_option maxRecDepth 100000 in
set_option maxHeartbeats 2000000 in
theorem rck10 (w : World) (A : Option Addr) (c : Nat) (xs : List UInt8) (hb : Byt w w.heap.size A xs) :
    Calls Tryd.prog 34 #[.int .i64 10, .slice A xs.length c] w fun e w' => e = .returned (.int .i64 (if nmB xs then 0 else 13)) ∧ Below w.heap.size w w' := by
  match xs, hb with
  | [], _ =>
    go_enter Tryd.func34, Tryd.ntmps34
    go_wp2_with fail
    go_ret
    exact ⟨rfl, Below.refl _ _⟩
  | [x], _ =>
    go_enter Tryd.func34, Tryd.ntmps34
    go_wp2_with fail
    go_ret
    exact ⟨rfl, Below.refl _ _⟩
  | x :: y :: r, hb =>
    obtain ⟨b, o, rfl, -, hc⟩ := hb (by simp)
    obtain ⟨d, hd⟩ : ∃ d, x.toNat = d := ⟨_, rfl⟩
    obtain ⟨k, hk⟩ : ∃ k, y.toNat = k := ⟨_, rfl⟩
    have hd256 : d < 256 := by rw [← hd]; exact x.toNat_lt
    have hk256 : k < 256 := by rw [← hk]; exact y.toNat_lt
    have c0 : w.cell? ⟨b, o, none⟩ = some (.int .u8 (d : Int)) := by have := hc 0 (by simp); rw [← hd]; simpa using this
    have c1 : w.cell? ⟨b, o + 1, none⟩ = some (.int .u8 (k : Int)) := by have := hc 1 (by simp); rw [← hk]; simpa using this
    have hr : nmB (x :: y :: r) = (!(d == 0 && decide (k < 128)) && !(d == 255 && decide (128 ≤ k))) := by rw [← hd, ← hk]; rfl
    have HR := Lib.hid hr
    obtain ⟨M, hM⟩ : ∃ M, r.length = M := ⟨_, rfl⟩
    have hlen : (x :: y :: r).length = M + 1 + 1 := by rw [← hM]; rfl
    rw [hlen]
    have hM1 : ((M : Int) + 1 + 1 == 1) = false := beq_eq_false_iff_ne.2 (by omega)
    have hM2 : 1 < (M : Int) + 1 + 1 := by omega
    clear hr hc hd hk hM hlen
    by_cases g1 : d = 0
    · subst g1
      by_cases g3 : k < 128
      · have g3' : (k : Int) < 128 := by omega
        have HE := Lib.hid (show nmB (x :: y :: r) = false by rw [HR.out, decide_eq_true g3]; rfl)
        rw [HE.out]
        clear g3
        go_enter Tryd.func34, Tryd.ntmps34
        go_wp2_with fail
        go_ret
        exact ⟨rfl, Below.refl _ _⟩
      · have g3' : ¬ (k : Int) < 128 := by omega
        have HE := Lib.hid (show nmB (x :: y :: r) = true by rw [HR.out, decide_eq_false g3]; rfl)
        rw [HE.out]
        clear g3
        go_enter Tryd.func34, Tryd.ntmps34
        go_wp2_with fail
        go_ret
        exact ⟨rfl, Below.refl _ _⟩
    · have g1' : ((d : Int) == 0) = false := beq_eq_false_iff_ne.2 (by omega)
      by_cases g2 : d = 255
      · subst g2
        by_cases g3 : 128 ≤ k
        · have g3' : 128 ≤ (k : Int) := by omega
          have HE := Lib.hid (show nmB (x :: y :: r) = false by rw [HR.out, decide_eq_true g3]; rfl)
          rw [HE.out]
          clear g3 g1
          go_enter Tryd.func34, Tryd.ntmps34
          go_wp2_with fail
          go_ret
          exact ⟨rfl, Below.refl _ _⟩
        · have g3' : ¬ 128 ≤ (k : Int) := by omega
          have HE := Lib.hid (show nmB (x :: y :: r) = true by rw [HR.out, decide_eq_false g3]; rfl)
          rw [HE.out]
          clear g3 g1
          go_enter Tryd.func34, Tryd.ntmps34
          go_wp2_with fail
          go_ret
          exact ⟨rfl, Below.refl _ _⟩
      · have g2' : ((d : Int) == 255) = false := beq_eq_false_iff_ne.2 (by omega)
        have HE := Lib.hid (show nmB (x :: y :: r) = true by rw [HR.out, beq_eq_false_iff_ne.2 g1, beq_eq_false_iff_ne.2 g2]; rfl)
        rw [HE.out]
        clear g1 g2
        go_enter Tryd.func34, Tryd.ntmps34
        go_wp2_with fail
        go_ret
        exact ⟨rfl, Below.refl _ _⟩

set_option maxRecDepth 100000 in
set_option maxHeartbeats 2000000 in
theorem rck3 (w : World) (A : Option Addr) (c : Nat) (xs : List UInt8) (hb : Byt w w.heap.size A xs) (hl : xs.length ≤ 140737488351232) :
    Calls Tryd.prog 34 #[.int .i64 3, .slice A xs.length c] w fun e w' => e = .returned (.int .i64 (if bt xs then 0 else 13)) ∧ Below w.heap.size w w' := by
  have h := rbits_any w A c xs hb hl
  obtain ⟨L, hL⟩ : ∃ L, xs.length = L := ⟨_, rfl⟩
  rw [hL] at h ⊢
  clear hl hb hL
  cases hv : bt xs with
  | true =>
    rw [hv] at h
    clear hv
    go_enter Tryd.func34, Tryd.ntmps34
    go_wp2_with fail
    refine h.mono ?_
    rintro e w' ⟨rfl, rfl⟩
    go_wp2_with fail
    go_ret
    exact ⟨rfl, Below.refl _ _⟩
  | false =>
    rw [hv] at h
    clear hv
    go_enter Tryd.func34, Tryd.ntmps34
    go_wp2_with fail
    refine h.mono ?_
    rintro e w' ⟨rfl, rfl⟩
    go_wp2_with fail
    go_ret
    exact ⟨rfl, Below.refl _ _⟩

set_option maxRecDepth 100000 in
set_option maxHeartbeats 2000000 in
theorem rck6 (w : World) (A : Option Addr) (c : Nat) (xs : List UInt8) (hb : Byt w w.heap.size A xs) (hl : xs.length ≤ 140737488351232) :
    Calls Tryd.prog 34 #[.int .i64 6, .slice A xs.length c] w fun e w' => e = .returned (.int .i64 (if ob xs then 0 else 13)) ∧ Below w.heap.size w w' := by
  have h := roid_any w A c xs hb hl
  obtain ⟨L, hL⟩ : ∃ L, xs.length = L := ⟨_, rfl⟩
  rw [hL] at h ⊢
  clear hl hb hL
  cases hv : ob xs with
  | true =>
    rw [hv] at h
    clear hv
    go_enter Tryd.func34, Tryd.ntmps34
    go_wp2_with fail
    refine h.mono ?_
    rintro e w' ⟨rfl, rfl⟩
    go_wp2_with fail
    go_ret
    exact ⟨rfl, Below.refl _ _⟩
  | false =>
    rw [hv] at h
    clear hv
    go_enter Tryd.func34, Tryd.ntmps34
    go_wp2_with fail
    refine h.mono ?_
    rintro e w' ⟨rfl, rfl⟩
    go_wp2_with fail
    go_ret
    exact ⟨rfl, Below.refl _ _⟩

set_option maxRecDepth 100000 in
set_option maxHeartbeats 2000000 in
theorem rck5 (w : World) (A : Option Addr) (c : Nat) (xs : List UInt8) :
    Calls Tryd.prog 34 #[.int .i64 5, .slice A xs.length c] w fun e w' => e = .returned (.int .i64 (if xs.length == 0 then 0 else 13)) ∧ Below w.heap.size w w' := by
  obtain ⟨L, hL⟩ : ∃ L, xs.length = L := ⟨_, rfl⟩
  rw [hL]
  by_cases h0 : L = 0
  · subst h0
    go_enter Tryd.func34, Tryd.ntmps34
    go_wp2_with fail
    go_ret
    exact ⟨rfl, Below.refl _ _⟩
  · have h1 : ((L : Int) == 0) = false := beq_eq_false_iff_ne.2 (by omega)
    rw [beq_eq_false_iff_ne.2 h0]
    clear h0
    go_enter Tryd.func34, Tryd.ntmps34
    go_wp2_with fail
    go_ret
    exact ⟨rfl, Below.refl _ _⟩

set_option maxRecDepth 100000 in
set_option maxHeartbeats 2000000 in
theorem rck23 (w : World) (A : Option Addr) (c : Nat) (xs : List UInt8) (hb : Byt w w.heap.size A xs) (hl : xs.length ≤ c) :
    Calls Tryd.prog 34 #[.int .i64 23, .slice A xs.length c] w fun e w' => e = .returned (.int .i64 (if tyOk 23 xs then 0 else 13)) ∧ Below w.heap.size w w' := by
  have h := rtime23 w A c xs hb hl
  obtain ⟨L, hL⟩ : ∃ L, xs.length = L := ⟨_, rfl⟩
  unfold TimePost at h
  rw [hL] at h ⊢
  clear hl hb hL
  generalize (if tyOk 23 xs = true then tyL 23 xs else [0, 0, 0, 0, 0, 0]) = zs at h
  cases hv : tyOk 23 xs with
  | true =>
    rw [hv] at h
    clear hv
    go_enter Tryd.func34, Tryd.ntmps34
    go_wp2_with fail
    refine h.mono ?_
    rintro e w' ⟨rfl, hB⟩
    go_wp2_with fail
    go_ret
    exact ⟨rfl, hB⟩
  | false =>
    rw [hv] at h
    clear hv
    go_enter Tryd.func34, Tryd.ntmps34
    go_wp2_with fail
    refine h.mono ?_
    rintro e w' ⟨rfl, hB⟩
    go_wp2_with fail
    go_ret
    exact ⟨rfl, hB⟩

set_option maxRecDepth 100000 in
set_option maxHeartbeats 2000000 in
theorem rck24 (w : World) (A : Option Addr) (c : Nat) (xs : List UInt8) (hb : Byt w w.heap.size A xs) (hl : xs.length ≤ c) :
    Calls Tryd.prog 34 #[.int .i64 24, .slice A xs.length c] w fun e w' => e = .returned (.int .i64 (if tyOk 24 xs then 0 else 13)) ∧ Below w.heap.size w w' := by
  have h := rtime24 w A c xs hb hl
  obtain ⟨L, hL⟩ : ∃ L, xs.length = L := ⟨_, rfl⟩
  unfold TimePost at h
  rw [hL] at h ⊢
  clear hl hb hL
  generalize (if tyOk 24 xs = true then tyL 24 xs else [0, 0, 0, 0, 0, 0]) = zs at h
  cases hv : tyOk 24 xs with
  | true =>
    rw [hv] at h
    clear hv
    go_enter Tryd.func34, Tryd.ntmps34
    go_wp2_with fail
    refine h.mono ?_
    rintro e w' ⟨rfl, hB⟩
    go_wp2_with fail
    go_ret
    exact ⟨rfl, hB⟩
  | false =>
    rw [hv] at h
    clear hv
    go_enter Tryd.func34, Tryd.ntmps34
    go_wp2_with fail
    refine h.mono ?_
    rintro e w' ⟨rfl, hB⟩
    go_wp2_with fail
    go_ret
    exact ⟨rfl, hB⟩

set_option maxRecDepth 100000 in
set_option maxHeartbeats 2000000 in
theorem rck4 (w : World) (A : Option Addr) (c : Nat) (xs : List UInt8) :
    Calls Tryd.prog 34 #[.int .i64 4, .slice A xs.length c] w fun e w' => e = .returned (.int .i64 (0)) ∧ Below w.heap.size w w' := by
  obtain ⟨L, hL⟩ : ∃ L, xs.length = L := ⟨_, rfl⟩
  rw [hL]
  go_enter Tryd.func34, Tryd.ntmps34
  go_wp2_with fail
  go_ret
  exact ⟨rfl, Below.refl _ _⟩

set_option maxRecDepth 100000 in
set_option maxHeartbeats 2000000 in
theorem rck12 (w : World) (A : Option Addr) (c : Nat) (xs : List UInt8) :
    Calls Tryd.prog 34 #[.int .i64 12, .slice A xs.length c] w fun e w' => e = .returned (.int .i64 (0)) ∧ Below w.heap.size w w' := by
  obtain ⟨L, hL⟩ : ∃ L, xs.length = L := ⟨_, rfl⟩
  rw [hL]
  go_enter Tryd.func34, Tryd.ntmps34
  go_wp2_with fail
  go_ret
  exact ⟨rfl, Below.refl _ _⟩

set_option maxRecDepth 100000 in
set_option maxHeartbeats 2000000 in
theorem rck18 (w : World) (A : Option Addr) (c : Nat) (xs : List UInt8) :
    Calls Tryd.prog 34 #[.int .i64 18, .slice A xs.length c] w fun e w' => e = .returned (.int .i64 (0)) ∧ Below w.heap.size w w' := by
  obtain ⟨L, hL⟩ : ∃ L, xs.length = L := ⟨_, rfl⟩
  rw [hL]
  go_enter Tryd.func34, Tryd.ntmps34
  go_wp2_with fail
  go_ret
  exact ⟨rfl, Below.refl _ _⟩

set_option maxRecDepth 100000 in
set_option maxHeartbeats 2000000 in
theorem rck19 (w : World) (A : Option Addr) (c : Nat) (xs : List UInt8) :
    Calls Tryd.prog 34 #[.int .i64 19, .slice A xs.length c] w fun e w' => e = .returned (.int .i64 (0)) ∧ Below w.heap.size w w' := by
  obtain ⟨L, hL⟩ : ∃ L, xs.length = L := ⟨_, rfl⟩
  rw [hL]
  go_enter Tryd.func34, Tryd.ntmps34
  go_wp2_with fail
  go_ret
  exact ⟨rfl, Below.refl _ _⟩

set_option maxRecDepth 100000 in
set_option maxHeartbeats 2000000 in
theorem rck20 (w : World) (A : Option Addr) (c : Nat) (xs : List UInt8) :
    Calls Tryd.prog 34 #[.int .i64 20, .slice A xs.length c] w fun e w' => e = .returned (.int .i64 (0)) ∧ Below w.heap.size w w' := by
  obtain ⟨L, hL⟩ : ∃ L, xs.length = L := ⟨_, rfl⟩
  rw [hL]
  go_enter Tryd.func34, Tryd.ntmps34
  go_wp2_with fail
  go_ret
  exact ⟨rfl, Below.refl _ _⟩

set_option maxRecDepth 100000 in
set_option maxHeartbeats 2000000 in
theorem rck22 (w : World) (A : Option Addr) (c : Nat) (xs : List UInt8) :
    Calls Tryd.prog 34 #[.int .i64 22, .slice A xs.length c] w fun e w' => e = .returned (.int .i64 (0)) ∧ Below w.heap.size w w' := by
  obtain ⟨L, hL⟩ : ∃ L, xs.length = L := ⟨_, rfl⟩
  rw [hL]
  go_enter Tryd.func34, Tryd.ntmps34
  go_wp2_with fail
  go_ret
  exact ⟨rfl, Below.refl _ _⟩

set_option maxRecDepth 100000 in
set_option maxHeartbeats 2000000 in
theorem rck26 (w : World) (A : Option Addr) (c : Nat) (xs : List UInt8) :
    Calls Tryd.prog 34 #[.int .i64 26, .slice A xs.length c] w fun e w' => e = .returned (.int .i64 (0)) ∧ Below w.heap.size w w' := by
  obtain ⟨L, hL⟩ : ∃ L, xs.length = L := ⟨_, rfl⟩
  rw [hL]
  go_enter Tryd.func34, Tryd.ntmps34
  go_wp2_with fail
  go_ret
  exact ⟨rfl, Below.refl _ _⟩

set_option maxRecDepth 100000 in
set_option maxHeartbeats 2000000 in
theorem rck28 (w : World) (A : Option Addr) (c : Nat) (xs : List UInt8) :
    Calls Tryd.prog 34 #[.int .i64 28, .slice A xs.length c] w fun e w' => e = .returned (.int .i64 (0)) ∧ Below w.heap.size w w' := by
  obtain ⟨L, hL⟩ : ∃ L, xs.length = L := ⟨_, rfl⟩
  rw [hL]
  go_enter Tryd.func34, Tryd.ntmps34
  go_wp2_with fail
  go_ret
  exact ⟨rfl, Below.refl _ _⟩

set_option maxRecDepth 100000 in
set_option maxHeartbeats 2000000 in
theorem rck30 (w : World) (A : Option Addr) (c : Nat) (xs : List UInt8) :
    Calls Tryd.prog 34 #[.int .i64 30, .slice A xs.length c] w fun e w' => e = .returned (.int .i64 (0)) ∧ Below w.heap.size w w' := by
  obtain ⟨L, hL⟩ : ∃ L, xs.length = L := ⟨_, rfl⟩
  rw [hL]
  go_enter Tryd.func34, Tryd.ntmps34
  go_wp2_with fail
  go_ret
  exact ⟨rfl, Below.refl _ _⟩

set_option maxRecDepth 100000 in
set_option maxHeartbeats 2000000 in
theorem rckno (w : World) (A : Option Addr) (c : Nat) (xs : List UInt8) (tag : Int) (h1 : (tag == 1) = false) (h2 : (tag == 2) = false) (h10 : (tag == 10) = false) (h3 : (tag == 3) = false) (h5 : (tag == 5) = false) (h6 : (tag == 6) = false) (h23 : (tag == 23) = false) (h24 : (tag == 24) = false) (h4 : (tag == 4) = false) (h12 : (tag == 12) = false) (h18 : (tag == 18) = false) (h19 : (tag == 19) = false) (h20 : (tag == 20) = false) (h22 : (tag == 22) = false) (h26 : (tag == 26) = false) (h28 : (tag == 28) = false) (h30 : (tag == 30) = false) :
    Calls Tryd.prog 34 #[.int .i64 tag, .slice A xs.length c] w fun e w' => e = .returned (.int .i64 (2)) ∧ Below w.heap.size w w' := by
  obtain ⟨L, hL⟩ : ∃ L, xs.length = L := ⟨_, rfl⟩
  rw [hL]
  go_enter Tryd.func34, Tryd.ntmps34
  go_wp2_with fail
  go_ret
  exact ⟨rfl, Below.refl _ _⟩

/-- What the document's Check answers. -/
theorem rcheck_any (w : World) (tag : Int) (A : Option Addr) (c : Nat) (xs : List UInt8) (hb : Byt w w.heap.size A xs) (hlc : xs.length ≤ c) (hl : xs.length ≤ 140737488351232) :
    Calls Tryd.prog 34 #[.int .i64 tag, .slice A xs.length c] w fun e w' => e = .returned (.int .i64 (ckE tag xs)) ∧ Below w.heap.size w w' := by
  by_cases e1 : tag = 1
  · subst e1; exact rck1 w A c xs hb
  by_cases e2 : tag = 2
  · subst e2; exact rck2 w A c xs hb
  by_cases e10 : tag = 10
  · subst e10; exact rck10 w A c xs hb
  by_cases e3 : tag = 3
  · subst e3; exact rck3 w A c xs hb hl
  by_cases e5 : tag = 5
  · subst e5; exact rck5 w A c xs
  by_cases e6 : tag = 6
  · subst e6; exact rck6 w A c xs hb hl
  by_cases e23 : tag = 23
  · subst e23; exact rck23 w A c xs hb hlc
  by_cases e24 : tag = 24
  · subst e24; exact rck24 w A c xs hb hlc
  by_cases e4 : tag = 4
  · subst e4; exact rck4 w A c xs
  by_cases e12 : tag = 12
  · subst e12; exact rck12 w A c xs
  by_cases e18 : tag = 18
  · subst e18; exact rck18 w A c xs
  by_cases e19 : tag = 19
  · subst e19; exact rck19 w A c xs
  by_cases e20 : tag = 20
  · subst e20; exact rck20 w A c xs
  by_cases e22 : tag = 22
  · subst e22; exact rck22 w A c xs
  by_cases e26 : tag = 26
  · subst e26; exact rck26 w A c xs
  by_cases e28 : tag = 28
  · subst e28; exact rck28 w A c xs
  by_cases e30 : tag = 30
  · subst e30; exact rck30 w A c xs
  have e : ckE tag xs = 2 := by unfold ckE; simp [e1, e2, e10, e3, e5, e6, e23, e24, e4, e12, e18, e19, e20, e22, e26, e28, e30]
  rw [e]
  exact rckno w A c xs tag (beq_eq_false_iff_ne.2 e1) (beq_eq_false_iff_ne.2 e2) (beq_eq_false_iff_ne.2 e10) (beq_eq_false_iff_ne.2 e3) (beq_eq_false_iff_ne.2 e5) (beq_eq_false_iff_ne.2 e6) (beq_eq_false_iff_ne.2 e23) (beq_eq_false_iff_ne.2 e24) (beq_eq_false_iff_ne.2 e4) (beq_eq_false_iff_ne.2 e12) (beq_eq_false_iff_ne.2 e18) (beq_eq_false_iff_ne.2 e19) (beq_eq_false_iff_ne.2 e20) (beq_eq_false_iff_ne.2 e22) (beq_eq_false_iff_ne.2 e26) (beq_eq_false_iff_ne.2 e28) (beq_eq_false_iff_ne.2 e30)
end Go.Proofs.YtnjnghbonmdbdaaDoor


/- The document's own answers of layer 11: the bytes of a thing that isn't made of others. -/
namespace Go.Proofs.YtnjnghbonmdbdaaDoor
open Go.RowKit Nd

/-- What a write leaves. -/
def WrP (w : World) (R : List UInt8 × Int) (e : Ending) (w' : World) : Prop :=
  ∃ (A : Option Addr) (c : Nat), e = .returned (.tuple #[.slice A R.1.length c, .int .i64 R.2]) ∧ R.1.length ≤ c ∧ Byt w' w'.heap.size A R.1 ∧ Grew w w' none
theorem WrP.err {w w' : World} {R : List UInt8 × Int} {E : Int} (h : R = ([], E)) (g : Grew w w' none) : WrP w R (.returned (.tuple #[.slice none 0 0, .int .i64 E])) w' := by
  subst h
  exact ⟨none, 0, rfl, Nat.le_refl _, fun h => by simp at h, g⟩

theorem Whole.below {w w' : World} {n q : Nat} {cs : Array Value} {t : TypeId} (h : Whole w q cs t) (b : Below n w w') (hq : q < n) : Whole w' q cs t := (b.block q hq).trans h
theorem grew_of_below {w w' : World} (h : Below w.heap.size w w') : Grew w w' none := ⟨h.os, h.tape, h.output, h.size, fun i hi _ => h.block i hi⟩

set_option maxRecDepth 100000 in
set_option maxHeartbeats 2000000 in
/-- Where nothing is made of others. -/
theorem rwrite_leaf (k t : Int) (B : Option Addr) (d : Nat) (bs : List UInt8) (A : Option Addr) (c : Nat) (ls : List Nd) (w : World) (hin : (Nd.mk k t false B d bs A c ls).In w) (hz : bs.length ≤ 1099511627776) :
    Calls Tryd.prog 26 #[(Nd.mk k t false B d bs A c ls).val] w (WrP w (Nd.mk k t false B d bs A c ls).wn) := by
  obtain ⟨R, hR⟩ : ∃ R, (Nd.mk k t false B d bs A c ls).wn = R := ⟨_, rfl⟩
  rw [hR]
  have hR2 := hR.symm
  rw [wn] at hR2
  simp only [Bool.false_eq_true, false_and, false_or, true_and] at hR2
  have HR := Lib.hid hR2
  have hby := hin.bytes.1
  have hbd : bs.length ≤ d := hin.bytes.2.1
  have hls : ls.length ≤ 1954687338268 := hin.list.2.2
  obtain ⟨Z, hZ⟩ : ∃ Z, bs.length = Z := ⟨_, rfl⟩
  obtain ⟨L, hL⟩ : ∃ L, ls.length = L := ⟨_, rfl⟩
  have HZ := Lib.hid hZ
  have HL := Lib.hid hL
  have hZI : (Z : Int) ≤ 1099511627776 := by omega
  have hLI : (L : Int) ≤ 1954687338268 := by omega
  have HB := Lib.hid (show Byt w w.heap.size B bs from hby)
  have HD := Lib.hid hbd
  have HW := Lib.hid (show Whole (w.alloc (.cells #[.int .i64 k, .int .i64 t, .bool false, .slice B Z d, .slice A L c] 27)) w.heap.size #[.int .i64 k, .int .i64 t, .bool false, .slice B Z d, .slice A L c] 27 from Whole.new _ _ _)
  have HG := Lib.hid (show Grew w (w.alloc (.cells #[.int .i64 k, .int .i64 t, .bool false, .slice B Z d, .slice A L c] 27)) none from grew_alloc (grew_refl _ _) _)
  change Calls Tryd.prog 26 #[.agg #[.int .i64 k, .int .i64 t, .bool false, .slice B bs.length d, .slice A ls.length c]] w _
  rw [hZ, hL]
  clear hin hR hR2 hby hbd hls hZ hL hz
  go_enter Tryd.func26, Tryd.ntmps26
  go_upto_region 1 with (fail)
  generalize w.alloc (.cells #[.int .i64 k, .int .i64 t, .bool false, .slice B Z d, .slice A L c] 27) = W at *
  obtain ⟨q, hq⟩ : ∃ q, w.heap.size = q := ⟨_, rfl⟩
  rw [hq] at HW ⊢
  have HQ := Lib.hid hq
  clear hq
  have c0 : W.cell? ⟨q, 0, none⟩ = some (.int .i64 k) := HW.out.cell 0
  have c1 : W.cell? ⟨q, 1, none⟩ = some (.int .i64 t) := HW.out.cell 1
  have c2 : W.cell? ⟨q, 2, none⟩ = some (.bool false) := HW.out.cell 2
  have c3 : W.cell? ⟨q, 3, none⟩ = some (.slice B Z d) := HW.out.cell 3
  have c4 : W.cell? ⟨q, 4, none⟩ = some (.slice A L c) := HW.out.cell 4
  go_wp2_with fail
  refine (rkind_any W k t false).mono ?_
  rintro e w' ⟨rfl, hw⟩
  obtain rfl : W = w' := hw.symm
  cases hk : kd k t false with
  | false =>
    have HE := Lib.hid (show R = ([], 13) by rw [HR.out, if_pos hk])
    clear hk
    go_wp2_with fail
    go_ret2
    exact WrP.err HE.out HG.out
  | true =>
  have HR1 := Lib.hid HR.out
  rw [hk] at HR1
  have HK := Lib.hid hk
  clear hk HR
  rcases (Decidable.em (L = 0)).symm with g1 | g1
  · have g1' : (0 : Int) < (L : Int) := by omega
    have HE := Lib.hid (show R = ([], 15) by rw [HR1.out, if_neg (by simp), if_pos (by rw [HL.out]; omega)])
    clear g1
    go_wp2_with fail
    go_ret2
    exact WrP.err HE.out HG.out
  obtain rfl : ls = [] := List.eq_nil_of_length_eq_zero (by rw [HL.out]; exact g1)
  subst g1
  have HR2 := Lib.hid HR1.out
  rw [if_neg (by simp), if_neg (by simp), wns.eq_1] at HR2
  simp only [ne_eq, not_true, if_false, List.append_nil] at HR2
  clear HR1
  rcases Decidable.em (k = 0) with g2 | g2
  · have g2' : (k == 0) = true := beq_iff_eq.2 g2
    have HC := Lib.hid (rcheck_any W t B d bs ((HB.out.grew HG.out (fun _ e => by cases e)).more HG.out.size) HD.out (by have := HZ.out; omega))
    rw [HZ.out] at HC
    rcases (Decidable.em (ckE t bs = 0)).symm with g3 | g3
    · have HE := Lib.hid (show R = ([], 13) by rw [HR2.out, if_pos ⟨g2, g3⟩])
      have g3' : (ckE t bs != 0) = true := bne_iff_ne.2 g3
      generalize ckE t bs = C at *
      clear g2 g3 HR2
      go_wp2_with fail
      refine HC.out.mono ?_
      rintro e w' ⟨rfl, hB⟩
      have HG2 := Lib.hid (grew_trans HG.out (grew_of_below hB))
      clear hB HC
      go_wp2_with fail
      go_ret2
      exact WrP.err HE.out HG2.out
    · have HR3 := Lib.hid HR2.out
      rw [if_neg (fun h => h.2 g3)] at HR3
      have g3' : (ckE t bs != 0) = false := by rw [g3]; rfl
      generalize ckE t bs = C at *
      clear g2 g3 HR2
      go_wp2_with fail
      refine HC.out.mono ?_
      rintro e W2 ⟨rfl, hB⟩
      have HG2 := Lib.hid (grew_trans HG.out (grew_of_below hB))
      have HW2 := Lib.hid (HW.out.grew (grew_of_below hB) (by simp))
      clear hB HC c0 c1 c2 c3 c4 HW HG g2'
      have c0 : W2.cell? ⟨q, 0, none⟩ = some (.int .i64 k) := HW2.out.cell 0
      have c1 : W2.cell? ⟨q, 1, none⟩ = some (.int .i64 t) := HW2.out.cell 1
      have c2 : W2.cell? ⟨q, 2, none⟩ = some (.bool false) := HW2.out.cell 2
      have c3 : W2.cell? ⟨q, 3, none⟩ = some (.slice B Z d) := HW2.out.cell 3
      have c4 : W2.cell? ⟨q, 4, none⟩ = some (.slice A 0 c) := HW2.out.cell 4
      go_upto_region 9 with (fail)
      clear g3'

      have c3a : (W2.alloc (.cells #[] 5)).cell? ⟨q, 3, none⟩ = some (.slice B Z d) := (grew_alloc (grew_refl W2 none) _).cell c3 (by simp)
      have a9 := Lib.hid (fun ty => app_more (own8_none W2.heap.size W2 W2 (Below.refl _ _) (Nat.le_refl _)) (A := B) (bs := bs) ((HB.out.grew (grew_alloc HG2.out _) (fun _ e => by cases e)).more (grew_alloc HG2.out _).size) d (by have := HZ.out; simp; omega) ty)
      rw [HZ.out] at a9
      go_upto_region 11 with (at_builtin; refine wpList_append_run _ rfl (.tmp 52) (.tmp 54) 22 rfl rfl rfl a9.out ?_; rintro v1 w1 a1; have A1 := Lib.hid a1; clear a1 a9)
      rw [List.nil_append] at A1
      have HW3 := Lib.hid (HW2.out.below A1.out.bel HW2.out.lt)
      clear c0 c1 c2 c3 c3a c4 HW2
      obtain ⟨A5, d5, rfl, hd5, hb5⟩ := A1.out.form
      have HB5 := Lib.hid (And.intro hd5 hb5)
      clear hd5 hb5
      rw [HZ.out] at A1 ⊢
      have c4 : w1.cell? ⟨q, 4, none⟩ = some (.slice A 0 c) := HW3.out.cell 4
      go_loopw [5, 6] (fun v i wr => v = .slice A5 Z d5 ∧ i = .int .i64 0 ∧ w1 = wr) (fun _ _ _ => 0)
      case atStart => exact ⟨rfl, rfl, rfl⟩
      case round =>
        obtain ⟨rfl, rfl, rfl⟩ := hrel
        go_upto_region 17 with (fail)
        have c0 : w1.cell? ⟨q, 0, none⟩ = some (.int .i64 k) := HW3.out.cell 0
        have c1 : w1.cell? ⟨q, 1, none⟩ = some (.int .i64 t) := HW3.out.cell 1
        have c2 : w1.cell? ⟨q, 2, none⟩ = some (.bool false) := HW3.out.cell 2
        by_cases g5 : 16777215 < Z
        · have g5' : 16777215 < (Z : Int) := by omega
          have HE := Lib.hid (show R = ([], 5) by rw [HR3.out, if_pos (by rw [HZ.out]; exact g5)])
          go_wp2_with fail
          go_ret2
          exact WrP.err HE.out (grew_trans HG2.out (grew_of_below A1.out.bel))
        · have g5' : ¬ 16777215 < (Z : Int) := by omega
          have HE := Lib.hid (show R = (putH ⟨k, t, false, (Z : Int)⟩ ++ bs, 0) by rw [HR3.out, HZ.out, if_neg g5])
          clear g5 HR3
          go_wp2_with fail
          refine (rput_any w1 ⟨k, t, false, (Z : Int)⟩ HK.out (show (0 : Int) ≤ (Z : Int) by omega) (show (Z : Int) ≤ 16777215 by omega)).mono ?_
          rintro e w2 ⟨v2, rfl, o2, b2, k2⟩
          have A2 := Lib.hid (show Own8 W2.heap.size W2 w2 v2 (putH ⟨k, t, false, (Z : Int)⟩) from ⟨o2, fun k hk => Nat.le_trans A1.out.sz (k2 k hk), A1.out.bel.trans (b2.mono A1.out.sz), Nat.le_trans A1.out.sz b2.size⟩)
          have HB6 := Lib.hid (show Byt w2 w2.heap.size A5 bs from (HB5.out.2.grew (grew_of_below b2) (fun _ e => by cases e)).more b2.size)
          clear o2 b2 k2 c0 c1 c2 c4
          have a20 := Lib.hid (fun ty => app_more A2.out HB6.out d5 (by have := putH_le5 ⟨k, t, false, (Z : Int)⟩; have := HZ.out; omega) ty)
          rw [HZ.out] at a20
          go_wp2_with (at_builtin; refine wpList_append_run _ rfl (.tmp 91) (.tmp 92) 22 rfl rfl rfl a20.out ?_; rintro v3 w3 a3; have A3 := Lib.hid a3; clear a3 a20)
          go_ret2
          obtain ⟨A7, d7, rfl, hd7, hb7⟩ := A3.out.form
          rw [HE.out]
          exact ⟨A7, d7, rfl, hd7, hb7, grew_trans HG2.out (grew_of_below A3.out.bel)⟩
  · have g2' : (k == 0) = false := beq_eq_false_iff_ne.2 g2
    have HR3 := Lib.hid HR2.out
    rw [if_neg (fun h => g2 h.1)] at HR3
    clear g2 HR2
    have HG2 := Lib.hid HG.out
    have HW2 := Lib.hid HW.out
    clear HG HW
    go_upto_region 9 with (fail)
    clear g2'
    generalize W = W2 at *
    have c3a : (W2.alloc (.cells #[] 5)).cell? ⟨q, 3, none⟩ = some (.slice B Z d) := (grew_alloc (grew_refl W2 none) _).cell c3 (by simp)
    have a9 := Lib.hid (fun ty => app_more (own8_none W2.heap.size W2 W2 (Below.refl _ _) (Nat.le_refl _)) (A := B) (bs := bs) ((HB.out.grew (grew_alloc HG2.out _) (fun _ e => by cases e)).more (grew_alloc HG2.out _).size) d (by have := HZ.out; simp; omega) ty)
    rw [HZ.out] at a9
    go_upto_region 11 with (at_builtin; refine wpList_append_run _ rfl (.tmp 52) (.tmp 54) 22 rfl rfl rfl a9.out ?_; rintro v1 w1 a1; have A1 := Lib.hid a1; clear a1 a9)
    rw [List.nil_append] at A1
    have HW3 := Lib.hid (HW2.out.below A1.out.bel HW2.out.lt)
    clear c0 c1 c2 c3 c3a c4 HW2
    obtain ⟨A5, d5, rfl, hd5, hb5⟩ := A1.out.form
    have HB5 := Lib.hid (And.intro hd5 hb5)
    clear hd5 hb5
    rw [HZ.out] at A1 ⊢
    have c4 : w1.cell? ⟨q, 4, none⟩ = some (.slice A 0 c) := HW3.out.cell 4
    go_loopw [5, 6] (fun v i wr => v = .slice A5 Z d5 ∧ i = .int .i64 0 ∧ w1 = wr) (fun _ _ _ => 0)
    case atStart => exact ⟨rfl, rfl, rfl⟩
    case round =>
      obtain ⟨rfl, rfl, rfl⟩ := hrel
      go_upto_region 17 with (fail)
      have c0 : w1.cell? ⟨q, 0, none⟩ = some (.int .i64 k) := HW3.out.cell 0
      have c1 : w1.cell? ⟨q, 1, none⟩ = some (.int .i64 t) := HW3.out.cell 1
      have c2 : w1.cell? ⟨q, 2, none⟩ = some (.bool false) := HW3.out.cell 2
      by_cases g5 : 16777215 < Z
      · have g5' : 16777215 < (Z : Int) := by omega
        have HE := Lib.hid (show R = ([], 5) by rw [HR3.out, if_pos (by rw [HZ.out]; exact g5)])
        go_wp2_with fail
        go_ret2
        exact WrP.err HE.out (grew_trans HG2.out (grew_of_below A1.out.bel))
      · have g5' : ¬ 16777215 < (Z : Int) := by omega
        have HE := Lib.hid (show R = (putH ⟨k, t, false, (Z : Int)⟩ ++ bs, 0) by rw [HR3.out, HZ.out, if_neg g5])
        clear g5 HR3
        go_wp2_with fail
        refine (rput_any w1 ⟨k, t, false, (Z : Int)⟩ HK.out (show (0 : Int) ≤ (Z : Int) by omega) (show (Z : Int) ≤ 16777215 by omega)).mono ?_
        rintro e w2 ⟨v2, rfl, o2, b2, k2⟩
        have A2 := Lib.hid (show Own8 W2.heap.size W2 w2 v2 (putH ⟨k, t, false, (Z : Int)⟩) from ⟨o2, fun k hk => Nat.le_trans A1.out.sz (k2 k hk), A1.out.bel.trans (b2.mono A1.out.sz), Nat.le_trans A1.out.sz b2.size⟩)
        have HB6 := Lib.hid (show Byt w2 w2.heap.size A5 bs from (HB5.out.2.grew (grew_of_below b2) (fun _ e => by cases e)).more b2.size)
        clear o2 b2 k2 c0 c1 c2 c4
        have a20 := Lib.hid (fun ty => app_more A2.out HB6.out d5 (by have := putH_le5 ⟨k, t, false, (Z : Int)⟩; have := HZ.out; omega) ty)
        rw [HZ.out] at a20
        go_wp2_with (at_builtin; refine wpList_append_run _ rfl (.tmp 91) (.tmp 92) 22 rfl rfl rfl a20.out ?_; rintro v3 w3 a3; have A3 := Lib.hid a3; clear a3 a20)
        go_ret2
        obtain ⟨A7, d7, rfl, hd7, hb7⟩ := A3.out.form
        rw [HE.out]
        exact ⟨A7, d7, rfl, hd7, hb7, grew_trans HG2.out (grew_of_below A3.out.bel)⟩
end Go.Proofs.YtnjnghbonmdbdaaDoor


/- The document's own answers of layer 11: the bytes of any thing. -/
namespace Go.Proofs.YtnjnghbonmdbdaaDoor
open Go.RowKit Nd

theorem Nd.len_le_cnts (ls : List Nd) : ls.length ≤ cnts ls := by
  induction ls with
  | nil => simp [cnts]
  | cons x xs ih => have := cnt_pos x; simp only [cnts, List.length_cons]; omega
theorem Nd.cnt_le_cnts {ls : List Nd} {p : Nd} (h : p ∈ ls) : p.cnt ≤ cnts ls := by
  induction ls with
  | nil => cases h
  | cons x xs ih =>
    simp only [cnts]
    rcases List.mem_cons.1 h with rfl | h
    · omega
    · have := ih h; omega

set_option maxRecDepth 100000 in
set_option maxHeartbeats 4000000 in
theorem rwrite_any : ∀ (f : Nd) (w : World), f.In w → f.cnt ≤ 1000000 →
    Calls Tryd.prog 26 #[f.val] w (WrP w f.wn) := by
  refine Nd.ind fun k t m B d bs A c ls ih => ?_
  intro w hin hcnt
  have hcn : (Nd.mk k t m B d bs A c ls).cnt = cnts ls + bs.length + 1 := rfl
  cases m with
  | false => exact rwrite_leaf k t B d bs A c ls w hin (by omega)
  | true =>
  obtain ⟨R, hR⟩ : ∃ R, (Nd.mk k t true B d bs A c ls).wn = R := ⟨_, rfl⟩
  rw [hR]
  have hR2 := hR.symm
  rw [wn] at hR2
  simp only [Bool.true_eq_false, false_and, and_false, or_false, true_and] at hR2
  have HR := Lib.hid hR2
  have hlc := Nd.len_le_cnts ls
  have IH := Lib.hid (show ∀ p ∈ ls, ∀ (w : World), p.In w → Calls Tryd.prog 26 #[p.val] w (WrP w p.wn) from fun p hp w hw => ih p hp w hw (by have := Nd.cnt_le_cnts hp; omega))
  obtain ⟨Z, hZ⟩ : ∃ Z, bs.length = Z := ⟨_, rfl⟩
  obtain ⟨L, hL⟩ : ∃ L, ls.length = L := ⟨_, rfl⟩
  have HZ := Lib.hid hZ
  have HL := Lib.hid hL
  have hZI : (Z : Int) ≤ 1000000 := by omega
  have hLI : (L : Int) ≤ 1000000 := by omega
  have HIN := Lib.hid hin
  have HLIE := Lib.hid (show Lie w A ls from hin.list.1)
  have HW := Lib.hid (show Whole (w.alloc (.cells #[.int .i64 k, .int .i64 t, .bool true, .slice B Z d, .slice A L c] 27)) w.heap.size #[.int .i64 k, .int .i64 t, .bool true, .slice B Z d, .slice A L c] 27 from Whole.new _ _ _)
  have HG := Lib.hid (show Grew w (w.alloc (.cells #[.int .i64 k, .int .i64 t, .bool true, .slice B Z d, .slice A L c] 27)) none from grew_alloc (grew_refl _ _) _)
  change Calls Tryd.prog 26 #[.agg #[.int .i64 k, .int .i64 t, .bool true, .slice B bs.length d, .slice A ls.length c]] w _
  rw [hZ, hL]
  clear hin hR hR2 hcn hcnt hlc ih hZ hL
  go_enter Tryd.func26, Tryd.ntmps26
  go_upto_region 1 with (fail)
  generalize w.alloc (.cells #[.int .i64 k, .int .i64 t, .bool true, .slice B Z d, .slice A L c] 27) = W at *
  obtain ⟨q, hq⟩ : ∃ q, w.heap.size = q := ⟨_, rfl⟩
  rw [hq] at HW ⊢
  clear hq
  have c0 : W.cell? ⟨q, 0, none⟩ = some (.int .i64 k) := HW.out.cell 0
  have c1 : W.cell? ⟨q, 1, none⟩ = some (.int .i64 t) := HW.out.cell 1
  have c2 : W.cell? ⟨q, 2, none⟩ = some (.bool true) := HW.out.cell 2
  have c3 : W.cell? ⟨q, 3, none⟩ = some (.slice B Z d) := HW.out.cell 3
  have c4 : W.cell? ⟨q, 4, none⟩ = some (.slice A L c) := HW.out.cell 4
  go_wp2_with fail
  refine (rkind_any W k t true).mono ?_
  rintro e w' ⟨rfl, hw⟩
  obtain rfl : W = w' := hw.symm
  cases hk : kd k t true with
  | false =>
    have HE := Lib.hid (show R = ([], 13) by rw [HR.out, if_pos hk])
    clear hk
    go_wp2_with fail
    go_ret2
    exact WrP.err HE.out HG.out
  | true =>
  have HR1 := Lib.hid HR.out
  rw [hk] at HR1
  have HK := Lib.hid hk
  clear hk HR hw
  rcases (Decidable.em (Z = 0)).symm with g1 | g1
  · have g1' : (0 : Int) < (Z : Int) := by omega
    have HE := Lib.hid (show R = ([], 15) by rw [HR1.out, if_neg (by simp), if_pos (by rw [HZ.out]; omega)])
    clear g1
    go_wp2_with fail
    go_ret2
    exact WrP.err HE.out HG.out
  obtain rfl : bs = [] := List.eq_nil_of_length_eq_zero (by rw [HZ.out]; exact g1)
  subst g1
  have HR2 := Lib.hid HR1.out
  rw [if_neg (by simp), if_neg (by simp)] at HR2
  simp only [if_false, List.nil_append] at HR2
  clear HR1
  rcases Decidable.em (k = 0) with g2 | g2
  · have g2' : (k == 0) = true := beq_iff_eq.2 g2
    clear g2
    go_upto_region 9 with (fail)
    clear g2'
    have c3a : (W.alloc (.cells #[] 5)).cell? ⟨q, 3, none⟩ = some (.slice B 0 d) := (grew_alloc (grew_refl W none) _).cell c3 (by simp)
    have a9 := Lib.hid (fun ty => app_more (own8_none W.heap.size W W (Below.refl _ _) (Nat.le_refl _)) (A := B) (bs := []) (fun h => by simp at h) d (by simp) ty)
    go_upto_region 11 with (at_builtin; refine wpList_append_run _ rfl (.tmp 52) (.tmp 54) 22 rfl rfl rfl a9.out ?_; rintro v1 w1 a1; have A1 := Lib.hid a1; clear a1 a9)
    clear c0 c1 c2 c3 c3a c4
    go_loopw [5, 6] (fun v i wr => ∃ (j : Nat) (ys : List UInt8), j ≤ L ∧ i = .int .i64 j ∧ Hid (Own8 W.heap.size W wr v ys) ∧ Hid (wns (ls.take j) = (ys, 0) ∧ ys.length ≤ j * 16777220)) (fun _ i _ => L - (intOf i).toNat)
    case atStart => exact ⟨0, [], Nat.zero_le _, rfl, A1, Lib.hid ⟨wns.eq_1, by simp⟩⟩
    case round =>
      clear A1
      obtain ⟨j, ys, hj, rfl, HO, HS⟩ := hrel
      have hjI : (j : Int) ≤ 1000000 := by omega
      have HWr := Lib.hid (HW.out.below HO.out.bel HW.out.lt)
      have c4 : wr.cell? ⟨q, 4, none⟩ = some (.slice A L c) := HWr.out.cell 4
      have HGw := Lib.hid (grew_trans HG.out (grew_of_below HO.out.bel))
      by_cases hlt : j < L
      · have hltI : (j : Int) < (L : Int) := by omega
        have hj0 : (0 : Int) ≤ (j : Int) := by omega
        obtain ⟨b, o, p, hA, hp, hpm, d0, d1, d2, d3, d4⟩ := Lie.at (HLIE.out.grew HGw.out) (show j < ls.length by rw [HL.out]; exact hlt)
        obtain rfl : A = some ⟨b, o, none⟩ := hA
        have HP := Lib.hid (And.intro hp hpm)
        clear hp hpm
        go_wp2_with fail
        refine (IH.out p HP.out.2 wr ((HIN.out.grew HGw.out).parts p HP.out.2)).mono ?_
        rintro e w2 ⟨A7, d7, rfl, hd7, hb7, g7⟩
        have HO2 := Lib.hid (HO.out.grew g7)
        have HB7 := Lib.hid hb7
        have HLN := Lib.hid (wn_len p)
        have HT := Lib.hid (wns_take HP.out.1 HS.out.1)
        clear hd7 hb7 g7 d0 d1 d2 d3 d4 c4
        rcases (Decidable.em (p.wn.2 = 0)).symm with g3 | g3
        · have g3' : (p.wn.2 != 0) = true := bne_iff_ne.2 g3
          have HE := Lib.hid (show R = ([], p.wn.2) by rw [HR2.out, HT.out.2 g3, if_pos g3])
          clear g3 HT
          generalize p.wn = N at *
          obtain ⟨zs, E⟩ := N
          go_wp2_with fail
          go_ret2
          exact WrP.err HE.out (grew_trans HG.out (grew_of_below HO2.out.bel))
        · have g3' : (p.wn.2 != 0) = false := by rw [g3]; rfl
          have HS2 := Lib.hid (show wns (ls.take (j + 1)) = (ys ++ p.wn.1, 0) ∧ (ys ++ p.wn.1).length ≤ (j + 1) * 16777220 from ⟨HT.out.1 g3, by have := HLN.out; have := HS.out.2; rw [List.length_append]; omega⟩)
          have a16 := Lib.hid (fun ty => app_more HO2.out HB7.out d7 (by have := HLN.out; have := HS.out.2; omega) ty)
          clear g3 HT
          generalize p.wn = N at *
          obtain ⟨zs, E⟩ := N
          go_wp2_with (at_builtin; refine wpList_append_run _ rfl (.tmp 75) (.tmp 76) 22 rfl rfl rfl a16.out ?_; rintro v3 w3 a3; have A3 := Lib.hid a3; clear a3 a16)
          go_roundw
          case rel => exact ⟨j + 1, ys ++ zs, by omega, by go_num, A3, HS2⟩
          case measure => simp [intOf]; omega
      · have hjL : ls.take j = ls := List.take_of_length_le (by rw [HL.out]; omega)
        have HE0 := Lib.hid (show R = if 16777215 < ys.length then ([], 5) else (putH ⟨k, t, true, (ys.length : Int)⟩ ++ ys, 0) by rw [HR2.out, ← hjL, HS.out.1]; simp)
        obtain ⟨Z, hZ⟩ : ∃ Z, ys.length = Z := ⟨_, rfl⟩
        have HZ1 := Lib.hid hZ
        have hZI1 : (Z : Int) ≤ 16777220000000 := by have := HS.out.2; omega
        obtain ⟨A5, d5, rfl, hd5, hb5⟩ := HO.out.form
        have HB5 := Lib.hid (And.intro hd5 hb5)
        clear hd5 hb5 hjL HS
        rw [hZ] at HO ⊢
        clear hZ
        go_upto_region 17 with (fail)
        have c0 : wr.cell? ⟨q, 0, none⟩ = some (.int .i64 k) := HWr.out.cell 0
        have c1 : wr.cell? ⟨q, 1, none⟩ = some (.int .i64 t) := HWr.out.cell 1
        have c2 : wr.cell? ⟨q, 2, none⟩ = some (.bool true) := HWr.out.cell 2
        by_cases g5 : 16777215 < Z
        · have g5' : 16777215 < (Z : Int) := by omega
          have HE := Lib.hid (show R = ([], 5) by rw [HE0.out, if_pos (by rw [HZ1.out]; exact g5)])
          go_wp2_with fail
          go_ret2
          exact WrP.err HE.out HGw.out
        · have g5' : ¬ 16777215 < (Z : Int) := by omega
          have HE := Lib.hid (show R = (putH ⟨k, t, true, (Z : Int)⟩ ++ ys, 0) by rw [HE0.out, HZ1.out, if_neg g5])
          clear g5 HE0 HR2
          go_wp2_with fail
          refine (rput_any wr ⟨k, t, true, (Z : Int)⟩ HK.out (show (0 : Int) ≤ (Z : Int) by omega) (show (Z : Int) ≤ 16777215 by omega)).mono ?_
          rintro e w2 ⟨v2, rfl, o2, b2, k2⟩
          have A2 := Lib.hid (show Own8 W.heap.size W w2 v2 (putH ⟨k, t, true, (Z : Int)⟩) from ⟨o2, fun k hk => Nat.le_trans HO.out.sz (k2 k hk), HO.out.bel.trans (b2.mono HO.out.sz), Nat.le_trans HO.out.sz b2.size⟩)
          have HB6 := Lib.hid (show Byt w2 w2.heap.size A5 ys from (HB5.out.2.grew (grew_of_below b2) (fun _ e => by cases e)).more b2.size)
          clear o2 b2 k2 c0 c1 c2 c4
          have a20 := Lib.hid (fun ty => app_more A2.out HB6.out d5 (by have := putH_le5 ⟨k, t, true, (Z : Int)⟩; have := HZ1.out; omega) ty)
          rw [HZ1.out] at a20
          go_wp2_with (at_builtin; refine wpList_append_run _ rfl (.tmp 91) (.tmp 92) 22 rfl rfl rfl a20.out ?_; rintro v3 w3 a3; have A3 := Lib.hid a3; clear a3 a20)
          go_ret2
          obtain ⟨A7, d7, rfl, hd7, hb7⟩ := A3.out.form
          rw [HE.out]
          exact ⟨A7, d7, rfl, hd7, hb7, grew_trans HG.out (grew_of_below A3.out.bel)⟩
  · have g2' : (k == 0) = false := beq_eq_false_iff_ne.2 g2
    clear g2
    go_upto_region 9 with (fail)
    clear g2'
    have c3a : (W.alloc (.cells #[] 5)).cell? ⟨q, 3, none⟩ = some (.slice B 0 d) := (grew_alloc (grew_refl W none) _).cell c3 (by simp)
    have a9 := Lib.hid (fun ty => app_more (own8_none W.heap.size W W (Below.refl _ _) (Nat.le_refl _)) (A := B) (bs := []) (fun h => by simp at h) d (by simp) ty)
    go_upto_region 11 with (at_builtin; refine wpList_append_run _ rfl (.tmp 52) (.tmp 54) 22 rfl rfl rfl a9.out ?_; rintro v1 w1 a1; have A1 := Lib.hid a1; clear a1 a9)
    clear c0 c1 c2 c3 c3a c4
    go_loopw [5, 6] (fun v i wr => ∃ (j : Nat) (ys : List UInt8), j ≤ L ∧ i = .int .i64 j ∧ Hid (Own8 W.heap.size W wr v ys) ∧ Hid (wns (ls.take j) = (ys, 0) ∧ ys.length ≤ j * 16777220)) (fun _ i _ => L - (intOf i).toNat)
    case atStart => exact ⟨0, [], Nat.zero_le _, rfl, A1, Lib.hid ⟨wns.eq_1, by simp⟩⟩
    case round =>
      clear A1
      obtain ⟨j, ys, hj, rfl, HO, HS⟩ := hrel
      have hjI : (j : Int) ≤ 1000000 := by omega
      have HWr := Lib.hid (HW.out.below HO.out.bel HW.out.lt)
      have c4 : wr.cell? ⟨q, 4, none⟩ = some (.slice A L c) := HWr.out.cell 4
      have HGw := Lib.hid (grew_trans HG.out (grew_of_below HO.out.bel))
      by_cases hlt : j < L
      · have hltI : (j : Int) < (L : Int) := by omega
        have hj0 : (0 : Int) ≤ (j : Int) := by omega
        obtain ⟨b, o, p, hA, hp, hpm, d0, d1, d2, d3, d4⟩ := Lie.at (HLIE.out.grew HGw.out) (show j < ls.length by rw [HL.out]; exact hlt)
        obtain rfl : A = some ⟨b, o, none⟩ := hA
        have HP := Lib.hid (And.intro hp hpm)
        clear hp hpm
        go_wp2_with fail
        refine (IH.out p HP.out.2 wr ((HIN.out.grew HGw.out).parts p HP.out.2)).mono ?_
        rintro e w2 ⟨A7, d7, rfl, hd7, hb7, g7⟩
        have HO2 := Lib.hid (HO.out.grew g7)
        have HB7 := Lib.hid hb7
        have HLN := Lib.hid (wn_len p)
        have HT := Lib.hid (wns_take HP.out.1 HS.out.1)
        clear hd7 hb7 g7 d0 d1 d2 d3 d4 c4
        rcases (Decidable.em (p.wn.2 = 0)).symm with g3 | g3
        · have g3' : (p.wn.2 != 0) = true := bne_iff_ne.2 g3
          have HE := Lib.hid (show R = ([], p.wn.2) by rw [HR2.out, HT.out.2 g3, if_pos g3])
          clear g3 HT
          generalize p.wn = N at *
          obtain ⟨zs, E⟩ := N
          go_wp2_with fail
          go_ret2
          exact WrP.err HE.out (grew_trans HG.out (grew_of_below HO2.out.bel))
        · have g3' : (p.wn.2 != 0) = false := by rw [g3]; rfl
          have HS2 := Lib.hid (show wns (ls.take (j + 1)) = (ys ++ p.wn.1, 0) ∧ (ys ++ p.wn.1).length ≤ (j + 1) * 16777220 from ⟨HT.out.1 g3, by have := HLN.out; have := HS.out.2; rw [List.length_append]; omega⟩)
          have a16 := Lib.hid (fun ty => app_more HO2.out HB7.out d7 (by have := HLN.out; have := HS.out.2; omega) ty)
          clear g3 HT
          generalize p.wn = N at *
          obtain ⟨zs, E⟩ := N
          go_wp2_with (at_builtin; refine wpList_append_run _ rfl (.tmp 75) (.tmp 76) 22 rfl rfl rfl a16.out ?_; rintro v3 w3 a3; have A3 := Lib.hid a3; clear a3 a16)
          go_roundw
          case rel => exact ⟨j + 1, ys ++ zs, by omega, by go_num, A3, HS2⟩
          case measure => simp [intOf]; omega
      · have hjL : ls.take j = ls := List.take_of_length_le (by rw [HL.out]; omega)
        have HE0 := Lib.hid (show R = if 16777215 < ys.length then ([], 5) else (putH ⟨k, t, true, (ys.length : Int)⟩ ++ ys, 0) by rw [HR2.out, ← hjL, HS.out.1]; simp)
        obtain ⟨Z, hZ⟩ : ∃ Z, ys.length = Z := ⟨_, rfl⟩
        have HZ1 := Lib.hid hZ
        have hZI1 : (Z : Int) ≤ 16777220000000 := by have := HS.out.2; omega
        obtain ⟨A5, d5, rfl, hd5, hb5⟩ := HO.out.form
        have HB5 := Lib.hid (And.intro hd5 hb5)
        clear hd5 hb5 hjL HS
        rw [hZ] at HO ⊢
        clear hZ
        go_upto_region 17 with (fail)
        have c0 : wr.cell? ⟨q, 0, none⟩ = some (.int .i64 k) := HWr.out.cell 0
        have c1 : wr.cell? ⟨q, 1, none⟩ = some (.int .i64 t) := HWr.out.cell 1
        have c2 : wr.cell? ⟨q, 2, none⟩ = some (.bool true) := HWr.out.cell 2
        by_cases g5 : 16777215 < Z
        · have g5' : 16777215 < (Z : Int) := by omega
          have HE := Lib.hid (show R = ([], 5) by rw [HE0.out, if_pos (by rw [HZ1.out]; exact g5)])
          go_wp2_with fail
          go_ret2
          exact WrP.err HE.out HGw.out
        · have g5' : ¬ 16777215 < (Z : Int) := by omega
          have HE := Lib.hid (show R = (putH ⟨k, t, true, (Z : Int)⟩ ++ ys, 0) by rw [HE0.out, HZ1.out, if_neg g5])
          clear g5 HE0 HR2
          go_wp2_with fail
          refine (rput_any wr ⟨k, t, true, (Z : Int)⟩ HK.out (show (0 : Int) ≤ (Z : Int) by omega) (show (Z : Int) ≤ 16777215 by omega)).mono ?_
          rintro e w2 ⟨v2, rfl, o2, b2, k2⟩
          have A2 := Lib.hid (show Own8 W.heap.size W w2 v2 (putH ⟨k, t, true, (Z : Int)⟩) from ⟨o2, fun k hk => Nat.le_trans HO.out.sz (k2 k hk), HO.out.bel.trans (b2.mono HO.out.sz), Nat.le_trans HO.out.sz b2.size⟩)
          have HB6 := Lib.hid (show Byt w2 w2.heap.size A5 ys from (HB5.out.2.grew (grew_of_below b2) (fun _ e => by cases e)).more b2.size)
          clear o2 b2 k2 c0 c1 c2 c4
          have a20 := Lib.hid (fun ty => app_more A2.out HB6.out d5 (by have := putH_le5 ⟨k, t, true, (Z : Int)⟩; have := HZ1.out; omega) ty)
          rw [HZ1.out] at a20
          go_wp2_with (at_builtin; refine wpList_append_run _ rfl (.tmp 91) (.tmp 92) 22 rfl rfl rfl a20.out ?_; rintro v3 w3 a3; have A3 := Lib.hid a3; clear a3 a20)
          go_ret2
          obtain ⟨A7, d7, rfl, hd7, hb7⟩ := A3.out.form
          rw [HE.out]
          exact ⟨A7, d7, rfl, hd7, hb7, grew_trans HG.out (grew_of_below A3.out.bel)⟩
end Go.Proofs.YtnjnghbonmdbdaaDoor

