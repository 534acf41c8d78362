/- The document's own answers of layer 10: Check. -/
import Derived.Test.YtnegakobammljaaTr2
import Derived.Test.YtnegakobammljaaTr3
import Derived.Test.YtnegakobammljaaTr4
namespace Go.Proofs.Ytnegakobammljaa
open Go.RowKit

set_option maxRecDepth 100000 in
set_option maxHeartbeats 2000000 in
theorem rck1 (w : World) (A : Option Addr) (c : Nat) (xs : List UInt8) (hb : Byt w w.heap.size A xs) :
    Calls Try.prog 11 #[.int .i64 1, .slice A xs.length c] w fun e w' => e = .returned (.int .i64 (ckE 1 xs)) ∧ Below w.heap.size w w' := by
  match xs, hb with
  | [], _ =>
    go_enter Try.func11, Try.ntmps11
    go_wp2_with fail
    go_ret
    exact ⟨rfl, Below.refl _ _⟩
  | x :: y :: r, _ =>
    have e : ckE 1 (x :: y :: r) = 13 := rfl
    rw [e]
    have hl : (((x :: y :: r).length : Nat) : Int) = (r.length : Int) + 1 + 1 := by simp
    have h1 : ((r.length : Int) + 1 + 1 == 1) = false := beq_eq_false_iff_ne.2 (by omega)
    obtain ⟨M, hM⟩ : ∃ M, (x :: y :: r).length = M := ⟨_, rfl⟩
    have hM1 : ((M : Int) == 1) = false := beq_eq_false_iff_ne.2 (by rw [← hM]; simp; omega)
    rw [hM]
    clear e hl h1 hM
    go_enter Try.func11, Try.ntmps11
    go_wp2_with fail
    go_ret
    exact ⟨rfl, Below.refl _ _⟩
  | [x], hb =>
    obtain ⟨b, o, rfl, -, hc⟩ := hb (by simp)
    obtain ⟨d, hd⟩ : ∃ d, x.toNat = d := ⟨_, rfl⟩
    have hd256 : d < 256 := by rw [← hd]; exact x.toNat_lt
    have c0 : w.cell? ⟨b, o, none⟩ = some (.int .u8 (d : Int)) := by have := hc 0 (by simp); rw [← hd]; simpa using this
    have hr : ckE 1 [x] = if d == 0 || d == 255 then 0 else 13 := by rw [← hd]; rfl
    have HR := Lib.hid hr
    clear hr hc hd
    by_cases g1 : d = 0
    · subst g1
      have HE := Lib.hid (show ckE 1 [x] = 0 by rw [HR.out]; rfl)
      rw [HE.out]
      go_enter Try.func11, Try.ntmps11
      go_wp2_with fail
      go_ret
      exact ⟨rfl, Below.refl _ _⟩
    · have g1' : ((d : Int) == 0) = false := beq_eq_false_iff_ne.2 (by omega)
      by_cases g2 : d = 255
      · subst g2
        have HE := Lib.hid (show ckE 1 [x] = 0 by rw [HR.out]; rfl)
        rw [HE.out]
        go_enter Try.func11, Try.ntmps11
        go_wp2_with fail
        go_ret
        exact ⟨rfl, Below.refl _ _⟩
      · have g2' : ((d : Int) == 255) = false := beq_eq_false_iff_ne.2 (by omega)
        have HE := Lib.hid (show ckE 1 [x] = 13 by rw [HR.out, beq_eq_false_iff_ne.2 g1, beq_eq_false_iff_ne.2 g2]; rfl)
        rw [HE.out]
        clear g1 g2
        go_enter Try.func11, Try.ntmps11
        go_wp2_with fail
        go_ret
        exact ⟨rfl, Below.refl _ _⟩

set_option maxRecDepth 100000 in
set_option maxHeartbeats 2000000 in
theorem rck2 (w : World) (A : Option Addr) (c : Nat) (xs : List UInt8) (hb : Byt w w.heap.size A xs) :
    Calls Try.prog 11 #[.int .i64 2, .slice A xs.length c] w fun e w' => e = .returned (.int .i64 (if nmB xs then 0 else 13)) ∧ Below w.heap.size w w' := by
  match xs, hb with
  | [], _ =>
    go_enter Try.func11, Try.ntmps11
    go_wp2_with fail
    go_ret
    exact ⟨rfl, Below.refl _ _⟩
  | [x], _ =>
    go_enter Try.func11, Try.ntmps11
    go_wp2_with fail
    go_ret
    exact ⟨rfl, Below.refl _ _⟩
  | x :: y :: r, hb =>
    obtain ⟨b, o, rfl, -, hc⟩ := hb (by simp)
    obtain ⟨d, hd⟩ : ∃ d, x.toNat = d := ⟨_, rfl⟩
    obtain ⟨k, hk⟩ : ∃ k, y.toNat = k := ⟨_, rfl⟩
    have hd256 : d < 256 := by rw [← hd]; exact x.toNat_lt
    have hk256 : k < 256 := by rw [← hk]; exact y.toNat_lt
    have c0 : w.cell? ⟨b, o, none⟩ = some (.int .u8 (d : Int)) := by have := hc 0 (by simp); rw [← hd]; simpa using this
    have c1 : w.cell? ⟨b, o + 1, none⟩ = some (.int .u8 (k : Int)) := by have := hc 1 (by simp); rw [← hk]; simpa using this
    have hr : nmB (x :: y :: r) = (!(d == 0 && decide (k < 128)) && !(d == 255 && decide (128 ≤ k))) := by rw [← hd, ← hk]; rfl
    have HR := Lib.hid hr
    obtain ⟨M, hM⟩ : ∃ M, r.length = M := ⟨_, rfl⟩
    have hlen : (x :: y :: r).length = M + 1 + 1 := by rw [← hM]; rfl
    rw [hlen]
    have hM1 : ((M : Int) + 1 + 1 == 1) = false := beq_eq_false_iff_ne.2 (by omega)
    have hM2 : 1 < (M : Int) + 1 + 1 := by omega
    clear hr hc hd hk hM hlen
    by_cases g1 : d = 0
    · subst g1
      by_cases g3 : k < 128
      · have g3' : (k : Int) < 128 := by omega
        have HE := Lib.hid (show nmB (x :: y :: r) = false by rw [HR.out, decide_eq_true g3]; rfl)
        rw [HE.out]
        clear g3
        go_enter Try.func11, Try.ntmps11
        go_wp2_with fail
        go_ret
        exact ⟨rfl, Below.refl _ _⟩
      · have g3' : ¬ (k : Int) < 128 := by omega
        have HE := Lib.hid (show nmB (x :: y :: r) = true by rw [HR.out, decide_eq_false g3]; rfl)
        rw [HE.out]
        clear g3
        go_enter Try.func11, Try.ntmps11
        go_wp2_with fail
        go_ret
        exact ⟨rfl, Below.refl _ _⟩
    · have g1' : ((d : Int) == 0) = false := beq_eq_false_iff_ne.2 (by omega)
      by_cases g2 : d = 255
      · subst g2
        by_cases g3 : 128 ≤ k
        · have g3' : 128 ≤ (k : Int) := by omega
          have HE := Lib.hid (show nmB (x :: y :: r) = false by rw [HR.out, decide_eq_true g3]; rfl)
          rw [HE.out]
          clear g3 g1
          go_enter Try.func11, Try.ntmps11
          go_wp2_with fail
          go_ret
          exact ⟨rfl, Below.refl _ _⟩
        · have g3' : ¬ 128 ≤ (k : Int) := by omega
          have HE := Lib.hid (show nmB (x :: y :: r) = true by rw [HR.out, decide_eq_false g3]; rfl)
          rw [HE.out]
          clear g3 g1
          go_enter Try.func11, Try.ntmps11
          go_wp2_with fail
          go_ret
          exact ⟨rfl, Below.refl _ _⟩
      · have g2' : ((d : Int) == 255) = false := beq_eq_false_iff_ne.2 (by omega)
        have HE := Lib.hid (show nmB (x :: y :: r) = true by rw [HR.out, beq_eq_false_iff_ne.2 g1, beq_eq_false_iff_ne.2 g2]; rfl)
        rw [HE.out]
        clear g1 g2
        go_enter Try.func11, Try.ntmps11
        go_wp2_with fail
        go_ret
        exact ⟨rfl, Below.refl _ _⟩

set_option maxRecDepth 100000 in
set_option maxHeartbeats 2000000 in
theorem rck10 (w : World) (A : Option Addr) (c : Nat) (xs : List UInt8) (hb : Byt w w.heap.size A xs) :
    Calls Try.prog 11 #[.int .i64 10, .slice A xs.length c] w fun e w' => e = .returned (.int .i64 (if nmB xs then 0 else 13)) ∧ Below w.heap.size w w' := by
  match xs, hb with
  | [], _ =>
    go_enter Try.func11, Try.ntmps11
    go_wp2_with fail
    go_ret
    exact ⟨rfl, Below.refl _ _⟩
  | [x], _ =>
    go_enter Try.func11, Try.ntmps11
    go_wp2_with fail
    go_ret
    exact ⟨rfl, Below.refl _ _⟩
  | x :: y :: r, hb =>
    obtain ⟨b, o, rfl, -, hc⟩ := hb (by simp)
    obtain ⟨d, hd⟩ : ∃ d, x.toNat = d := ⟨_, rfl⟩
    obtain ⟨k, hk⟩ : ∃ k, y.toNat = k := ⟨_, rfl⟩
    have hd256 : d < 256 := by rw [← hd]; exact x.toNat_lt
    have hk256 : k < 256 := by rw [← hk]; exact y.toNat_lt
    have c0 : w.cell? ⟨b, o, none⟩ = some (.int .u8 (d : Int)) := by have := hc 0 (by simp); rw [← hd]; simpa using this
    have c1 : w.cell? ⟨b, o + 1, none⟩ = some (.int .u8 (k : Int)) := by have := hc 1 (by simp); rw [← hk]; simpa using this
    have hr : nmB (x :: y :: r) = (!(d == 0 && decide (k < 128)) && !(d == 255 && decide (128 ≤ k))) := by rw [← hd, ← hk]; rfl
    have HR := Lib.hid hr
    obtain ⟨M, hM⟩ : ∃ M, r.length = M := ⟨_, rfl⟩
    have hlen : (x :: y :: r).length = M + 1 + 1 := by rw [← hM]; rfl
    rw [hlen]
    have hM1 : ((M : Int) + 1 + 1 == 1) = false := beq_eq_false_iff_ne.2 (by omega)
    have hM2 : 1 < (M : Int) + 1 + 1 := by omega
    clear hr hc hd hk hM hlen
    by_cases g1 : d = 0
    · subst g1
      by_cases g3 : k < 128
      · have g3' : (k : Int) < 128 := by omega
        have HE := Lib.hid (show nmB (x :: y :: r) = false by rw [HR.out, decide_eq_true g3]; rfl)
        rw [HE.out]
        clear g3
        go_enter Try.func11, Try.ntmps11
        go_wp2_with fail
        go_ret
        exact ⟨rfl, Below.refl _ _⟩
      · have g3' : ¬ (k : Int) < 128 := by omega
        have HE := Lib.hid (show nmB (x :: y :: r) = true by rw [HR.out, decide_eq_false g3]; rfl)
        rw [HE.out]
        clear g3
        go_enter Try.func11, Try.ntmps11
        go_wp2_with fail
        go_ret
        exact ⟨rfl, Below.refl _ _⟩
    · have g1' : ((d : Int) == 0) = false := beq_eq_false_iff_ne.2 (by omega)
      by_cases g2 : d = 255
      · subst g2
        by_cases g3 : 128 ≤ k
        · have g3' : 128 ≤ (k : Int) := by omega
          have HE := Lib.hid (show nmB (x :: y :: r) = false by rw [HR.out, decide_eq_true g3]; rfl)
          rw [HE.out]
          clear g3 g1
          go_enter Try.func11, Try.ntmps11
          go_wp2_with fail
          go_ret
          exact ⟨rfl, Below.refl _ _⟩
        · have g3' : ¬ 128 ≤ (k : Int) := by omega
          have HE := Lib.hid (show nmB (x :: y :: r) = true by rw [HR.out, decide_eq_false g3]; rfl)
          rw [HE.out]
          clear g3 g1
          go_enter Try.func11, Try.ntmps11
          go_wp2_with fail
          go_ret
          exact ⟨rfl, Below.refl _ _⟩
      · have g2' : ((d : Int) == 255) = false := beq_eq_false_iff_ne.2 (by omega)
        have HE := Lib.hid (show nmB (x :: y :: r) = true by rw [HR.out, beq_eq_false_iff_ne.2 g1, beq_eq_false_iff_ne.2 g2]; rfl)
        rw [HE.out]
        clear g1 g2
        go_enter Try.func11, Try.ntmps11
        go_wp2_with fail
        go_ret
        exact ⟨rfl, Below.refl _ _⟩

set_option maxRecDepth 100000 in
set_option maxHeartbeats 2000000 in
theorem rck3 (w : World) (A : Option Addr) (c : Nat) (xs : List UInt8) (hb : Byt w w.heap.size A xs) (hl : xs.length ≤ 140737488351232) :
    Calls Try.prog 11 #[.int .i64 3, .slice A xs.length c] w fun e w' => e = .returned (.int .i64 (if bt xs then 0 else 13)) ∧ Below w.heap.size w w' := by
  have h := rbits_any w A c xs hb hl
  obtain ⟨L, hL⟩ : ∃ L, xs.length = L := ⟨_, rfl⟩
  rw [hL] at h ⊢
  clear hl hb hL
  cases hv : bt xs with
  | true =>
    rw [hv] at h
    clear hv
    go_enter Try.func11, Try.ntmps11
    go_wp2_with fail
    refine h.mono ?_
    rintro e w' ⟨rfl, rfl⟩
    go_wp2_with fail
    go_ret
    exact ⟨rfl, Below.refl _ _⟩
  | false =>
    rw [hv] at h
    clear hv
    go_enter Try.func11, Try.ntmps11
    go_wp2_with fail
    refine h.mono ?_
    rintro e w' ⟨rfl, rfl⟩
    go_wp2_with fail
    go_ret
    exact ⟨rfl, Below.refl _ _⟩

set_option maxRecDepth 100000 in
set_option maxHeartbeats 2000000 in
theorem rck6 (w : World) (A : Option Addr) (c : Nat) (xs : List UInt8) (hb : Byt w w.heap.size A xs) (hl : xs.length ≤ 140737488351232) :
    Calls Try.prog 11 #[.int .i64 6, .slice A xs.length c] w fun e w' => e = .returned (.int .i64 (if ob xs then 0 else 13)) ∧ Below w.heap.size w w' := by
  have h := roid_any w A c xs hb hl
  obtain ⟨L, hL⟩ : ∃ L, xs.length = L := ⟨_, rfl⟩
  rw [hL] at h ⊢
  clear hl hb hL
  cases hv : ob xs with
  | true =>
    rw [hv] at h
    clear hv
    go_enter Try.func11, Try.ntmps11
    go_wp2_with fail
    refine h.mono ?_
    rintro e w' ⟨rfl, rfl⟩
    go_wp2_with fail
    go_ret
    exact ⟨rfl, Below.refl _ _⟩
  | false =>
    rw [hv] at h
    clear hv
    go_enter Try.func11, Try.ntmps11
    go_wp2_with fail
    refine h.mono ?_
    rintro e w' ⟨rfl, rfl⟩
    go_wp2_with fail
    go_ret
    exact ⟨rfl, Below.refl _ _⟩

set_option maxRecDepth 100000 in
set_option maxHeartbeats 2000000 in
theorem rck5 (w : World) (A : Option Addr) (c : Nat) (xs : List UInt8) :
    Calls Try.prog 11 #[.int .i64 5, .slice A xs.length c] w fun e w' => e = .returned (.int .i64 (if xs.length == 0 then 0 else 13)) ∧ Below w.heap.size w w' := by
  obtain ⟨L, hL⟩ : ∃ L, xs.length = L := ⟨_, rfl⟩
  rw [hL]
  by_cases h0 : L = 0
  · subst h0
    go_enter Try.func11, Try.ntmps11
    go_wp2_with fail
    go_ret
    exact ⟨rfl, Below.refl _ _⟩
  · have h1 : ((L : Int) == 0) = false := beq_eq_false_iff_ne.2 (by omega)
    rw [beq_eq_false_iff_ne.2 h0]
    clear h0
    go_enter Try.func11, Try.ntmps11
    go_wp2_with fail
    go_ret
    exact ⟨rfl, Below.refl _ _⟩

set_option maxRecDepth 100000 in
set_option maxHeartbeats 2000000 in
theorem rck23 (w : World) (A : Option Addr) (c : Nat) (xs : List UInt8) (hb : Byt w w.heap.size A xs) (hl : xs.length ≤ c) :
    Calls Try.prog 11 #[.int .i64 23, .slice A xs.length c] w fun e w' => e = .returned (.int .i64 (if tyOk 23 xs then 0 else 13)) ∧ Below w.heap.size w w' := by
  have h := rtime23 w A c xs hb hl
  obtain ⟨L, hL⟩ : ∃ L, xs.length = L := ⟨_, rfl⟩
  unfold TimePost at h
  rw [hL] at h ⊢
  clear hl hb hL
  generalize (if tyOk 23 xs = true then tyL 23 xs else [0, 0, 0, 0, 0, 0]) = zs at h
  cases hv : tyOk 23 xs with
  | true =>
    rw [hv] at h
    clear hv
    go_enter Try.func11, Try.ntmps11
    go_wp2_with fail
    refine h.mono ?_
    rintro e w' ⟨rfl, hB⟩
    go_wp2_with fail
    go_ret
    exact ⟨rfl, hB⟩
  | false =>
    rw [hv] at h
    clear hv
    go_enter Try.func11, Try.ntmps11
    go_wp2_with fail
    refine h.mono ?_
    rintro e w' ⟨rfl, hB⟩
    go_wp2_with fail
    go_ret
    exact ⟨rfl, hB⟩

set_option maxRecDepth 100000 in
set_option maxHeartbeats 2000000 in
theorem rck24 (w : World) (A : Option Addr) (c : Nat) (xs : List UInt8) (hb : Byt w w.heap.size A xs) (hl : xs.length ≤ c) :
    Calls Try.prog 11 #[.int .i64 24, .slice A xs.length c] w fun e w' => e = .returned (.int .i64 (if tyOk 24 xs then 0 else 13)) ∧ Below w.heap.size w w' := by
  have h := rtime24 w A c xs hb hl
  obtain ⟨L, hL⟩ : ∃ L, xs.length = L := ⟨_, rfl⟩
  unfold TimePost at h
  rw [hL] at h ⊢
  clear hl hb hL
  generalize (if tyOk 24 xs = true then tyL 24 xs else [0, 0, 0, 0, 0, 0]) = zs at h
  cases hv : tyOk 24 xs with
  | true =>
    rw [hv] at h
    clear hv
    go_enter Try.func11, Try.ntmps11
    go_wp2_with fail
    refine h.mono ?_
    rintro e w' ⟨rfl, hB⟩
    go_wp2_with fail
    go_ret
    exact ⟨rfl, hB⟩
  | false =>
    rw [hv] at h
    clear hv
    go_enter Try.func11, Try.ntmps11
    go_wp2_with fail
    refine h.mono ?_
    rintro e w' ⟨rfl, hB⟩
    go_wp2_with fail
    go_ret
    exact ⟨rfl, hB⟩

set_option maxRecDepth 100000 in
set_option maxHeartbeats 2000000 in
theorem rck4 (w : World) (A : Option Addr) (c : Nat) (xs : List UInt8) :
    Calls Try.prog 11 #[.int .i64 4, .slice A xs.length c] w fun e w' => e = .returned (.int .i64 (0)) ∧ Below w.heap.size w w' := by
  obtain ⟨L, hL⟩ : ∃ L, xs.length = L := ⟨_, rfl⟩
  rw [hL]
  go_enter Try.func11, Try.ntmps11
  go_wp2_with fail
  go_ret
  exact ⟨rfl, Below.refl _ _⟩

set_option maxRecDepth 100000 in
set_option maxHeartbeats 2000000 in
theorem rck12 (w : World) (A : Option Addr) (c : Nat) (xs : List UInt8) :
    Calls Try.prog 11 #[.int .i64 12, .slice A xs.length c] w fun e w' => e = .returned (.int .i64 (0)) ∧ Below w.heap.size w w' := by
  obtain ⟨L, hL⟩ : ∃ L, xs.length = L := ⟨_, rfl⟩
  rw [hL]
  go_enter Try.func11, Try.ntmps11
  go_wp2_with fail
  go_ret
  exact ⟨rfl, Below.refl _ _⟩

set_option maxRecDepth 100000 in
set_option maxHeartbeats 2000000 in
theorem rck18 (w : World) (A : Option Addr) (c : Nat) (xs : List UInt8) :
    Calls Try.prog 11 #[.int .i64 18, .slice A xs.length c] w fun e w' => e = .returned (.int .i64 (0)) ∧ Below w.heap.size w w' := by
  obtain ⟨L, hL⟩ : ∃ L, xs.length = L := ⟨_, rfl⟩
  rw [hL]
  go_enter Try.func11, Try.ntmps11
  go_wp2_with fail
  go_ret
  exact ⟨rfl, Below.refl _ _⟩

set_option maxRecDepth 100000 in
set_option maxHeartbeats 2000000 in
theorem rck19 (w : World) (A : Option Addr) (c : Nat) (xs : List UInt8) :
    Calls Try.prog 11 #[.int .i64 19, .slice A xs.length c] w fun e w' => e = .returned (.int .i64 (0)) ∧ Below w.heap.size w w' := by
  obtain ⟨L, hL⟩ : ∃ L, xs.length = L := ⟨_, rfl⟩
  rw [hL]
  go_enter Try.func11, Try.ntmps11
  go_wp2_with fail
  go_ret
  exact ⟨rfl, Below.refl _ _⟩

set_option maxRecDepth 100000 in
set_option maxHeartbeats 2000000 in
theorem rck20 (w : World) (A : Option Addr) (c : Nat) (xs : List UInt8) :
    Calls Try.prog 11 #[.int .i64 20, .slice A xs.length c] w fun e w' => e = .returned (.int .i64 (0)) ∧ Below w.heap.size w w' := by
  obtain ⟨L, hL⟩ : ∃ L, xs.length = L := ⟨_, rfl⟩
  rw [hL]
  go_enter Try.func11, Try.ntmps11
  go_wp2_with fail
  go_ret
  exact ⟨rfl, Below.refl _ _⟩

set_option maxRecDepth 100000 in
set_option maxHeartbeats 2000000 in
theorem rck22 (w : World) (A : Option Addr) (c : Nat) (xs : List UInt8) :
    Calls Try.prog 11 #[.int .i64 22, .slice A xs.length c] w fun e w' => e = .returned (.int .i64 (0)) ∧ Below w.heap.size w w' := by
  obtain ⟨L, hL⟩ : ∃ L, xs.length = L := ⟨_, rfl⟩
  rw [hL]
  go_enter Try.func11, Try.ntmps11
  go_wp2_with fail
  go_ret
  exact ⟨rfl, Below.refl _ _⟩

set_option maxRecDepth 100000 in
set_option maxHeartbeats 2000000 in
theorem rck26 (w : World) (A : Option Addr) (c : Nat) (xs : List UInt8) :
    Calls Try.prog 11 #[.int .i64 26, .slice A xs.length c] w fun e w' => e = .returned (.int .i64 (0)) ∧ Below w.heap.size w w' := by
  obtain ⟨L, hL⟩ : ∃ L, xs.length = L := ⟨_, rfl⟩
  rw [hL]
  go_enter Try.func11, Try.ntmps11
  go_wp2_with fail
  go_ret
  exact ⟨rfl, Below.refl _ _⟩

set_option maxRecDepth 100000 in
set_option maxHeartbeats 2000000 in
theorem rck28 (w : World) (A : Option Addr) (c : Nat) (xs : List UInt8) :
    Calls Try.prog 11 #[.int .i64 28, .slice A xs.length c] w fun e w' => e = .returned (.int .i64 (0)) ∧ Below w.heap.size w w' := by
  obtain ⟨L, hL⟩ : ∃ L, xs.length = L := ⟨_, rfl⟩
  rw [hL]
  go_enter Try.func11, Try.ntmps11
  go_wp2_with fail
  go_ret
  exact ⟨rfl, Below.refl _ _⟩

set_option maxRecDepth 100000 in
set_option maxHeartbeats 2000000 in
theorem rck30 (w : World) (A : Option Addr) (c : Nat) (xs : List UInt8) :
    Calls Try.prog 11 #[.int .i64 30, .slice A xs.length c] w fun e w' => e = .returned (.int .i64 (0)) ∧ Below w.heap.size w w' := by
  obtain ⟨L, hL⟩ : ∃ L, xs.length = L := ⟨_, rfl⟩
  rw [hL]
  go_enter Try.func11, Try.ntmps11
  go_wp2_with fail
  go_ret
  exact ⟨rfl, Below.refl _ _⟩

set_option maxRecDepth 100000 in
set_option maxHeartbeats 2000000 in
theorem rckno (w : World) (A : Option Addr) (c : Nat) (xs : List UInt8) (tag : Int) (h1 : (tag == 1) = false) (h2 : (tag == 2) = false) (h10 : (tag == 10) = false) (h3 : (tag == 3) = false) (h5 : (tag == 5) = false) (h6 : (tag == 6) = false) (h23 : (tag == 23) = false) (h24 : (tag == 24) = false) (h4 : (tag == 4) = false) (h12 : (tag == 12) = false) (h18 : (tag == 18) = false) (h19 : (tag == 19) = false) (h20 : (tag == 20) = false) (h22 : (tag == 22) = false) (h26 : (tag == 26) = false) (h28 : (tag == 28) = false) (h30 : (tag == 30) = false) :
    Calls Try.prog 11 #[.int .i64 tag, .slice A xs.length c] w fun e w' => e = .returned (.int .i64 (2)) ∧ Below w.heap.size w w' := by
  obtain ⟨L, hL⟩ : ∃ L, xs.length = L := ⟨_, rfl⟩
  rw [hL]
  go_enter Try.func11, Try.ntmps11
  go_wp2_with fail
  go_ret
  exact ⟨rfl, Below.refl _ _⟩

/-- What the document's Check answers. -/
theorem rcheck_any (w : World) (tag : Int) (A : Option Addr) (c : Nat) (xs : List UInt8) (hb : Byt w w.heap.size A xs) (hlc : xs.length ≤ c) (hl : xs.length ≤ 140737488351232) :
    Calls Try.prog 11 #[.int .i64 tag, .slice A xs.length c] w fun e w' => e = .returned (.int .i64 (ckE tag xs)) ∧ Below w.heap.size w w' := by
  by_cases e1 : tag = 1
  · subst e1; exact rck1 w A c xs hb
  by_cases e2 : tag = 2
  · subst e2; exact rck2 w A c xs hb
  by_cases e10 : tag = 10
  · subst e10; exact rck10 w A c xs hb
  by_cases e3 : tag = 3
  · subst e3; exact rck3 w A c xs hb hl
  by_cases e5 : tag = 5
  · subst e5; exact rck5 w A c xs
  by_cases e6 : tag = 6
  · subst e6; exact rck6 w A c xs hb hl
  by_cases e23 : tag = 23
  · subst e23; exact rck23 w A c xs hb hlc
  by_cases e24 : tag = 24
  · subst e24; exact rck24 w A c xs hb hlc
  by_cases e4 : tag = 4
  · subst e4; exact rck4 w A c xs
  by_cases e12 : tag = 12
  · subst e12; exact rck12 w A c xs
  by_cases e18 : tag = 18
  · subst e18; exact rck18 w A c xs
  by_cases e19 : tag = 19
  · subst e19; exact rck19 w A c xs
  by_cases e20 : tag = 20
  · subst e20; exact rck20 w A c xs
  by_cases e22 : tag = 22
  · subst e22; exact rck22 w A c xs
  by_cases e26 : tag = 26
  · subst e26; exact rck26 w A c xs
  by_cases e28 : tag = 28
  · subst e28; exact rck28 w A c xs
  by_cases e30 : tag = 30
  · subst e30; exact rck30 w A c xs
  have e : ckE tag xs = 2 := by unfold ckE; simp [e1, e2, e10, e3, e5, e6, e23, e24, e4, e12, e18, e19, e20, e22, e26, e28, e30]
  rw [e]
  exact rckno w A c xs tag (beq_eq_false_iff_ne.2 e1) (beq_eq_false_iff_ne.2 e2) (beq_eq_false_iff_ne.2 e10) (beq_eq_false_iff_ne.2 e3) (beq_eq_false_iff_ne.2 e5) (beq_eq_false_iff_ne.2 e6) (beq_eq_false_iff_ne.2 e23) (beq_eq_false_iff_ne.2 e24) (beq_eq_false_iff_ne.2 e4) (beq_eq_false_iff_ne.2 e12) (beq_eq_false_iff_ne.2 e18) (beq_eq_false_iff_ne.2 e19) (beq_eq_false_iff_ne.2 e20) (beq_eq_false_iff_ne.2 e22) (beq_eq_false_iff_ne.2 e26) (beq_eq_false_iff_ne.2 e28) (beq_eq_false_iff_ne.2 e30)
end Go.Proofs.Ytnegakobammljaa

