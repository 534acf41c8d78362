/- How the document's builder and the program's hang together; what an act tells of both. -/
import Derived.Test.YtkeiamihgcbcbaaRb6
namespace Go.Proofs.Ytkeiamihgcbcbaa
open Go.RowKit

/-- Parts of their own, laid one behind the other; where the open ones begin. -/
def flat : List (List UInt8) → List Nat → List UInt8
  | P :: parts, s :: sizes => P ++ (List.replicate s 0 ++ flat parts sizes)
  | P :: _, [] => P
  | [], _ => []
def posn : Nat → List (List UInt8) → List Nat → List (Nat × Nat)
  | n, P :: parts, s :: sizes => (n + P.length + s, s) :: posn (n + P.length + s) parts sizes
  | _, _, _ => []

theorem flat_last (Q : List (List UInt8)) (P x : List UInt8) (sizes : List Nat) (h : Q.length = sizes.length) : flat (Q ++ [P ++ x]) sizes = flat (Q ++ [P]) sizes ++ x := by
  induction Q generalizing sizes with
  | nil => cases sizes with
    | nil => rfl
    | cons s l => simp at h
  | cons q Q ih => cases sizes with
    | nil => simp at h
    | cons s l => simp [flat, ih l (by simpa using h)]
theorem posn_last (n : Nat) (Q : List (List UInt8)) (P P' : List UInt8) (sizes : List Nat) (h : Q.length = sizes.length) : posn n (Q ++ [P']) sizes = posn n (Q ++ [P]) sizes := by
  induction Q generalizing sizes n with
  | nil => cases sizes with
    | nil => rfl
    | cons s l => simp at h
  | cons q Q ih => cases sizes with
    | nil => simp at h
    | cons s l => simp [posn, ih _ l (by simpa using h)]
theorem flat_close (Q : List (List UInt8)) (P1 P : List UInt8) (S : List Nat) (s : Nat) (h : Q.length = S.length) : flat (Q ++ [P1, P]) (S ++ [s]) = flat (Q ++ [P1]) S ++ (List.replicate s 0 ++ P) := by
  induction Q generalizing S with
  | nil => cases S with
    | nil => simp [flat]
    | cons s l => simp at h
  | cons q Q ih => cases S with
    | nil => simp at h
    | cons s l => simp [flat, ih l (by simpa using h)]
theorem flat_len (Q : List (List UInt8)) (P : List UInt8) (sizes : List Nat) (h : Q.length = sizes.length) : (flat (Q ++ [P]) sizes).length = tot (Q ++ [P]) sizes := by
  induction Q generalizing sizes with
  | nil => cases sizes with
    | nil => simp [flat, tot]
    | cons s l => simp at h
  | cons q Q ih => cases sizes with
    | nil => simp at h
    | cons s l =>
      have := ih l (by simpa using h)
      simp [flat, tot] at this ⊢
      omega
theorem posn_close (n : Nat) (Q : List (List UInt8)) (P1 P : List UInt8) (S : List Nat) (s : Nat) (h : Q.length = S.length) : posn n (Q ++ [P1, P]) (S ++ [s]) = posn n (Q ++ [P1]) S ++ [(n + (flat (Q ++ [P1]) S).length + s, s)] := by
  induction Q generalizing S n with
  | nil => cases S with
    | nil => simp [posn, flat]
    | cons s l => simp at h
  | cons q Q ih => cases S with
    | nil => simp at h
    | cons t l =>
      simp only [List.cons_append, posn, flat, ih _ l (by simpa using h), List.length_append, List.length_replicate]
      congr 3
      congr 1
      omega
theorem posn_length (n : Nat) (Q : List (List UInt8)) (P : List UInt8) (sizes : List Nat) (h : Q.length = sizes.length) : (posn n (Q ++ [P]) sizes).length = sizes.length := by
  induction Q generalizing sizes n with
  | nil => cases sizes with
    | nil => rfl
    | cons s l => simp at h
  | cons q Q ih => cases sizes with
    | nil => simp at h
    | cons s l => simp [posn, ih _ l (by simpa using h)]

/-- The same builder, told in two ways. -/
def Sim (xs : List UInt8) (ps : List (Nat × Nat)) (parts : List (List UInt8)) (sizes : List Nat) : Prop := xs = flat parts sizes ∧ ps = posn 0 parts sizes ∧ parts.length = sizes.length + 1
theorem Sim.snoc {xs : List UInt8} {ps : List (Nat × Nat)} {parts : List (List UInt8)} {sizes : List Nat} (h : Sim xs ps parts sizes) : ∃ Q P, parts = Q ++ [P] ∧ Q.length = sizes.length := by
  rcases List.eq_nil_or_concat parts with e | ⟨Q, P, e⟩
  · have := h.2.2; rw [e] at this; simp at this
  · rw [List.concat_eq_append] at e
    refine ⟨Q, P, e, ?_⟩
    have := h.2.2
    rw [e] at this
    simpa using this
theorem Sim.len {xs : List UInt8} {ps : List (Nat × Nat)} {parts : List (List UInt8)} {sizes : List Nat} (h : Sim xs ps parts sizes) : tot parts sizes = xs.length ∧ ps.length = sizes.length := by
  obtain ⟨Q, P, rfl, hq⟩ := h.snoc
  exact ⟨by rw [h.1, flat_len Q P sizes hq], by rw [h.2.1, posn_length 0 Q P sizes hq]⟩
theorem Sim.add {xs : List UInt8} {ps : List (Nat × Nat)} {Q : List (List UInt8)} {P : List UInt8} {sizes : List Nat} (h : Sim xs ps (Q ++ [P]) sizes) (most : Nat) (bs : List UInt8) : Sim (adX most xs bs) ps (Q ++ [raP most Q P sizes bs]) sizes := by
  have hq : Q.length = sizes.length := by simpa using h.2.2
  unfold adX raP
  rw [h.len.1]
  split
  · exact h
  · exact ⟨by rw [flat_last _ _ _ _ hq, h.1], by rw [h.2.1, posn_last 0 Q P (P ++ bs) sizes hq], by simpa using hq⟩
theorem Sim.number {xs : List UInt8} {ps : List (Nat × Nat)} {Q : List (List UInt8)} {P : List UInt8} {sizes : List Nat} (h : Sim xs ps (Q ++ [P]) sizes) (most : Nat) (k : Int) (x : Nat) : Sim (nbX most xs k x) ps (Q ++ [rnP most Q P sizes k x]) sizes := by
  unfold nbX rnP
  split
  · split
    · exact h.add most _
    · exact h
  · exact h
theorem Sim.open_ {xs : List UInt8} {ps : List (Nat × Nat)} {parts : List (List UInt8)} {sizes : List Nat} (h : Sim xs ps parts sizes) (k : Nat) : Sim (xs ++ List.replicate k 0) (ps ++ [(xs.length + k, k)]) (parts ++ [[]]) (sizes ++ [k]) := by
  obtain ⟨Q, P, rfl, hq⟩ := h.snoc
  have e : Q ++ [P] ++ [[]] = Q ++ [P, []] := by simp
  rw [e]
  exact ⟨by rw [flat_close _ _ _ _ _ hq, h.1]; simp, by rw [posn_close _ _ _ _ _ _ hq, h.2.1, h.1]; simp, by simp [hq]⟩

/-- What a call of the document's builder leaves. -/
def MoOut (w w' : World) (F : Nat → Prop) (m most : Nat) (xs : List UInt8) (ps : List (Nat × Nat)) : Prop := ∃ parts sizes, RbOut w w' F m most parts sizes ∧ Sim xs ps parts sizes
theorem MoOut.ahead {w W w' : World} {F : Nat → Prop} {m most : Nat} {xs : List UInt8} {ps : List (Nat × Nat)} (h : MoOut W w' F m most xs ps) (hF : Fr w W (fun _ => False)) : MoOut w w' F m most xs ps := by
  obtain ⟨parts, sizes, h1, h2⟩ := h
  exact ⟨parts, sizes, h1.ahead hF, h2⟩

theorem mbytes_any (w : World) (F : Nat → Prop) (m most : Nat) (parts : List (List UInt8)) (sizes : List Nat) (h : Rb w F m most parts sizes) (xs : List UInt8) (ps : List (Nat × Nat)) (hs : Sim xs ps parts sizes) (B : Nat) (A : Option Addr) (bs : List UInt8) (c : Nat) (hb : Byt w B A bs) :
    Calls Try.prog 30 #[.pointer (some ⟨m, 0, none⟩), .slice A bs.length c] w fun e w' => e = .returned (.int .i64 (adE most xs.length bs.length)) ∧ MoOut w w' F m most (adX most xs bs) ps := by
  obtain ⟨Q, P, rfl, hq⟩ := hs.snoc
  have h1 := rbytes_any w F m most Q P sizes h B A bs c hb
  rw [hs.len.1] at h1
  exact h1.mono fun _ _ ⟨he, ho⟩ => ⟨he, _, _, ho, hs.add most bs⟩

theorem mnumber_any (w : World) (F : Nat → Prop) (m most : Nat) (parts : List (List UInt8)) (sizes : List Nat) (h : Rb w F m most parts sizes) (xs : List UInt8) (ps : List (Nat × Nat)) (hs : Sim xs ps parts sizes) (k : Int) (x : Nat) (hx : x < 18446744073709551616) :
    Calls Try.prog 29 #[.pointer (some ⟨m, 0, none⟩), .int .i64 k, .int .u64 x] w fun e w' => e = .returned (.int .i64 (nbE most xs.length k x)) ∧ MoOut w w' F m most (nbX most xs k x) ps := by
  obtain ⟨Q, P, rfl, hq⟩ := hs.snoc
  have h1 := rnumber_any w F m most Q P sizes h k x hx
  rw [hs.len.1] at h1
  exact h1.mono fun _ _ ⟨he, ho⟩ => ⟨he, _, _, ho, hs.number most k x⟩

theorem mopen_any (w : World) (F : Nat → Prop) (m most : Nat) (parts : List (List UInt8)) (sizes : List Nat) (h : Rb w F m most parts sizes) (xs : List UInt8) (ps : List (Nat × Nat)) (hs : Sim xs ps parts sizes) (k : Int) :
    Calls Try.prog 31 #[.pointer (some ⟨m, 0, none⟩), .int .i64 k] w fun e w' => e = .returned (.int .i64 (opE most xs.length k)) ∧ MoOut w w' F m most (opX most xs k) (opP most xs.length ps k) := by
  by_cases hk : k < 1 ∨ 3 < k
  · simp only [opE, opX, opP, if_pos hk]
    refine (ropen_arg w m k hk).mono ?_
    rintro e w' ⟨rfl, rfl⟩
    exact ⟨rfl, _, _, RbOut.same h, hs⟩
  · obtain ⟨n, rfl⟩ := Int.eq_ofNat_of_zero_le (a := k) (by omega)
    have ht := hs.len.1
    simp only [opE, opX, opP, if_neg hk, adE, adX, Int.toNat_natCast, List.length_replicate]
    by_cases hf : most < xs.length + n
    · simp only [if_pos hf]
      refine (ropen_full w F m most parts sizes h n (by omega) (by omega) (by omega)).mono ?_
      rintro e w' ⟨rfl, rfl⟩
      exact ⟨rfl, _, _, RbOut.same h, hs⟩
    · simp only [if_neg hf]
      exact (ropen_ok w F m most parts sizes h n (by omega) (by omega) (by omega)).mono fun _ _ ⟨he, ho⟩ => ⟨he, _, _, ho, hs.open_ n⟩

theorem mclose_any (w : World) (F : Nat → Prop) (m most : Nat) (parts : List (List UInt8)) (sizes : List Nat) (h : Rb w F m most parts sizes) (xs : List UInt8) (ps : List (Nat × Nat)) (hs : Sim xs ps parts sizes) :
    Calls Try.prog 32 #[.pointer (some ⟨m, 0, none⟩)] w fun e w' => e = .returned (.int .i64 (clE xs.length ps)) ∧ MoOut w w' F m most (clX xs ps) (clP xs.length ps) := by
  obtain ⟨Q, P, rfl, hq⟩ := hs.snoc
  rcases List.eq_nil_or_concat sizes with rfl | ⟨S, s, e⟩
  · have hps : ps = [] := List.eq_nil_of_length_eq_zero (by rw [hs.len.2]; rfl)
    subst hps
    refine (rclose_state w F m most _ h).mono ?_
    rintro e w' ⟨rfl, rfl⟩
    exact ⟨rfl, _, _, RbOut.same h, hs⟩
  · rw [List.concat_eq_append] at e
    subst e
    rcases List.eq_nil_or_concat Q with rfl | ⟨Q, P1, e⟩
    · simp at hq
    rw [List.concat_eq_append] at e
    subst e
    have hq' : Q.length = S.length := by simpa using hq
    have e2 : Q ++ [P1] ++ [P] = Q ++ [P1, P] := by simp
    rw [e2] at h hs
    have hx := hs.1
    have hp := hs.2.1
    rw [flat_close _ _ _ _ _ hq'] at hx
    rw [posn_close _ _ _ _ _ _ hq', Nat.zero_add] at hp
    have hlen : xs.length - ((flat (Q ++ [P1]) S).length + s) = P.length := by rw [hx]; simp; omega
    have hgl : ps.getLast? = some ((flat (Q ++ [P1]) S).length + s, s) := by rw [hp, List.getLast?_concat]
    have hdl : ps.dropLast = posn 0 (Q ++ [P1]) S := by rw [hp, List.dropLast_concat]
    simp only [clE, clX, clP, hgl, hlen, hdl]
    by_cases hl : P.length < 256 ^ s
    · simp only [if_pos hl]
      refine (rclose_ok w F m most Q P1 P S s h hl).mono ?_
      rintro e w' ⟨rfl, ho⟩
      refine ⟨rfl, _, _, ho, ?_, ?_, by simp [hq']⟩
      · rw [List.append_assoc, flat_last _ _ _ _ hq', hx, show (flat (Q ++ [P1]) S).length + s - s = (flat (Q ++ [P1]) S).length from by omega, List.take_left]
        congr 1
        congr 1
        rw [List.drop_append, List.drop_of_length_le (by omega), List.nil_append, show (flat (Q ++ [P1]) S).length + s - (flat (Q ++ [P1]) S).length = s from by omega, List.drop_left' (by simp)]
      · exact (posn_last 0 Q P1 _ S hq').symm
    · simp only [if_neg hl]
      refine (rclose_full w F m most Q P1 P S s h hl).mono ?_
      rintro e w' ⟨rfl, g⟩
      exact ⟨rfl, _, _, ⟨F, h.fr (Fr.of_grew g) (fun _ _ h => by cases h), Fr.of_grew' g (fun _ h => by cases h), fun _ h => .inl h⟩, hs⟩

set_option maxHeartbeats 4000000 in
theorem model_any (w : World) (F : Nat → Prop) (p most : Nat) (parts : List (List UInt8)) (sizes : List Nat) (h : Rb w F p most parts sizes) (xs : List UInt8) (ps : List (Nat × Nat)) (hs : Sim xs ps parts sizes) (a : Ac) (hx : a.x < 18446744073709551616) (B : Nat) (hb : Byt w B a.A a.bs) :
    Calls Try.prog 14 #[.pointer (some ⟨p, 0, none⟩), .agg a.cells] w fun e w' => e = .returned (.int .i64 (doE most xs ps a)) ∧ MoOut w w' F p most (doX most xs ps a) (doP most xs ps a) := by
  obtain ⟨kd, sz, n, x, A, c, bs⟩ := a
  simp only [doE, doX, doP, Ac.cells] at hx hb ⊢
  have hF : Fr w (w.alloc (.cells #[.int .i64 kd, .int .i64 sz, .int .i64 n, .int .u64 x, .slice A bs.length c] 34)) (fun _ => False) := (Fr.refl _ _).alloc _
  have h1 := h.fr hF (fun _ _ h => h)
  have hb1 := ((hb.byf).fr hF (fun _ _ h => h)).byt
  have HF := Lib.hid hF
  have H1 := Lib.hid h1
  have HB := Lib.hid hb1
  have HS := Lib.hid hs
  have hp := h.lt
  clear h h1 hb hb1 hF hs
  by_cases k0 : kd = 0
  · subst k0
    simp only [if_true, show ¬ ((0 : Int) = 2) from by decide, show ¬ ((0 : Int) = 3) from by decide, if_false]
    go_enter Try.func14, Try.ntmps14
    go_wp2_with fail
    refine (mnumber_any _ F p most parts sizes H1.out xs ps HS.out sz x hx).mono ?_
    rintro e w2 ⟨rfl, h2⟩
    have H2 := Lib.hid h2
    clear h2
    go_wp2_with fail
    go_ret
    exact ⟨rfl, H2.out.ahead HF.out⟩
  have k0' : (kd == 0) = false := by simpa using k0
  by_cases k1 : kd = 1
  · subst k1
    simp only [show ¬ ((1 : Int) = 0) from by decide, if_true, show ¬ ((1 : Int) = 2) from by decide, show ¬ ((1 : Int) = 3) from by decide, if_false]
    go_enter Try.func14, Try.ntmps14
    go_wp2_with fail
    refine (mbytes_any _ F p most parts sizes H1.out xs ps HS.out _ A bs c HB.out).mono ?_
    rintro e w2 ⟨rfl, h2⟩
    have H2 := Lib.hid h2
    clear h2
    go_wp2_with fail
    go_ret
    exact ⟨rfl, H2.out.ahead HF.out⟩
  have k1' : (kd == 1) = false := by simpa using k1
  by_cases k2 : kd = 2
  · subst k2
    simp only [show ¬ ((2 : Int) = 0) from by decide, show ¬ ((2 : Int) = 1) from by decide, if_true, if_false]
    go_enter Try.func14, Try.ntmps14
    go_wp2_with fail
    refine (mopen_any _ F p most parts sizes H1.out xs ps HS.out sz).mono ?_
    rintro e w2 ⟨rfl, h2⟩
    have H2 := Lib.hid h2
    clear h2
    go_wp2_with fail
    go_ret
    exact ⟨rfl, H2.out.ahead HF.out⟩
  have k2' : (kd == 2) = false := by simpa using k2
  by_cases k3 : kd = 3
  · subst k3
    simp only [show ¬ ((3 : Int) = 0) from by decide, show ¬ ((3 : Int) = 1) from by decide, show ¬ ((3 : Int) = 2) from by decide, if_true, if_false]
    go_enter Try.func14, Try.ntmps14
    go_wp2_with fail
    refine (mclose_any _ F p most parts sizes H1.out xs ps HS.out).mono ?_
    rintro e w2 ⟨rfl, h2⟩
    have H2 := Lib.hid h2
    clear h2
    go_wp2_with fail
    go_ret
    exact ⟨rfl, H2.out.ahead HF.out⟩
  have k3' : (kd == 3) = false := by simpa using k3
  by_cases k4 : kd = 4
  · subst k4
    simp only [show ¬ ((4 : Int) = 0) from by decide, show ¬ ((4 : Int) = 1) from by decide, show ¬ ((4 : Int) = 2) from by decide, show ¬ ((4 : Int) = 3) from by decide, if_true, if_false]
    go_enter Try.func14, Try.ntmps14
    go_wp2_with fail
    generalize w.alloc (.cells #[.int .i64 4, .int .i64 sz, .int .i64 n, .int .u64 x, .slice A bs.length c] 34) = W1 at *
    refine (fives_any _ n).mono ?_
    rintro e w2 ⟨rfl, b2, g2⟩
    generalize W1.heap.size = z at *
    have hc := mbytes_any w2 F p most parts sizes (H1.out.fr (Fr.of_grew g2) (fun _ _ h => by cases h)) xs ps HS.out _ _ _ (fv n) b2.byt
    rw [List.length_replicate] at hc
    have HC := Lib.hid hc
    have HF2 := Lib.hid (HF.out.trans (Fr.of_grew g2) (fun _ _ h => by cases h))
    clear hc b2 g2
    go_wp2_with fail
    with_reducible refine HC.out.mono ?_
    rintro e w3 ⟨rfl, h3⟩
    have H3 := Lib.hid h3
    clear h3
    go_wp2_with fail
    go_ret
    exact ⟨rfl, H3.out.ahead HF2.out⟩
  have k4' : (kd == 4) = false := by simpa using k4
  simp only [if_neg k0, if_neg k1, if_neg k2, if_neg k3, if_neg k4]
  clear k0 k1 k2 k3 k4
  go_enter Try.func14, Try.ntmps14
  go_wp2_with fail
  go_ret
  exact ⟨rfl, _, _, ⟨F, H1.out, HF.out.mono (fun _ _ h => h.elim), fun _ h => .inl h⟩, HS.out⟩

end Go.Proofs.Ytkeiamihgcbcbaa

