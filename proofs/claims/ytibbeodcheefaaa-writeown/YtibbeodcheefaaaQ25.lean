/- The document's fit and Fits, whatever the value: of what doesn't fit, why. -/
import Derived.Test.YtibbeodcheefaaaQ24
import Derived.Test.YtibbeodcheefaaaQ14
namespace Go.Proofs.Ytibbeodcheefaaa
open Go.RowKit Va

set_option maxRecDepth 100000 in
theorem between_no (w : World) (n l h t : Int) (h1 : ¬ (l ≤ n ∧ n ≤ h ∧ n % t = 0)) (h0 : 0 ≤ l) (ht : 1 ≤ t) :
    Calls Try.prog 38 #[.int .i64 n, .int .i64 l, .int .i64 h, .int .i64 t] w fun e w' => e = .returned (.bool false) ∧ w = w' := by
  by_cases q1 : l ≤ n
  · by_cases q2 : n ≤ h
    · have q3 : ¬ n % t = 0 := fun e => h1 ⟨q1, q2, e⟩
      have q0 : 0 ≤ n := by omega
      have q4 : (n % t == 0) = false := by simpa using q3
      clear h1 q3
      go_enter Try.func38, Try.ntmps38
      go_wp2_with fail
      go_ret
      exact ⟨by simp, rfl⟩
    · clear h1
      go_enter Try.func38, Try.ntmps38
      go_wp2_with fail
      go_ret
      exact ⟨rfl, rfl⟩
  · clear h1
    go_enter Try.func38, Try.ntmps38
    go_wp2_with fail
    go_ret
    exact ⟨rfl, rfl⟩

theorem tot_none : ∀ (rs : List (Int × Int)) (a : Int), (tot a rs).2 ≠ 0 → (tot a rs).1 = 0
  | [], a, h => absurd rfl h
  | r :: rs, a, h => by
    rw [tot] at h ⊢
    by_cases h0 : r.2 = 0
    · rw [if_pos h0] at h ⊢; exact tot_none rs _ h
    · rw [if_neg h0]
theorem behind_none {s l h t : Int} {r : Int × Int} (h0 : (behind s l h t r).2 ≠ 0) : (behind s l h t r).1 = 0 := by
  unfold behind wl at h0 ⊢
  by_cases h1 : r.2 = 0
  · rw [if_pos h1] at h0 ⊢
    by_cases h2 : l ≤ r.1 ∧ r.1 ≤ h ∧ r.1 % t = 0
    · rw [if_pos h2] at h0; exact absurd rfl h0
    · rw [if_neg h2]
  · rw [if_neg h1]

/-- What a form's fit tells. -/
def FitX (p : Fo) (v : Va) : Prop := ∀ w : World, p.In w → v.In w → Calls Try.prog 23 #[p.val, v.val] w fun e w' => e = .returned (.tuple #[.int .i64 (fit p v).1, .int .i64 (fit p v).2]) ∧ Grew w w' none

set_option maxRecDepth 100000 in
set_option maxHeartbeats 2000000 in
theorem rfit_lon (w : World) (k s l h t : Int) (A : Option Addr) (c : Nat) (ps : List Fo) (n : Int) (B : Option Addr) (d : Nat) (bs : List UInt8) (A' : Option Addr) (c' : Nat) (ls : List Va) (hbl : bs.length ≤ 140737488355328) (hll : ls.length ≤ 2513169434916) (_hn : 0 ≤ n ∧ n ≤ 18446744073709551615) (hk : k = 0 ∨ k = 1 ∨ k = 2 ∨ k = 3 ∨ k = 4 ∨ k = 5) (hlon : lonB (.mk n B d bs A' c' ls) (own k) = false) :
    Calls Try.prog 23 #[.agg #[.int .i64 k, .int .i64 s, .int .i64 l, .int .i64 h, .int .i64 t, .slice A ps.length c], .agg #[.int .u64 n, .slice B bs.length d, .slice A' ls.length c']] w fun e w' => e = .returned (.tuple #[.int .i64 0, .int .i64 15]) ∧ Grew w w' none := by
  rcases hk with rfl | rfl | rfl | rfl | rfl | rfl
  · have key : (((bs.length : Int) != 0) = true) ∨ ((((bs.length : Int) != 0) = false) ∧ (((ls.length : Int) != 0) = true)) := by
      simp [lonB, fil, own, Va.n, Va.bs, Va.ls] at hlon
      by_cases q : ((bs.length : Int) != 0) = true
      · exact .inl q
      · refine .inr ⟨by simpa using q, ?_⟩
        simp at q
        simp [q] at hlon
        have h1 := of_decide_eq_true hlon
        have h2 : ((ls.length : Int)) ≠ 0 := by omega
        simpa using h2
    obtain ⟨g1, k0, k1, ks⟩ := two_new w #[.int .i64 0, .int .i64 s, .int .i64 l, .int .i64 h, .int .i64 t, .slice A ps.length c] 24 #[.int .u64 n, .slice B bs.length d, .slice A' ls.length c'] 29
    have G1 := Lib.hid g1
    clear g1 k0 k1 ks hlon
    rcases key with q1 | ⟨q1, q2⟩
    · go_enter Try.func23, Try.ntmps23
      go_wp2_with fail
      go_ret2
      exact ⟨rfl, G1.out⟩
    · go_enter Try.func23, Try.ntmps23
      go_wp2_with fail
      go_ret2
      exact ⟨rfl, G1.out⟩
  · have key : ((n != 0) = true) ∨ (((n != 0) = false) ∧ (((ls.length : Int) != 0) = true)) := by
      simp [lonB, fil, own, Va.n, Va.bs, Va.ls] at hlon
      by_cases q : (n != 0) = true
      · exact .inl q
      · refine .inr ⟨by simpa using q, ?_⟩
        simp at q
        simp [q] at hlon
        have h1 := of_decide_eq_true hlon
        have h2 : ((ls.length : Int)) ≠ 0 := by omega
        simpa using h2
    obtain ⟨g1, k0, k1, ks⟩ := two_new w #[.int .i64 1, .int .i64 s, .int .i64 l, .int .i64 h, .int .i64 t, .slice A ps.length c] 24 #[.int .u64 n, .slice B bs.length d, .slice A' ls.length c'] 29
    have G1 := Lib.hid g1
    clear g1 k0 k1 ks hlon
    rcases key with q1 | ⟨q1, q2⟩
    · go_enter Try.func23, Try.ntmps23
      go_wp2_with fail
      go_ret2
      exact ⟨rfl, G1.out⟩
    · go_enter Try.func23, Try.ntmps23
      go_wp2_with fail
      go_ret2
      exact ⟨rfl, G1.out⟩
  · have key : ((n != 0) = true) ∨ (((n != 0) = false) ∧ (((bs.length : Int) != 0) = true)) := by
      simp [lonB, fil, own, Va.n, Va.bs, Va.ls] at hlon
      by_cases q : (n != 0) = true
      · exact .inl q
      · refine .inr ⟨by simpa using q, ?_⟩
        simp at q
        simp [q] at hlon
        have h1 := of_decide_eq_true hlon
        have h2 : ((bs.length : Int)) ≠ 0 := by omega
        simpa using h2
    obtain ⟨g1, k0, k1, ks⟩ := two_new w #[.int .i64 2, .int .i64 s, .int .i64 l, .int .i64 h, .int .i64 t, .slice A ps.length c] 24 #[.int .u64 n, .slice B bs.length d, .slice A' ls.length c'] 29
    have G1 := Lib.hid g1
    clear g1 k0 k1 ks hlon
    rcases key with q1 | ⟨q1, q2⟩
    · go_enter Try.func23, Try.ntmps23
      go_wp2_with fail
      go_ret2
      exact ⟨rfl, G1.out⟩
    · go_enter Try.func23, Try.ntmps23
      go_wp2_with fail
      go_ret2
      exact ⟨rfl, G1.out⟩
  · have key : ((n != 0) = true) ∨ (((n != 0) = false) ∧ (((bs.length : Int) != 0) = true)) := by
      simp [lonB, fil, own, Va.n, Va.bs, Va.ls] at hlon
      by_cases q : (n != 0) = true
      · exact .inl q
      · refine .inr ⟨by simpa using q, ?_⟩
        simp at q
        simp [q] at hlon
        have h1 := of_decide_eq_true hlon
        have h2 : ((bs.length : Int)) ≠ 0 := by omega
        simpa using h2
    obtain ⟨g1, k0, k1, ks⟩ := two_new w #[.int .i64 3, .int .i64 s, .int .i64 l, .int .i64 h, .int .i64 t, .slice A ps.length c] 24 #[.int .u64 n, .slice B bs.length d, .slice A' ls.length c'] 29
    have G1 := Lib.hid g1
    clear g1 k0 k1 ks hlon
    rcases key with q1 | ⟨q1, q2⟩
    · go_enter Try.func23, Try.ntmps23
      go_wp2_with fail
      go_ret2
      exact ⟨rfl, G1.out⟩
    · go_enter Try.func23, Try.ntmps23
      go_wp2_with fail
      go_ret2
      exact ⟨rfl, G1.out⟩
  · have key : ((n != 0) = true) ∨ (((n != 0) = false) ∧ (((ls.length : Int) != 0) = true)) := by
      simp [lonB, fil, own, Va.n, Va.bs, Va.ls] at hlon
      by_cases q : (n != 0) = true
      · exact .inl q
      · refine .inr ⟨by simpa using q, ?_⟩
        simp at q
        simp [q] at hlon
        have h1 := of_decide_eq_true hlon
        have h2 : ((ls.length : Int)) ≠ 0 := by omega
        simpa using h2
    obtain ⟨g1, k0, k1, ks⟩ := two_new w #[.int .i64 4, .int .i64 s, .int .i64 l, .int .i64 h, .int .i64 t, .slice A ps.length c] 24 #[.int .u64 n, .slice B bs.length d, .slice A' ls.length c'] 29
    have G1 := Lib.hid g1
    clear g1 k0 k1 ks hlon
    rcases key with q1 | ⟨q1, q2⟩
    · go_enter Try.func23, Try.ntmps23
      go_wp2_with fail
      go_ret2
      exact ⟨rfl, G1.out⟩
    · go_enter Try.func23, Try.ntmps23
      go_wp2_with fail
      go_ret2
      exact ⟨rfl, G1.out⟩
  · have key : ((n != 0) = true) ∨ (((n != 0) = false) ∧ (((ls.length : Int) != 0) = true)) := by
      simp [lonB, fil, own, Va.n, Va.bs, Va.ls] at hlon
      by_cases q : (n != 0) = true
      · exact .inl q
      · refine .inr ⟨by simpa using q, ?_⟩
        simp at q
        simp [q] at hlon
        have h1 := of_decide_eq_true hlon
        have h2 : ((ls.length : Int)) ≠ 0 := by omega
        simpa using h2
    obtain ⟨g1, k0, k1, ks⟩ := two_new w #[.int .i64 5, .int .i64 s, .int .i64 l, .int .i64 h, .int .i64 t, .slice A ps.length c] 24 #[.int .u64 n, .slice B bs.length d, .slice A' ls.length c'] 29
    have G1 := Lib.hid g1
    clear g1 k0 k1 ks hlon
    rcases key with q1 | ⟨q1, q2⟩
    · go_enter Try.func23, Try.ntmps23
      go_wp2_with fail
      go_ret2
      exact ⟨rfl, G1.out⟩
    · go_enter Try.func23, Try.ntmps23
      go_wp2_with fail
      go_ret2
      exact ⟨rfl, G1.out⟩

set_option maxRecDepth 100000 in
set_option maxHeartbeats 2000000 in
theorem rfit_num (w : World) (z : Nat) (l h t : Int) (A : Option Addr) (c : Nat) (ps : List Fo) (n : Int) (B : Option Addr) (d : Nat) (A' : Option Addr) (c' : Nat) (hz : z ≤ 4) (hge : ¬ n < 256 ^ z) :
    Calls Try.prog 23 #[.agg #[.int .i64 0, .int .i64 z, .int .i64 l, .int .i64 h, .int .i64 t, .slice A ps.length c], .agg #[.int .u64 n, .slice B 0 d, .slice A' 0 c']] w fun e w' => e = .returned (.tuple #[.int .i64 0, .int .i64 3]) ∧ Grew w w' none := by
  obtain ⟨g1, k0, k1, ks⟩ := two_new w #[.int .i64 0, .int .i64 z, .int .i64 l, .int .i64 h, .int .i64 t, .slice A ps.length c] 24 #[.int .u64 n, .slice B 0 d, .slice A' 0 c'] 29
  have G1 := Lib.hid g1
  obtain ⟨b0, b1, b2, b3, b4, b5⟩ := k0.six
  obtain ⟨c0, c1, c2⟩ := k1.three
  clear g1 k0 k1 ks
  have hz8 : (z : Int) < 8 := by omega
  have CP := Lib.hid (fun W => power_any W z hz)
  have hltN : ((256 ^ z : Nat) : Int) ≤ n := by rw [Int.natCast_pow]; exact Int.not_lt.1 hge
  generalize ((256 ^ z : Nat) : Int) = PW at *
  clear hge hz
  go_enter Try.func23, Try.ntmps23
  go_upto_region 7 with (fail)
  generalize (w.alloc (.cells #[.int .i64 0, .int .i64 z, .int .i64 l, .int .i64 h, .int .i64 t, .slice A ps.length c] 24)).alloc (.cells #[.int .u64 n, .slice B 0 d, .slice A' 0 c'] 29) = W at *
  go_quiet ((go_at_call 37; exact quiet_same (CP.out _)))
  go_wp2_with fail
  go_ret2
  exact ⟨rfl, grew_drewN G1.out _⟩

set_option maxRecDepth 100000 in
set_option maxHeartbeats 2000000 in
theorem rfit_by (w : World) (k s l h t : Int) (A : Option Addr) (c : Nat) (ps : List Fo) (B : Option Addr) (d : Nat) (bs : List UInt8) (A' : Option Addr) (c' : Nat) (_hbl : bs.length ≤ 140737488355328) (ha : Fo.alone k s l h t ps.length = 0) (hk : k = 1 ∨ k = 4 ∨ k = 5) (h0 : (fitB k s l h t bs.length).2 ≠ 0) :
    Calls Try.prog 23 #[.agg #[.int .i64 k, .int .i64 s, .int .i64 l, .int .i64 h, .int .i64 t, .slice A ps.length c], .agg #[.int .u64 0, .slice B bs.length d, .slice A' 0 c']] w fun e w' => e = .returned (.tuple #[.int .i64 0, .int .i64 5]) ∧ Grew w w' none := by
  rcases hk with rfl | rfl | rfl
  · obtain ⟨s1, s3, l0, lh, hh, t1, t2, _⟩ := Rd.alone_1 (.inl rfl) ha
    have hwl : ¬ (l ≤ (bs.length : Int) ∧ (bs.length : Int) ≤ h ∧ (bs.length : Int) % t = 0) := by
      intro hq
      rw [fitB, if_pos rfl, wl, if_pos hq] at h0
      exact h0 rfl
    have CB := Lib.hid (fun W => between_no W bs.length l h t hwl l0 t1)
    clear h0 ha hwl
    obtain ⟨g1, k0, k1, ks⟩ := two_new w #[.int .i64 1, .int .i64 s, .int .i64 l, .int .i64 h, .int .i64 t, .slice A ps.length c] 24 #[.int .u64 0, .slice B bs.length d, .slice A' 0 c'] 29
    have G1 := Lib.hid g1
    clear g1 k0 k1 ks
    go_enter Try.func23, Try.ntmps23
    go_wp2_with fail
    refine (CB.out _).mono ?_
    rintro e w1 ⟨rfl, rfl⟩
    go_wp2_with fail
    go_ret2
    exact ⟨rfl, G1.out⟩
  · obtain ⟨l0, lh, hh⟩ := Rd.alone_4 ha
    have hwl : ¬ (l ≤ (bs.length : Int) ∧ (bs.length : Int) ≤ h ∧ (bs.length : Int) % 1 = 0) := by
      intro hq
      rw [fitB, if_neg (by omega), if_pos rfl, if_pos ⟨hq.1, hq.2.1⟩] at h0
      exact h0 rfl
    have CB := Lib.hid (fun W => between_no W bs.length l h 1 hwl l0 (by omega))
    clear h0 ha hwl
    obtain ⟨g1, k0, k1, ks⟩ := two_new w #[.int .i64 4, .int .i64 s, .int .i64 l, .int .i64 h, .int .i64 t, .slice A ps.length c] 24 #[.int .u64 0, .slice B bs.length d, .slice A' 0 c'] 29
    have G1 := Lib.hid g1
    clear g1 k0 k1 ks
    go_enter Try.func23, Try.ntmps23
    go_wp2_with fail
    refine (CB.out _).mono ?_
    rintro e w1 ⟨rfl, rfl⟩
    go_wp2_with fail
    go_ret2
    exact ⟨rfl, G1.out⟩
  · have hwl : ((bs.length : Int) != l) = true := by
      simp
      intro hq
      rw [fitB, if_neg (by omega), if_neg (by omega), if_pos hq] at h0
      exact h0 rfl
    clear h0 ha
    obtain ⟨g1, k0, k1, ks⟩ := two_new w #[.int .i64 5, .int .i64 s, .int .i64 l, .int .i64 h, .int .i64 t, .slice A ps.length c] 24 #[.int .u64 0, .slice B bs.length d, .slice A' 0 c'] 29
    have G1 := Lib.hid g1
    clear g1 k0 k1 ks
    go_enter Try.func23, Try.ntmps23
    go_wp2_with fail
    go_ret2
    exact ⟨rfl, G1.out⟩

set_option maxRecDepth 100000 in
set_option maxHeartbeats 2000000 in
theorem rfit_few (w : World) (s l h t : Int) (A : Option Addr) (c : Nat) (ps : List Fo) (B : Option Addr) (d : Nat) (A' : Option Addr) (c' : Nat) (ls : List Va) (hne : ¬ ls.length = ps.length) :
    Calls Try.prog 23 #[.agg #[.int .i64 3, .int .i64 s, .int .i64 l, .int .i64 h, .int .i64 t, .slice A ps.length c], .agg #[.int .u64 0, .slice B 0 d, .slice A' ls.length c']] w fun e w' => e = .returned (.tuple #[.int .i64 0, .int .i64 15]) ∧ Grew w w' none := by
  have hb : ((ls.length : Int) != (ps.length : Int)) = true := by simp; omega
  obtain ⟨g1, k0, k1, ks⟩ := two_new w #[.int .i64 3, .int .i64 s, .int .i64 l, .int .i64 h, .int .i64 t, .slice A ps.length c] 24 #[.int .u64 0, .slice B 0 d, .slice A' ls.length c'] 29
  have G1 := Lib.hid g1
  clear g1 k0 k1 ks hne
  go_enter Try.func23, Try.ntmps23
  go_wp2_with fail
  go_ret2
  exact ⟨rfl, G1.out⟩

set_option maxRecDepth 100000 in
set_option maxHeartbeats 2000000 in
theorem rfit_rowN (w : World) (s l h t : Int) (A : Option Addr) (c : Nat) (B : Option Addr) (d : Nat) (A' : Option Addr) (c' : Nat) (ls : List Va) (ps : List Fo) (hl : ls.length = ps.length) (ih : ∀ p ∈ ps, ∀ v, FitX p v) (hin : Fo.In w (.mk 3 s l h t A c ps)) (hv : Va.In w (.mk 0 B d [] A' c' ls)) (h0 : (tot 0 (pair (fits ps) ls)).2 ≠ 0) :
    Calls Try.prog 23 #[.agg #[.int .i64 3, .int .i64 s, .int .i64 l, .int .i64 h, .int .i64 t, .slice A ps.length c], .agg #[.int .u64 0, .slice B 0 d, .slice A' ls.length c']] w fun e w' => e = .returned (.tuple #[.int .i64 0, .int .i64 (tot 0 (pair (fits ps) ls)).2]) ∧ Grew w w' none := by
  obtain ⟨g1, k0, k1, ks⟩ := two_new w #[.int .i64 3, .int .i64 s, .int .i64 l, .int .i64 h, .int .i64 t, .slice A ps.length c] 24 #[.int .u64 0, .slice B 0 d, .slice A' ls.length c'] 29
  have hlz : ls.length ≤ 2513169434916 := hv.list.2.2
  have HL := Lib.hid (show Va.Lie w A' ls from hv.list.1)
  have HVP := Lib.hid (show ∀ u ∈ ls, u.In w from hv.parts)
  have HIN := Lib.hid hin
  have HIH := Lib.hid ih
  have HR := Lib.hid (show Grew w ((w.alloc (.cells #[.int .i64 3, .int .i64 s, .int .i64 l, .int .i64 h, .int .i64 t, .slice A ps.length c] 24)).alloc (.cells #[.int .u64 0, .slice B 0 d, .slice A' ls.length c'] 29)) none ∧ Whole ((w.alloc (.cells #[.int .i64 3, .int .i64 s, .int .i64 l, .int .i64 h, .int .i64 t, .slice A ps.length c] 24)).alloc (.cells #[.int .u64 0, .slice B 0 d, .slice A' ls.length c'] 29)) w.heap.size #[.int .i64 3, .int .i64 s, .int .i64 l, .int .i64 h, .int .i64 t, .slice A ps.length c] 24 ∧ Whole ((w.alloc (.cells #[.int .i64 3, .int .i64 s, .int .i64 l, .int .i64 h, .int .i64 t, .slice A ps.length c] 24)).alloc (.cells #[.int .u64 0, .slice B 0 d, .slice A' ls.length c'] 29)) (w.heap.size + 1) #[.int .u64 0, .slice B 0 d, .slice A' ls.length c'] 29 ∧ tot 0 ((pair (fits ps) ls).drop 0) = tot 0 (pair (fits ps) ls) from ⟨g1, k0, k1, rfl⟩)
  generalize hT : tot 0 (pair (fits ps) ls) = T at *
  have H0 := Lib.hid h0
  have hrs : ∀ j p v, ps[j]? = some p → ls[j]? = some v → (pair (fits ps) ls)[j]? = some (fit p v) := fun j p v => pair_at
  have hrl : (pair (fits ps) ls).length = ls.length := by rw [pair_length hl, hl]
  have hle : (ls.length : Int) = (ps.length : Int) := by omega
  have hbf : ((ls.length : Int) != (ps.length : Int)) = false := by simpa using hle
  have HLL := Lib.hid hl
  clear hl hle
  generalize pair (fits ps) ls = rs at *
  have HRS := Lib.hid hrs
  have HRL := Lib.hid hrl
  clear g1 k0 k1 ks hin hv ih h0 hT hrs hrl
  go_enter Try.func23, Try.ntmps23
  go_upto_region 26 with (fail)
  generalize (w.alloc (.cells #[.int .i64 3, .int .i64 s, .int .i64 l, .int .i64 h, .int .i64 t, .slice A ps.length c] 24)).alloc (.cells #[.int .u64 0, .slice B 0 d, .slice A' ls.length c'] 29) = W0 at *
  generalize w.heap.size = qf at *
  go_loopw [9, 8] (fun i y wr => ∃ (n : Nat) (x : Int), n ≤ ls.length ∧ i = .int .i64 n ∧ y = .int .i64 x ∧ Hid (Grew w wr none ∧ Whole wr qf #[.int .i64 3, .int .i64 s, .int .i64 l, .int .i64 h, .int .i64 t, .slice A ps.length c] 24 ∧ Whole wr (qf + 1) #[.int .u64 0, .slice B 0 d, .slice A' ls.length c'] 29 ∧ tot x (rs.drop n) = T)) (fun i _ _ => ls.length - (intOf i).toNat)
  case atStart => exact ⟨0, 0, Nat.zero_le _, rfl, rfl, HR⟩
  case round =>
    obtain ⟨n, x, hn, rfl, rfl, R⟩ := hrel
    obtain ⟨b0, b1, b2, b3, b4, b5⟩ := R.out.2.1.six
    obtain ⟨m0, m1, m2⟩ := R.out.2.2.1.three
    by_cases hlt : n < ls.length
    · go_upto_region 31 with (fail)
      obtain ⟨bv, ov, v, hA', hv, hvm, c0, c1, c2⟩ := (HL.out.grew R.out.1).at hlt
      obtain ⟨bf, of, p, hA, hp, hpm, hpi, d0, d1, d2, d3, d4, d5⟩ := (HIN.out.grew R.out.1).at (i := n) (by have := HLL.out; omega)
      subst hA hA'
      have hr := HRS.out n p v hp hv
      have hcv := HIH.out p hpm v
      have hT := R.out.2.2.2
      rw [Va.dropL hr, tot] at hT
      unfold FitX at hcv
      have hvin := HVP.out v hvm
      generalize fit p v = F at *
      obtain ⟨r1, r2⟩ := F
      have HCV : Hid (∀ y, Calls Try.prog 23 #[.agg #[.int .i64 p.k, .int .i64 p.s, .int .i64 p.l, .int .i64 p.h, .int .i64 p.t, .slice p.A p.ps.length p.c], .agg #[.int .u64 v.n, .slice v.B v.bs.length v.d, .slice v.A v.ls.length v.c]] (World.pad wr y) fun e w'' => e = .returned (.tuple #[.int .i64 r1, .int .i64 r2]) ∧ Grew (World.pad wr y) w'' none) := Lib.hid (fun y => hcv _ (hpi.grew (grew_pad _ _)) (hvin.grew (grew_trans R.out.1 (grew_pad _ _))))
      have HT := Lib.hid hT
      have HW := Lib.hid (show Grew w wr none ∧ Whole wr qf _ _ ∧ Whole wr (qf + 1) _ _ from ⟨R.out.1, R.out.2.1, R.out.2.2.1⟩)
      have f5 := fun y => pad_cell b5 y
      have w2 := fun y => pad_cell m2 y
      have e0 := fun y => pad_cell d0 y
      have e1 := fun y => pad_cell d1 y
      have e2 := fun y => pad_cell d2 y
      have e3 := fun y => pad_cell d3 y
      have e4 := fun y => pad_cell d4 y
      have e5 := fun y => pad_cell d5 y
      have u0 := fun y => pad_cell c0 y
      have u1 := fun y => pad_cell c1 y
      have u2 := fun y => pad_cell c2 y
      have hnp : n < ps.length := by have := HLL.out; omega
      clear hr hT hcv hvin hpm hpi hvm hp hv R d0 d1 d2 d3 d4 d5 c0 c1 c2 b0 b1 b2 b3 b4 b5 m0 m1 m2
      refine wp_region_pad (by kernel_rfl) (by kernel_rfl) ?_
      repeat (go_big_quiet_step ((go_at_call 23; exact pad_call (HCV.out _))))
      refine wpQuiet_nil ?_
      rintro _ ⟨xq, rfl⟩
      clear f5 w2 e0 e1 e2 e3 e4 e5 u0 u1 u2
      by_cases hz : r2 = 0
      · subst hz
        have hT2 := HT.out
        rw [if_pos rfl] at hT2
        have HR2 := Lib.hid (show Grew w (World.pad wr xq) none ∧ Whole (World.pad wr xq) qf #[.int .i64 3, .int .i64 s, .int .i64 l, .int .i64 h, .int .i64 t, .slice (some ⟨bf, of, none⟩) ps.length c] 24 ∧ Whole (World.pad wr xq) (qf + 1) #[.int .u64 0, .slice B 0 d, .slice (some ⟨bv, ov, none⟩) ls.length c'] 29 ∧ tot (Fo.plus x r1) (rs.drop (n + 1)) = T from ⟨grew_trans HW.out.1 (grew_pad _ _), HW.out.2.1.grew (grew_pad _ _) (by simp), HW.out.2.2.grew (grew_pad _ _) (by simp), hT2⟩)
        clear hT2
        go_wp2_with fail
        go_roundw
        case rel => exact ⟨n + 1, Fo.plus x r1, by omega, by go_num, rfl, HR2⟩
        case measure => simp [intOf]; omega
      · have hT2 := HT.out
        rw [if_neg hz] at hT2
        have HT2 := Lib.hid hT2
        have HG := Lib.hid (grew_trans HW.out.1 (grew_pad wr xq))
        clear hT2
        go_wp2_with fail
        go_ret2
        exact ⟨by rw [← HT2.out]; rfl, HG.out⟩
    · have hTx : T = (x, 0) := by
        have h3 := R.out.2.2.2
        rw [List.drop_eq_nil_of_le (by have := HRL.out; omega), tot] at h3
        exact h3.symm
      exact absurd (by rw [hTx]) H0.out

set_option maxRecDepth 100000 in
set_option maxHeartbeats 2000000 in
theorem rfit_listN (w : World) (s l h t : Int) (A : Option Addr) (c : Nat) (B : Option Addr) (d : Nat) (A' : Option Addr) (c' : Nat) (ls : List Va) (p : Fo) (ih : ∀ v, FitX p v) (l0 : 0 ≤ l) (t1 : 1 ≤ t) (hin : Fo.In w (.mk 2 s l h t A c [p])) (hv : Va.In w (.mk 0 B d [] A' c' ls)) (h0 : (behind s l h t (tot 0 (ls.map (fit p)))).2 ≠ 0) :
    Calls Try.prog 23 #[.agg #[.int .i64 2, .int .i64 s, .int .i64 l, .int .i64 h, .int .i64 t, .slice A 1 c], .agg #[.int .u64 0, .slice B 0 d, .slice A' ls.length c']] w fun e w' => e = .returned (.tuple #[.int .i64 0, .int .i64 (behind s l h t (tot 0 (ls.map (fit p)))).2]) ∧ Grew w w' none := by
  obtain ⟨g1, k0, k1, ks⟩ := two_new w #[.int .i64 2, .int .i64 s, .int .i64 l, .int .i64 h, .int .i64 t, .slice A 1 c] 24 #[.int .u64 0, .slice B 0 d, .slice A' ls.length c'] 29
  have hlz : ls.length ≤ 2513169434916 := hv.list.2.2
  have HL := Lib.hid (show Va.Lie w A' ls from hv.list.1)
  have HVP := Lib.hid (show ∀ u ∈ ls, u.In w from hv.parts)
  have HIN := Lib.hid hin
  have HIH := Lib.hid ih
  have HR := Lib.hid (show Grew w ((w.alloc (.cells #[.int .i64 2, .int .i64 s, .int .i64 l, .int .i64 h, .int .i64 t, .slice A 1 c] 24)).alloc (.cells #[.int .u64 0, .slice B 0 d, .slice A' ls.length c'] 29)) none ∧ Whole ((w.alloc (.cells #[.int .i64 2, .int .i64 s, .int .i64 l, .int .i64 h, .int .i64 t, .slice A 1 c] 24)).alloc (.cells #[.int .u64 0, .slice B 0 d, .slice A' ls.length c'] 29)) w.heap.size #[.int .i64 2, .int .i64 s, .int .i64 l, .int .i64 h, .int .i64 t, .slice A 1 c] 24 ∧ Whole ((w.alloc (.cells #[.int .i64 2, .int .i64 s, .int .i64 l, .int .i64 h, .int .i64 t, .slice A 1 c] 24)).alloc (.cells #[.int .u64 0, .slice B 0 d, .slice A' ls.length c'] 29)) (w.heap.size + 1) #[.int .u64 0, .slice B 0 d, .slice A' ls.length c'] 29 ∧ tot 0 ((ls.map (fit p)).drop 0) = tot 0 (ls.map (fit p)) from ⟨g1, k0, k1, rfl⟩)
  generalize hT : tot 0 (ls.map (fit p)) = T at *
  have H0 := Lib.hid h0
  have hrs : ∀ j v, ls[j]? = some v → (ls.map (fit p))[j]? = some (fit p v) := fun j v hj => by rw [List.getElem?_map, hj]; rfl
  have hrl : (ls.map (fit p)).length = ls.length := List.length_map _
  generalize ls.map (fit p) = rs at *
  have HRS := Lib.hid hrs
  have HRL := Lib.hid hrl
  clear g1 k0 k1 ks hin hv ih h0 hT hrs hrl
  go_enter Try.func23, Try.ntmps23
  go_upto_region 26 with (fail)
  generalize (w.alloc (.cells #[.int .i64 2, .int .i64 s, .int .i64 l, .int .i64 h, .int .i64 t, .slice A 1 c] 24)).alloc (.cells #[.int .u64 0, .slice B 0 d, .slice A' ls.length c'] 29) = W0 at *
  generalize w.heap.size = qf at *
  go_loopw [9, 8] (fun i y wr => ∃ (n : Nat) (x : Int), n ≤ ls.length ∧ i = .int .i64 n ∧ y = .int .i64 x ∧ Hid (Grew w wr none ∧ Whole wr qf #[.int .i64 2, .int .i64 s, .int .i64 l, .int .i64 h, .int .i64 t, .slice A 1 c] 24 ∧ Whole wr (qf + 1) #[.int .u64 0, .slice B 0 d, .slice A' ls.length c'] 29 ∧ tot x (rs.drop n) = T)) (fun i _ _ => ls.length - (intOf i).toNat)
  case atStart => exact ⟨0, 0, Nat.zero_le _, rfl, rfl, HR⟩
  case round =>
    obtain ⟨n, x, hn, rfl, rfl, R⟩ := hrel
    obtain ⟨b0, b1, b2, b3, b4, b5⟩ := R.out.2.1.six
    obtain ⟨m0, m1, m2⟩ := R.out.2.2.1.three
    by_cases hlt : n < ls.length
    · go_upto_region 31 with (fail)
      obtain ⟨bv, ov, v, hA', hv, hvm, c0, c1, c2⟩ := (HL.out.grew R.out.1).at hlt
      obtain ⟨bf, of, p', hA, hp, hpm, hpi, d0, d1, d2, d3, d4, d5⟩ := (HIN.out.grew R.out.1).at (i := 0) (by simp)
      cases hp
      simp only [Nat.zero_mul, Nat.add_zero] at d0 d1 d2 d3 d4 d5
      subst hA hA'
      have hr := HRS.out n v hv
      have hcv := HIH.out v
      have hT := R.out.2.2.2
      rw [Va.dropL hr, tot] at hT
      unfold FitX at hcv
      have hvin := HVP.out v hvm
      generalize fit p v = F at *
      obtain ⟨r1, r2⟩ := F
      have HCV : Hid (∀ y, Calls Try.prog 23 #[.agg #[.int .i64 p.k, .int .i64 p.s, .int .i64 p.l, .int .i64 p.h, .int .i64 p.t, .slice p.A p.ps.length p.c], .agg #[.int .u64 v.n, .slice v.B v.bs.length v.d, .slice v.A v.ls.length v.c]] (World.pad wr y) fun e w'' => e = .returned (.tuple #[.int .i64 r1, .int .i64 r2]) ∧ Grew (World.pad wr y) w'' none) := Lib.hid (fun y => hcv _ (hpi.grew (grew_pad _ _)) (hvin.grew (grew_trans R.out.1 (grew_pad _ _))))
      have HT := Lib.hid hT
      have HW := Lib.hid (show Grew w wr none ∧ Whole wr qf _ _ ∧ Whole wr (qf + 1) _ _ from ⟨R.out.1, R.out.2.1, R.out.2.2.1⟩)
      have f5 := fun y => pad_cell b5 y
      have w2 := fun y => pad_cell m2 y
      have e0 := fun y => pad_cell d0 y
      have e1 := fun y => pad_cell d1 y
      have e2 := fun y => pad_cell d2 y
      have e3 := fun y => pad_cell d3 y
      have e4 := fun y => pad_cell d4 y
      have e5 := fun y => pad_cell d5 y
      have u0 := fun y => pad_cell c0 y
      have u1 := fun y => pad_cell c1 y
      have u2 := fun y => pad_cell c2 y
      clear hr hT hcv hvin hpm hpi hvm hv R d0 d1 d2 d3 d4 d5 c0 c1 c2 b0 b1 b2 b3 b4 b5 m0 m1 m2
      refine wp_region_pad (by kernel_rfl) (by kernel_rfl) ?_
      repeat (go_big_quiet_step ((go_at_call 23; exact pad_call (HCV.out _))))
      refine wpQuiet_nil ?_
      rintro _ ⟨xq, rfl⟩
      clear f5 w2 e0 e1 e2 e3 e4 e5 u0 u1 u2
      by_cases hz : r2 = 0
      · subst hz
        have hT2 := HT.out
        rw [if_pos rfl] at hT2
        have HR2 := Lib.hid (show Grew w (World.pad wr xq) none ∧ Whole (World.pad wr xq) qf #[.int .i64 2, .int .i64 s, .int .i64 l, .int .i64 h, .int .i64 t, .slice (some ⟨bf, of, none⟩) 1 c] 24 ∧ Whole (World.pad wr xq) (qf + 1) #[.int .u64 0, .slice B 0 d, .slice (some ⟨bv, ov, none⟩) ls.length c'] 29 ∧ tot (Fo.plus x r1) (rs.drop (n + 1)) = T from ⟨grew_trans HW.out.1 (grew_pad _ _), HW.out.2.1.grew (grew_pad _ _) (by simp), HW.out.2.2.grew (grew_pad _ _) (by simp), hT2⟩)
        clear hT2
        go_wp2_with fail
        go_roundw
        case rel => exact ⟨n + 1, Fo.plus x r1, by omega, by go_num, rfl, HR2⟩
        case measure => simp [intOf]; omega
      · have hT2 := HT.out
        rw [if_neg hz] at hT2
        have HT2 := Lib.hid hT2
        have HG := Lib.hid (grew_trans HW.out.1 (grew_pad wr xq))
        clear hT2
        go_wp2_with fail
        go_ret2
        exact ⟨by rw [← HT2.out]; rw [behind, if_neg hz]; rfl, HG.out⟩
    · have hTx : T = (x, 0) := by
        have h3 := R.out.2.2.2
        rw [List.drop_eq_nil_of_le (by have := HRL.out; omega), tot] at h3
        exact h3.symm
      have HTX := Lib.hid hTx
      have HG := Lib.hid R.out.1
      have hwl : ¬ (l ≤ x ∧ x ≤ h ∧ x % t = 0) := by
        intro hq
        have := H0.out
        rw [hTx, behind, if_pos rfl, wl, if_pos hq] at this
        exact this rfl
      have HWL := Lib.hid hwl
      have CB := Lib.hid (fun W => between_no W x l h t hwl l0 t1)
      clear R hTx hwl
      go_wp2_with fail
      refine (CB.out wr).mono ?_
      rintro e w1 ⟨rfl, rfl⟩
      go_wp2_with fail
      go_ret2
      exact ⟨by rw [HTX.out, behind, if_pos rfl, wl, if_neg HWL.out]; rfl, HG.out⟩

set_option maxRecDepth 100000 in
/-- The document's fit of a right form. -/
theorem rfit_all (f : Fo) : f.wrg = 0 → ∀ v, FitX f v := by
  induction f using Fo.ind with
  | H k s l h t A c ps ih =>
  intro hw v w hin hv
  obtain ⟨ha, hq, hmis⟩ := wrg_zero hw
  by_cases h0 : (fit (.mk k s l h t A c ps) v).2 = 0
  · rw [h0]
    exact rfit_ok _ hw v h0 w hin hv
  have hk := alone_kind ha
  have hbl := hv.bytes.2.2
  have hll := hv.list.2.2
  have hnn := hv.num
  cases v with
  | mk n B d bs A' c' ls =>
  change bs.length ≤ 140737488355328 at hbl
  change ls.length ≤ 2513169434916 at hll
  change 0 ≤ n ∧ n ≤ 18446744073709551615 at hnn
  change Calls Try.prog 23 #[.agg #[.int .i64 k, .int .i64 s, .int .i64 l, .int .i64 h, .int .i64 t, .slice A ps.length c], .agg #[.int .u64 n, .slice B bs.length d, .slice A' ls.length c']] w _
  by_cases hlon : lonB (.mk n B d bs A' c' ls) (own k) = false
  · rw [fit, if_pos hlon]
    exact rfit_lon w k s l h t A c ps n B d bs A' c' ls hbl hll hnn (by omega) hlon
  have hlon' : lonB (.mk n B d bs A' c' ls) (own k) = true := by simpa using hlon
  rcases hk with rfl | rfl | rfl | rfl | rfl | rfl
  · obtain ⟨e1, e2⟩ := Go.Proofs.Ytibbeodcheefaaa.lon0 hlon'
    change bs = [] at e1
    change ls = [] at e2
    subst e1 e2
    have hs := Rd.alone_0 ha
    rw [fit, if_neg hlon, if_pos rfl] at h0 ⊢
    change (if n < 256 ^ s.toNat then ((s, 0) : Int × Int) else (0, 3)).2 ≠ 0 at h0
    have hge : ¬ n < 256 ^ s.toNat := by
      intro hq
      rw [if_pos hq] at h0
      exact h0 rfl
    have he : (if (Va.mk n B d [] A' c' []).n < 256 ^ s.toNat then ((s, 0) : Int × Int) else (0, 3)) = (0, 3) := if_neg hge
    rw [he]
    have h8 : s ≠ 8 := by
      rintro rfl
      exact hge (by have : (256 : Int) ^ (8 : Int).toNat = 18446744073709551616 := by decide
                    omega)
    obtain ⟨z, rfl⟩ := Int.eq_ofNat_of_zero_le (a := s) (by omega)
    rw [Int.toNat_natCast] at hge
    exact rfit_num w z l h t A c ps n B d A' c' (by omega) hge
  · obtain ⟨e1, e2⟩ := Go.Proofs.Ytibbeodcheefaaa.lon1 hlon'
    change n = 0 at e1
    change ls = [] at e2
    subst e1 e2
    rw [fit, if_neg hlon, if_neg (by omega), if_neg (by omega), if_neg (by omega)] at h0 ⊢
    change (fitB 1 s l h t bs.length).2 ≠ 0 at h0
    have he : fitB 1 s l h t bs.length = (0, 5) := by
      rw [fitB, if_pos rfl, wl] at h0 ⊢
      split at h0
      · exact absurd rfl h0
      · rename_i hq; rw [if_neg hq]
    change Calls _ _ _ w fun e w' => e = .returned (.tuple #[.int .i64 (fitB 1 s l h t bs.length).1, .int .i64 (fitB 1 s l h t bs.length).2]) ∧ _
    have hc := rfit_by w 1 s l h t A c ps B d bs A' c' hbl ha (by omega) h0
    rw [he]
    exact hc
  · obtain ⟨s1, s3, l0, lh, hh, t1, t2, hn1⟩ := Rd.alone_1 (.inr rfl) ha
    obtain ⟨p, rfl⟩ := List.length_eq_one_iff.1 (hn1 rfl)
    have hinn : Fo.inn (.mk 2 s l h t A c [p]) = [p] := by rw [Fo.inn, if_pos (by omega)]
    rw [hinn] at hq
    obtain ⟨e1, e2⟩ := Go.Proofs.Ytibbeodcheefaaa.lon2 hlon'
    change n = 0 at e1
    change bs = [] at e2
    subst e1 e2
    have hf : fit (.mk 2 s l h t A c [p]) (.mk 0 B d [] A' c' ls) = behind s l h t (tot 0 (ls.map (fit p))) := by
      rw [fit, if_neg hlon, if_neg (by omega), if_pos rfl]
      rfl
    rw [hf] at h0 ⊢
    rw [behind_none h0]
    exact rfit_listN w s l h t A c B d A' c' ls p (fun v => ih p (by simp) (hq p (by simp)) v) l0 t1 hin hv h0
  · have hinn : Fo.inn (.mk 3 s l h t A c ps) = ps := by rw [Fo.inn, if_pos (by omega)]
    rw [hinn] at hq
    obtain ⟨e1, e2⟩ := Go.Proofs.Ytibbeodcheefaaa.lon2 hlon'
    change n = 0 at e1
    change bs = [] at e2
    subst e1 e2
    have hf : fit (.mk 3 s l h t A c ps) (.mk 0 B d [] A' c' ls) = if ls.length = ps.length then tot 0 (pair (fits ps) ls) else (0, 15) := by
      rw [fit, if_neg hlon, if_neg (by omega), if_neg (by omega), if_pos rfl]
      rfl
    rw [hf] at h0 ⊢
    by_cases hl : ls.length = ps.length
    · rw [if_pos hl] at h0 ⊢
      rw [tot_none _ _ h0]
      exact rfit_rowN w s l h t A c B d A' c' ls ps hl (fun p hp v => ih p hp (hq p hp) v) hin hv h0
    · rw [if_neg hl]
      exact rfit_few w s l h t A c ps B d A' c' ls hl
  all_goals
    obtain ⟨e1, e2⟩ := Go.Proofs.Ytibbeodcheefaaa.lon1 hlon'
    change n = 0 at e1
    change ls = [] at e2
    subst e1 e2
    rw [fit, if_neg hlon, if_neg (by omega), if_neg (by omega), if_neg (by omega)] at h0 ⊢
    change (fitB _ s l h t bs.length).2 ≠ 0 at h0
    change Calls _ _ _ w fun e w' => e = .returned (.tuple #[.int .i64 (fitB _ s l h t bs.length).1, .int .i64 (fitB _ s l h t bs.length).2]) ∧ _
  · have he : fitB 4 s l h t bs.length = (0, 5) := by
      rw [fitB, if_neg (by omega), if_pos rfl] at h0 ⊢
      split at h0
      · exact absurd rfl h0
      · rename_i hq; rw [if_neg hq]
    have hc := rfit_by w 4 s l h t A c ps B d bs A' c' hbl ha (by omega) h0
    rw [he]
    exact hc
  · have he : fitB 5 s l h t bs.length = (0, 5) := by
      rw [fitB, if_neg (by omega), if_neg (by omega)] at h0 ⊢
      split at h0
      · exact absurd rfl h0
      · rename_i hq; rw [if_neg hq]
    have hc := rfit_by w 5 s l h t A c ps B d bs A' c' hbl ha (by omega) h0
    rw [he]
    exact hc

set_option maxRecDepth 100000 in
set_option maxHeartbeats 1000000 in
/-- The document's Fits. -/
theorem rfits_any (w : World) (f : Fo) (hf : f.In w) (v : Va) (hv : v.In w) :
    Calls Try.prog 11 #[f.val, v.val] w fun e w' => e = .returned (.tuple #[.int .i64 (meas f v).1, .int .i64 (meas f v).2]) ∧ Grew w w' none := by
  have CC := Lib.hid (fun w' (g : Grew w w' none) => rchk_any w' f (hf.grew g))
  obtain ⟨g1, k0, k1, ks⟩ := two_new w #[.int .i64 f.k, .int .i64 f.s, .int .i64 f.l, .int .i64 f.h, .int .i64 f.t, .slice f.A f.ps.length f.c] 24 #[.int .u64 v.n, .slice v.B v.bs.length v.d, .slice v.A v.ls.length v.c] 29
  have G1 := Lib.hid g1
  have K0 := Lib.hid k0
  have K1 := Lib.hid k1
  clear g1 k0 k1 ks
  by_cases hc : f.chk = 0
  · obtain ⟨hd, hw⟩ := chk_zero hc
    have CF := Lib.hid (fun w' (g : Grew w w' none) => rfit_all f hw v w' (hf.grew g) (hv.grew g))
    rw [meas_ok hc]
    rw [hc] at CC
    clear hf hv hd hw hc
    rw [val_eq, vval_eq] at *
    generalize fit f v = R at *
    obtain ⟨r1, r2⟩ := R
    go_enter Try.func11, Try.ntmps11
    go_wp2_with fail
    generalize (w.alloc (.cells #[.int .i64 f.k, .int .i64 f.s, .int .i64 f.l, .int .i64 f.h, .int .i64 f.t, .slice f.A f.ps.length f.c] 24)).alloc (.cells #[.int .u64 v.n, .slice v.B v.bs.length v.d, .slice v.A v.ls.length v.c] 29) = W at *
    refine (CC.out W G1.out).mono ?_
    rintro e w1 ⟨rfl, g2⟩
    obtain ⟨b0, b1, b2, b3, b4, b5⟩ := (K0.out.grew g2 (by simp)).six
    obtain ⟨c0, c1, c2⟩ := (K1.out.grew g2 (by simp)).three
    have G2 := Lib.hid (grew_trans G1.out g2)
    clear g2 CC
    go_wp2_with fail
    refine (CF.out w1 G2.out).mono ?_
    rintro e w2 ⟨rfl, g3⟩
    have G3 := Lib.hid (grew_trans G2.out g3)
    clear g3
    go_wp2_with fail
    go_ret2
    exact ⟨rfl, G3.out⟩
  · rw [meas, if_neg hc]
    clear hf hv
    rw [val_eq, vval_eq] at *
    generalize f.chk = CH at *
    go_enter Try.func11, Try.ntmps11
    go_wp2_with fail
    generalize (w.alloc (.cells #[.int .i64 f.k, .int .i64 f.s, .int .i64 f.l, .int .i64 f.h, .int .i64 f.t, .slice f.A f.ps.length f.c] 24)).alloc (.cells #[.int .u64 v.n, .slice v.B v.bs.length v.d, .slice v.A v.ls.length v.c] 29) = W at *
    refine (CC.out W G1.out).mono ?_
    rintro e w1 ⟨rfl, g2⟩
    have G2 := Lib.hid (grew_trans G1.out g2)
    clear g2 CC
    go_wp2_with fail
    go_ret2
    exact ⟨rfl, G2.out⟩
end Go.Proofs.Ytibbeodcheefaaa

