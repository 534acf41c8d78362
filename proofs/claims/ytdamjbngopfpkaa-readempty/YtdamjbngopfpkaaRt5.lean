/- The document's Fits, of values that fit. -/
import Derived.Test.YtdamjbngopfpkaaRx
import Derived.Test.YtdamjbngopfpkaaRd2
namespace Go.Proofs.Ytdamjbngopfpkaa
open Go.RowKit Va

theorem lon0 {v : Va} (h : lonB v 0 = true) : v.bs = [] ∧ v.ls = [] := by
  simp [lonB, fil] at h
  exact ⟨h.1, h.2⟩
theorem lon1 {v : Va} (h : lonB v 1 = true) : v.n = 0 ∧ v.ls = [] := by
  simp [lonB, fil] at h
  exact ⟨h.1, h.2⟩
theorem lon2 {v : Va} (h : lonB v 2 = true) : v.n = 0 ∧ v.bs = [] := by
  simp [lonB, fil] at h
  exact ⟨h.1, h.2⟩

theorem between_yes (w : World) (n l h t : Int) (h1 : l ≤ n) (h2 : n ≤ h) (h3 : n % t = 0) (h0 : 0 ≤ n) (ht : 1 ≤ t) :
    Calls Try.prog 40 #[.int .i64 n, .int .i64 l, .int .i64 h, .int .i64 t] w fun e w' => e = .returned (.bool true) ∧ w = w' := by
  go_enter Try.func40, Try.ntmps40
  go_wp2_with fail
  go_ret
  exact ⟨by simp [h3], rfl⟩

theorem power_any (w : World) (k : Nat) (hk : k ≤ 4) :
    Calls Try.prog 39 #[.int .i64 k] w fun e w' => e = .returned (.int .u64 ((256 ^ k : Nat) : Int)) ∧ w = w' := by
  go_enter Try.func39, Try.ntmps39
  go_wp2_with fail
  go_loopw [4, 3] (fun i x wr => ∃ j : Nat, j ≤ k ∧ i = .int .i64 j ∧ x = .int .u64 ((256 ^ j : Nat) : Int) ∧ w = wr) (fun i _ _ => k - (intOf i).toNat)
  case atStart => exact ⟨0, Nat.zero_le _, rfl, rfl, rfl⟩
  case round =>
    obtain ⟨j, hj, rfl, rfl, rfl⟩ := hrel
    by_cases hlt : j < k
    · have hp : 256 ^ (j + 1) = 256 ^ j * 256 := Nat.pow_succ _ _
      have hb : 256 ^ j ≤ 16777216 := by
        have : 256 ^ j ≤ 256 ^ 3 := Nat.pow_le_pow_right (by omega) (by omega)
        omega
      have HP := Lib.hid hp
      clear hp
      generalize 256 ^ j = X at *
      go_wp2_with fail
      go_roundw
      case rel => exact ⟨j + 1, by omega, by go_num, by rw [HP.out, Int.natCast_mul]; rfl, trivial⟩
      case measure => simp [intOf]; omega
    · have : j = k := by omega
      subst this
      go_wp2_with fail
      go_ret
      exact ⟨rfl, rfl⟩

/-- What a part's fit tells. -/
def FitC (p : Fo) (v : Va) : Prop := ∀ w : World, p.In w → v.In w → Calls Try.prog 30 #[p.val, v.val] w fun e w' => e = .returned (.tuple #[.int .i64 (fit p v).1, .int .i64 0]) ∧ Grew w w' none

theorem tot_zero {a : Int} {r : Int × Int} {rs : List (Int × Int)} (h : (tot a (r :: rs)).2 = 0) : r.2 = 0 ∧ tot a (r :: rs) = tot (Fo.plus a r.1) rs := by
  rw [tot] at h ⊢
  by_cases h0 : r.2 = 0
  · rw [if_pos h0]; exact ⟨h0, rfl⟩
  · rw [if_neg h0] at h; exact absurd h h0

set_option maxRecDepth 100000 in
set_option maxHeartbeats 2000000 in
theorem rfit_leaf (w : World) (k s l h t : Int) (A : Option Addr) (c : Nat) (ps : List Fo) (v : Va) (hv : v.In w) (ha : Fo.alone k s l h t ps.length = 0) (hk : k = 0 ∨ k = 1 ∨ k = 4 ∨ k = 5) (h0 : (fit (.mk k s l h t A c ps) v).2 = 0) :
    Calls Try.prog 30 #[.agg #[.int .i64 k, .int .i64 s, .int .i64 l, .int .i64 h, .int .i64 t, .slice A ps.length c], v.val] w fun e w' => e = .returned (.tuple #[.int .i64 (fit (.mk k s l h t A c ps) v).1, .int .i64 0]) ∧ Grew w w' none := by
  cases v with
  | mk n B d bs A' c' ls =>
  have hbl : bs.length ≤ 140737488355328 := hv.bytes.2.2
  clear hv
  change Calls Try.prog 30 #[.agg #[.int .i64 k, .int .i64 s, .int .i64 l, .int .i64 h, .int .i64 t, .slice A ps.length c], .agg #[.int .u64 n, .slice B bs.length d, .slice A' ls.length c']] w _
  have hlon : lonB (.mk n B d bs A' c' ls) (own k) = true := by
    rw [fit] at h0
    cases hb : lonB (.mk n B d bs A' c' ls) (own k) with
    | true => rfl
    | false => rw [hb, if_pos rfl] at h0; simp at h0
  rcases hk with rfl | rfl | rfl | rfl
  · obtain ⟨e1, e2⟩ := lon0 hlon
    change bs = [] at e1
    change ls = [] at e2
    subst e1 e2
    rw [fit, hlon, if_neg (by simp), if_pos rfl] at h0 ⊢
    have hs := Rd.alone_0 ha
    change (if n < 256 ^ s.toNat then ((s, 0) : Int × Int) else (0, 3)).2 = 0 at h0
    have hlt : n < 256 ^ s.toNat := by
      by_cases hq : n < 256 ^ s.toNat
      · exact hq
      · rw [if_neg hq] at h0; simp at h0
    have he : (if (Va.mk n B d [] A' c' []).n < 256 ^ s.toNat then ((s, 0) : Int × Int) else (0, 3)) = (s, 0) := if_pos hlt
    rw [he]
    clear he h0 hlon ha hbl
    obtain ⟨g1, k0, k1, ks⟩ := two_new w #[.int .i64 0, .int .i64 s, .int .i64 l, .int .i64 h, .int .i64 t, .slice A ps.length c] 24 #[.int .u64 n, .slice B 0 d, .slice A' 0 c'] 35
    have G1 := Lib.hid g1
    obtain ⟨b0, b1, b2, b3, b4, b5⟩ := k0.six
    obtain ⟨c0, c1, c2⟩ := k1.three
    clear g1 k0 k1 ks
    by_cases h8 : s = 8
    · subst h8
      clear hlt hs
      go_enter Try.func30, Try.ntmps30
      go_upto_region 7 with (fail)
      generalize (w.alloc (.cells #[.int .i64 0, .int .i64 8, .int .i64 l, .int .i64 h, .int .i64 t, .slice A ps.length c] 24)).alloc (.cells #[.int .u64 n, .slice B 0 d, .slice A' 0 c'] 35) = W at *
      go_quiet (fail)
      go_wp2_with fail
      go_ret2
      exact ⟨rfl, grew_drewN G1.out _⟩
    · obtain ⟨z, rfl⟩ := Int.eq_ofNat_of_zero_le (a := s) (by omega)
      have hz : z ≤ 4 := by omega
      have hz8 : (z : Int) < 8 := by omega
      rw [Int.toNat_natCast] at hlt
      have CP := Lib.hid (fun W => power_any W z hz)
      have hltN : n < ((256 ^ z : Nat) : Int) := by rw [Int.natCast_pow]; exact hlt
      generalize ((256 ^ z : Nat) : Int) = PW at *
      have hge : ¬ PW ≤ n := by omega
      clear hlt hs h8 hz
      go_enter Try.func30, Try.ntmps30
      go_upto_region 7 with (fail)
      generalize (w.alloc (.cells #[.int .i64 0, .int .i64 z, .int .i64 l, .int .i64 h, .int .i64 t, .slice A ps.length c] 24)).alloc (.cells #[.int .u64 n, .slice B 0 d, .slice A' 0 c'] 35) = W at *
      go_quiet ((go_at_call 39; exact quiet_same (CP.out _)))
      go_wp2_with fail
      go_ret2
      exact ⟨rfl, grew_drewN G1.out _⟩
  · obtain ⟨e1, e2⟩ := lon1 hlon
    change n = 0 at e1
    change ls = [] at e2
    subst e1 e2
    obtain ⟨s1, s3, l0, lh, hh, t1, t2, _⟩ := Rd.alone_1 (.inl rfl) ha
    rw [fit, hlon, if_neg (by simp), if_neg (by omega), if_neg (by omega), if_neg (by omega), fitB, if_pos rfl] at h0 ⊢
    change (wl s l h t bs.length).2 = 0 at h0
    change Calls _ _ _ w fun e w' => e = .returned (.tuple #[.int .i64 (wl s l h t bs.length).1, .int .i64 0]) ∧ _
    have hwl : l ≤ (bs.length : Int) ∧ (bs.length : Int) ≤ h ∧ (bs.length : Int) % t = 0 := by
      unfold wl at h0
      split at h0
      · assumption
      · simp at h0
    rw [wl, if_pos hwl, Rd.plus_nat (by omega) (by omega) (by omega)]
    obtain ⟨q1, q2, q3⟩ := hwl
    have CB := Lib.hid (fun W => between_yes W bs.length l h t q1 q2 q3 (by omega) t1)
    clear h0 hlon ha l0 lh q3
    obtain ⟨g1, k0, k1, ks⟩ := two_new w #[.int .i64 1, .int .i64 s, .int .i64 l, .int .i64 h, .int .i64 t, .slice A ps.length c] 24 #[.int .u64 0, .slice B bs.length d, .slice A' 0 c'] 35
    have G1 := Lib.hid g1
    obtain ⟨b0, b1, b2, b3, b4, b5⟩ := k0.six
    obtain ⟨c0, c1, c2⟩ := k1.three
    clear g1 k0 k1 ks
    go_enter Try.func30, Try.ntmps30
    go_wp2_with fail
    generalize (w.alloc (.cells #[.int .i64 1, .int .i64 s, .int .i64 l, .int .i64 h, .int .i64 t, .slice A ps.length c] 24)).alloc (.cells #[.int .u64 0, .slice B bs.length d, .slice A' 0 c'] 35) = W at *
    refine (CB.out W).mono ?_
    rintro e w1 ⟨rfl, rfl⟩
    go_wp2_with fail
    go_ret2
    exact ⟨rfl, G1.out⟩
  · obtain ⟨e1, e2⟩ := lon1 hlon
    change n = 0 at e1
    change ls = [] at e2
    subst e1 e2
    obtain ⟨l0, lh, hh⟩ := Rd.alone_4 ha
    rw [fit, hlon, if_neg (by simp), if_neg (by omega), if_neg (by omega), if_neg (by omega), fitB, if_neg (by omega), if_pos rfl] at h0 ⊢
    change (if l ≤ (bs.length : Int) ∧ (bs.length : Int) ≤ h then (((bs.length : Int), 0) : Int × Int) else (0, 5)).2 = 0 at h0
    change Calls _ _ _ w fun e w' => e = .returned (.tuple #[.int .i64 (if l ≤ (bs.length : Int) ∧ (bs.length : Int) ≤ h then (((bs.length : Int), 0) : Int × Int) else (0, 5)).1, .int .i64 0]) ∧ _
    have hwl : l ≤ (bs.length : Int) ∧ (bs.length : Int) ≤ h := by
      split at h0
      · assumption
      · simp at h0
    rw [if_pos hwl]
    obtain ⟨q1, q2⟩ := hwl
    have CB := Lib.hid (fun W => between_yes W bs.length l h 1 q1 q2 (by omega) (by omega) (by omega))
    clear h0 hlon ha l0 lh
    obtain ⟨g1, k0, k1, ks⟩ := two_new w #[.int .i64 4, .int .i64 s, .int .i64 l, .int .i64 h, .int .i64 t, .slice A ps.length c] 24 #[.int .u64 0, .slice B bs.length d, .slice A' 0 c'] 35
    have G1 := Lib.hid g1
    obtain ⟨b0, b1, b2, b3, b4, b5⟩ := k0.six
    obtain ⟨c0, c1, c2⟩ := k1.three
    clear g1 k0 k1 ks
    go_enter Try.func30, Try.ntmps30
    go_wp2_with fail
    generalize (w.alloc (.cells #[.int .i64 4, .int .i64 s, .int .i64 l, .int .i64 h, .int .i64 t, .slice A ps.length c] 24)).alloc (.cells #[.int .u64 0, .slice B bs.length d, .slice A' 0 c'] 35) = W at *
    refine (CB.out W).mono ?_
    rintro e w1 ⟨rfl, rfl⟩
    go_wp2_with fail
    go_ret2
    exact ⟨rfl, G1.out⟩
  · obtain ⟨e1, e2⟩ := lon1 hlon
    change n = 0 at e1
    change ls = [] at e2
    subst e1 e2
    obtain ⟨l0, lh⟩ := Rd.alone_5 ha
    rw [fit, hlon, if_neg (by simp), if_neg (by omega), if_neg (by omega), if_neg (by omega), fitB, if_neg (by omega), if_neg (by omega)] at h0 ⊢
    change (if (bs.length : Int) = l then (((bs.length : Int), 0) : Int × Int) else (0, 5)).2 = 0 at h0
    change Calls _ _ _ w fun e w' => e = .returned (.tuple #[.int .i64 (if (bs.length : Int) = l then (((bs.length : Int), 0) : Int × Int) else (0, 5)).1, .int .i64 0]) ∧ _
    have hwl : (bs.length : Int) = l := by
      split at h0
      · assumption
      · simp at h0
    rw [if_pos hwl]
    subst hwl
    clear h0 hlon ha l0 lh
    obtain ⟨g1, k0, k1, ks⟩ := two_new w #[.int .i64 5, .int .i64 s, .int .i64 bs.length, .int .i64 h, .int .i64 t, .slice A ps.length c] 24 #[.int .u64 0, .slice B bs.length d, .slice A' 0 c'] 35
    have G1 := Lib.hid g1
    obtain ⟨b0, b1, b2, b3, b4, b5⟩ := k0.six
    obtain ⟨c0, c1, c2⟩ := k1.three
    clear g1 k0 k1 ks
    go_enter Try.func30, Try.ntmps30
    go_wp2_with fail
    go_ret2
    exact ⟨rfl, G1.out⟩
end Go.Proofs.Ytdamjbngopfpkaa

