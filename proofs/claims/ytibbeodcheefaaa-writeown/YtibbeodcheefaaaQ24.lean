/- The document's Fits, of what fits. -/
import Derived.Test.YtibbeodcheefaaaQ11
import Derived.Test.YtibbeodcheefaaaQ9
namespace Go.Proofs.Ytibbeodcheefaaa
open Go.RowKit Va

set_option maxRecDepth 100000 in
theorem lon0 {v : Va} (h : lonB v 0 = true) : v.bs = [] ∧ v.ls = [] := by
  simp [lonB, fil] at h
  exact ⟨h.1, h.2⟩
set_option maxRecDepth 100000 in
theorem lon1 {v : Va} (h : lonB v 1 = true) : v.n = 0 ∧ v.ls = [] := by
  simp [lonB, fil] at h
  exact ⟨h.1, h.2⟩
set_option maxRecDepth 100000 in
theorem lon2 {v : Va} (h : lonB v 2 = true) : v.n = 0 ∧ v.bs = [] := by
  simp [lonB, fil] at h
  exact ⟨h.1, h.2⟩

set_option maxRecDepth 100000 in
theorem between_yes (w : World) (n l h t : Int) (h1 : l ≤ n) (h2 : n ≤ h) (h3 : n % t = 0) (h0 : 0 ≤ n) (ht : 1 ≤ t) :
    Calls Try.prog 38 #[.int .i64 n, .int .i64 l, .int .i64 h, .int .i64 t] w fun e w' => e = .returned (.bool true) ∧ w = w' := by
  go_enter Try.func38, Try.ntmps38
  go_wp2_with fail
  go_ret
  exact ⟨by simp [h3], rfl⟩

set_option maxRecDepth 100000 in
theorem power_any (w : World) (k : Nat) (hk : k ≤ 4) :
    Calls Try.prog 37 #[.int .i64 k] w fun e w' => e = .returned (.int .u64 ((256 ^ k : Nat) : Int)) ∧ w = w' := by
  go_enter Try.func37, Try.ntmps37
  go_wp2_with fail
  go_loopw [4, 3] (fun i x wr => ∃ j : Nat, j ≤ k ∧ i = .int .i64 j ∧ x = .int .u64 ((256 ^ j : Nat) : Int) ∧ w = wr) (fun i _ _ => k - (intOf i).toNat)
  case atStart => exact ⟨0, Nat.zero_le _, rfl, rfl, rfl⟩
  case round =>
    obtain ⟨j, hj, rfl, rfl, rfl⟩ := hrel
    by_cases hlt : j < k
    · have hp : 256 ^ (j + 1) = 256 ^ j * 256 := Nat.pow_succ _ _
      have hb : 256 ^ j ≤ 16777216 := by
        have : 256 ^ j ≤ 256 ^ 3 := Nat.pow_le_pow_right (by omega) (by omega)
        omega
      have HP := Lib.hid hp
      clear hp
      generalize 256 ^ j = X at *
      go_wp2_with fail
      go_roundw
      case rel => exact ⟨j + 1, by omega, by go_num, by rw [HP.out, Int.natCast_mul]; rfl, trivial⟩
      case measure => simp [intOf]; omega
    · have : j = k := by omega
      subst this
      go_wp2_with fail
      go_ret
      exact ⟨rfl, rfl⟩

/-- What a part's fit tells. -/
def FitC (p : Fo) (v : Va) : Prop := ∀ w : World, p.In w → v.In w → Calls Try.prog 23 #[p.val, v.val] w fun e w' => e = .returned (.tuple #[.int .i64 (fit p v).1, .int .i64 0]) ∧ Grew w w' none

set_option maxRecDepth 100000 in
theorem tot_zero {a : Int} {r : Int × Int} {rs : List (Int × Int)} (h : (tot a (r :: rs)).2 = 0) : r.2 = 0 ∧ tot a (r :: rs) = tot (Fo.plus a r.1) rs := by
  rw [tot] at h ⊢
  by_cases h0 : r.2 = 0
  · rw [if_pos h0]; exact ⟨h0, rfl⟩
  · rw [if_neg h0] at h; exact absurd h h0

set_option maxRecDepth 100000 in
set_option maxHeartbeats 2000000 in
theorem rfit_leaf (w : World) (k s l h t : Int) (A : Option Addr) (c : Nat) (ps : List Fo) (v : Va) (hv : v.In w) (ha : Fo.alone k s l h t ps.length = 0) (hk : k = 0 ∨ k = 1 ∨ k = 4 ∨ k = 5) (h0 : (fit (.mk k s l h t A c ps) v).2 = 0) :
    Calls Try.prog 23 #[.agg #[.int .i64 k, .int .i64 s, .int .i64 l, .int .i64 h, .int .i64 t, .slice A ps.length c], v.val] w fun e w' => e = .returned (.tuple #[.int .i64 (fit (.mk k s l h t A c ps) v).1, .int .i64 0]) ∧ Grew w w' none := by
  cases v with
  | mk n B d bs A' c' ls =>
  have hbl : bs.length ≤ 140737488355328 := hv.bytes.2.2
  clear hv
  change Calls Try.prog 23 #[.agg #[.int .i64 k, .int .i64 s, .int .i64 l, .int .i64 h, .int .i64 t, .slice A ps.length c], .agg #[.int .u64 n, .slice B bs.length d, .slice A' ls.length c']] w _
  have hlon : lonB (.mk n B d bs A' c' ls) (own k) = true := by
    rw [fit] at h0
    cases hb : lonB (.mk n B d bs A' c' ls) (own k) with
    | true => rfl
    | false => rw [hb, if_pos rfl] at h0; simp at h0
  rcases hk with rfl | rfl | rfl | rfl
  · obtain ⟨e1, e2⟩ := lon0 hlon
    change bs = [] at e1
    change ls = [] at e2
    subst e1 e2
    rw [fit, hlon, if_neg (by simp), if_pos rfl] at h0 ⊢
    have hs := Rd.alone_0 ha
    change (if n < 256 ^ s.toNat then ((s, 0) : Int × Int) else (0, 3)).2 = 0 at h0
    have hlt : n < 256 ^ s.toNat := by
      by_cases hq : n < 256 ^ s.toNat
      · exact hq
      · rw [if_neg hq] at h0; simp at h0
    have he : (if (Va.mk n B d [] A' c' []).n < 256 ^ s.toNat then ((s, 0) : Int × Int) else (0, 3)) = (s, 0) := if_pos hlt
    rw [he]
    clear he h0 hlon ha hbl
    obtain ⟨g1, k0, k1, ks⟩ := two_new w #[.int .i64 0, .int .i64 s, .int .i64 l, .int .i64 h, .int .i64 t, .slice A ps.length c] 24 #[.int .u64 n, .slice B 0 d, .slice A' 0 c'] 29
    have G1 := Lib.hid g1
    obtain ⟨b0, b1, b2, b3, b4, b5⟩ := k0.six
    obtain ⟨c0, c1, c2⟩ := k1.three
    clear g1 k0 k1 ks
    by_cases h8 : s = 8
    · subst h8
      clear hlt hs
      go_enter Try.func23, Try.ntmps23
      go_upto_region 7 with (fail)
      generalize (w.alloc (.cells #[.int .i64 0, .int .i64 8, .int .i64 l, .int .i64 h, .int .i64 t, .slice A ps.length c] 24)).alloc (.cells #[.int .u64 n, .slice B 0 d, .slice A' 0 c'] 29) = W at *
      go_quiet (fail)
      go_wp2_with fail
      go_ret2
      exact ⟨rfl, grew_drewN G1.out _⟩
    · obtain ⟨z, rfl⟩ := Int.eq_ofNat_of_zero_le (a := s) (by omega)
      have hz : z ≤ 4 := by omega
      have hz8 : (z : Int) < 8 := by omega
      rw [Int.toNat_natCast] at hlt
      have CP := Lib.hid (fun W => power_any W z hz)
      have hltN : n < ((256 ^ z : Nat) : Int) := by rw [Int.natCast_pow]; exact hlt
      generalize ((256 ^ z : Nat) : Int) = PW at *
      have hge : ¬ PW ≤ n := by omega
      clear hlt hs h8 hz
      go_enter Try.func23, Try.ntmps23
      go_upto_region 7 with (fail)
      generalize (w.alloc (.cells #[.int .i64 0, .int .i64 z, .int .i64 l, .int .i64 h, .int .i64 t, .slice A ps.length c] 24)).alloc (.cells #[.int .u64 n, .slice B 0 d, .slice A' 0 c'] 29) = W at *
      go_quiet ((go_at_call 37; exact quiet_same (CP.out _)))
      go_wp2_with fail
      go_ret2
      exact ⟨rfl, grew_drewN G1.out _⟩
  · obtain ⟨e1, e2⟩ := lon1 hlon
    change n = 0 at e1
    change ls = [] at e2
    subst e1 e2
    obtain ⟨s1, s3, l0, lh, hh, t1, t2, _⟩ := Rd.alone_1 (.inl rfl) ha
    rw [fit, hlon, if_neg (by simp), if_neg (by omega), if_neg (by omega), if_neg (by omega), fitB, if_pos rfl] at h0 ⊢
    change (wl s l h t bs.length).2 = 0 at h0
    change Calls _ _ _ w fun e w' => e = .returned (.tuple #[.int .i64 (wl s l h t bs.length).1, .int .i64 0]) ∧ _
    have hwl : l ≤ (bs.length : Int) ∧ (bs.length : Int) ≤ h ∧ (bs.length : Int) % t = 0 := by
      unfold wl at h0
      split at h0
      · assumption
      · simp at h0
    rw [wl, if_pos hwl, Rd.plus_nat (by omega) (by omega) (by omega)]
    obtain ⟨q1, q2, q3⟩ := hwl
    have CB := Lib.hid (fun W => between_yes W bs.length l h t q1 q2 q3 (by omega) t1)
    clear h0 hlon ha l0 lh q3
    obtain ⟨g1, k0, k1, ks⟩ := two_new w #[.int .i64 1, .int .i64 s, .int .i64 l, .int .i64 h, .int .i64 t, .slice A ps.length c] 24 #[.int .u64 0, .slice B bs.length d, .slice A' 0 c'] 29
    have G1 := Lib.hid g1
    obtain ⟨b0, b1, b2, b3, b4, b5⟩ := k0.six
    obtain ⟨c0, c1, c2⟩ := k1.three
    clear g1 k0 k1 ks
    go_enter Try.func23, Try.ntmps23
    go_wp2_with fail
    generalize (w.alloc (.cells #[.int .i64 1, .int .i64 s, .int .i64 l, .int .i64 h, .int .i64 t, .slice A ps.length c] 24)).alloc (.cells #[.int .u64 0, .slice B bs.length d, .slice A' 0 c'] 29) = W at *
    refine (CB.out W).mono ?_
    rintro e w1 ⟨rfl, rfl⟩
    go_wp2_with fail
    go_ret2
    exact ⟨rfl, G1.out⟩
  · obtain ⟨e1, e2⟩ := lon1 hlon
    change n = 0 at e1
    change ls = [] at e2
    subst e1 e2
    obtain ⟨l0, lh, hh⟩ := Rd.alone_4 ha
    rw [fit, hlon, if_neg (by simp), if_neg (by omega), if_neg (by omega), if_neg (by omega), fitB, if_neg (by omega), if_pos rfl] at h0 ⊢
    change (if l ≤ (bs.length : Int) ∧ (bs.length : Int) ≤ h then (((bs.length : Int), 0) : Int × Int) else (0, 5)).2 = 0 at h0
    change Calls _ _ _ w fun e w' => e = .returned (.tuple #[.int .i64 (if l ≤ (bs.length : Int) ∧ (bs.length : Int) ≤ h then (((bs.length : Int), 0) : Int × Int) else (0, 5)).1, .int .i64 0]) ∧ _
    have hwl : l ≤ (bs.length : Int) ∧ (bs.length : Int) ≤ h := by
      split at h0
      · assumption
      · simp at h0
    rw [if_pos hwl]
    obtain ⟨q1, q2⟩ := hwl
    have CB := Lib.hid (fun W => between_yes W bs.length l h 1 q1 q2 (by omega) (by omega) (by omega))
    clear h0 hlon ha l0 lh
    obtain ⟨g1, k0, k1, ks⟩ := two_new w #[.int .i64 4, .int .i64 s, .int .i64 l, .int .i64 h, .int .i64 t, .slice A ps.length c] 24 #[.int .u64 0, .slice B bs.length d, .slice A' 0 c'] 29
    have G1 := Lib.hid g1
    obtain ⟨b0, b1, b2, b3, b4, b5⟩ := k0.six
    obtain ⟨c0, c1, c2⟩ := k1.three
    clear g1 k0 k1 ks
    go_enter Try.func23, Try.ntmps23
    go_wp2_with fail
    generalize (w.alloc (.cells #[.int .i64 4, .int .i64 s, .int .i64 l, .int .i64 h, .int .i64 t, .slice A ps.length c] 24)).alloc (.cells #[.int .u64 0, .slice B bs.length d, .slice A' 0 c'] 29) = W at *
    refine (CB.out W).mono ?_
    rintro e w1 ⟨rfl, rfl⟩
    go_wp2_with fail
    go_ret2
    exact ⟨rfl, G1.out⟩
  · obtain ⟨e1, e2⟩ := lon1 hlon
    change n = 0 at e1
    change ls = [] at e2
    subst e1 e2
    obtain ⟨l0, lh⟩ := Rd.alone_5 ha
    rw [fit, hlon, if_neg (by simp), if_neg (by omega), if_neg (by omega), if_neg (by omega), fitB, if_neg (by omega), if_neg (by omega)] at h0 ⊢
    change (if (bs.length : Int) = l then (((bs.length : Int), 0) : Int × Int) else (0, 5)).2 = 0 at h0
    change Calls _ _ _ w fun e w' => e = .returned (.tuple #[.int .i64 (if (bs.length : Int) = l then (((bs.length : Int), 0) : Int × Int) else (0, 5)).1, .int .i64 0]) ∧ _
    have hwl : (bs.length : Int) = l := by
      split at h0
      · assumption
      · simp at h0
    rw [if_pos hwl]
    subst hwl
    clear h0 hlon ha l0 lh
    obtain ⟨g1, k0, k1, ks⟩ := two_new w #[.int .i64 5, .int .i64 s, .int .i64 bs.length, .int .i64 h, .int .i64 t, .slice A ps.length c] 24 #[.int .u64 0, .slice B bs.length d, .slice A' 0 c'] 29
    have G1 := Lib.hid g1
    obtain ⟨b0, b1, b2, b3, b4, b5⟩ := k0.six
    obtain ⟨c0, c1, c2⟩ := k1.three
    clear g1 k0 k1 ks
    go_enter Try.func23, Try.ntmps23
    go_wp2_with fail
    go_ret2
    exact ⟨rfl, G1.out⟩

set_option maxRecDepth 100000 in
set_option maxHeartbeats 2000000 in
theorem rfit_row (w : World) (s l h t : Int) (A : Option Addr) (c : Nat) (B : Option Addr) (d : Nat) (A' : Option Addr) (c' : Nat) (ls : List Va) (ps : List Fo) (hl : ls.length = ps.length) (ih : ∀ p ∈ ps, ∀ v, (fit p v).2 = 0 → FitC p v) (hin : Fo.In w (.mk 3 s l h t A c ps)) (hv : Va.In w (.mk 0 B d [] A' c' ls)) (h0 : (tot 0 (pair (fits ps) ls)).2 = 0) :
    Calls Try.prog 23 #[.agg #[.int .i64 3, .int .i64 s, .int .i64 l, .int .i64 h, .int .i64 t, .slice A ps.length c], .agg #[.int .u64 0, .slice B 0 d, .slice A' ls.length c']] w fun e w' => e = .returned (.tuple #[.int .i64 ((tot 0 (pair (fits ps) ls)).1), .int .i64 0]) ∧ Grew w w' none := by
  obtain ⟨g1, k0, k1, ks⟩ := two_new w #[.int .i64 3, .int .i64 s, .int .i64 l, .int .i64 h, .int .i64 t, .slice A ps.length c] 24 #[.int .u64 0, .slice B 0 d, .slice A' ls.length c'] 29
  have hlz : ls.length ≤ 2513169434916 := hv.list.2.2
  have HL := Lib.hid (show Va.Lie w A' ls from hv.list.1)
  have HVP := Lib.hid (show ∀ u ∈ ls, u.In w from hv.parts)
  have HIN := Lib.hid hin
  have HIH := Lib.hid ih
  have HR := Lib.hid (show Grew w ((w.alloc (.cells #[.int .i64 3, .int .i64 s, .int .i64 l, .int .i64 h, .int .i64 t, .slice A ps.length c] 24)).alloc (.cells #[.int .u64 0, .slice B 0 d, .slice A' ls.length c'] 29)) none ∧ Whole ((w.alloc (.cells #[.int .i64 3, .int .i64 s, .int .i64 l, .int .i64 h, .int .i64 t, .slice A ps.length c] 24)).alloc (.cells #[.int .u64 0, .slice B 0 d, .slice A' ls.length c'] 29)) w.heap.size #[.int .i64 3, .int .i64 s, .int .i64 l, .int .i64 h, .int .i64 t, .slice A ps.length c] 24 ∧ Whole ((w.alloc (.cells #[.int .i64 3, .int .i64 s, .int .i64 l, .int .i64 h, .int .i64 t, .slice A ps.length c] 24)).alloc (.cells #[.int .u64 0, .slice B 0 d, .slice A' ls.length c'] 29)) (w.heap.size + 1) #[.int .u64 0, .slice B 0 d, .slice A' ls.length c'] 29 ∧ tot 0 ((pair (fits ps) ls).drop 0) = tot 0 (pair (fits ps) ls) from ⟨g1, k0, k1, rfl⟩)
  generalize hT : tot 0 (pair (fits ps) ls) = T at *
  have H0 := Lib.hid h0
  have hle : (ls.length : Int) = (ps.length : Int) := by omega
  have hrs : ∀ j p v, ps[j]? = some p → ls[j]? = some v → (pair (fits ps) ls)[j]? = some (fit p v) := fun j p v => pair_at
  have hrl : (pair (fits ps) ls).length = ls.length := by rw [pair_length hl, hl]
  generalize pair (fits ps) ls = rs at *
  have HRS := Lib.hid hrs
  have HRL := Lib.hid hrl
  clear g1 k0 k1 ks hin hv ih h0 hT hrs hrl
  have HLL := Lib.hid hl
  have hbf : ((ls.length : Int) != (ps.length : Int)) = false := by simpa using hle
  clear hl hle
  go_enter Try.func23, Try.ntmps23
  go_upto_region 26 with (fail)
  generalize (w.alloc (.cells #[.int .i64 3, .int .i64 s, .int .i64 l, .int .i64 h, .int .i64 t, .slice A ps.length c] 24)).alloc (.cells #[.int .u64 0, .slice B 0 d, .slice A' ls.length c'] 29) = W0 at *
  generalize w.heap.size = qf at *
  go_loopw [9, 8] (fun i y wr => ∃ (n : Nat) (x : Int), n ≤ ls.length ∧ i = .int .i64 n ∧ y = .int .i64 x ∧ Hid (Grew w wr none ∧ Whole wr qf #[.int .i64 3, .int .i64 s, .int .i64 l, .int .i64 h, .int .i64 t, .slice A ps.length c] 24 ∧ Whole wr (qf + 1) #[.int .u64 0, .slice B 0 d, .slice A' ls.length c'] 29 ∧ tot x (rs.drop n) = T)) (fun i _ _ => ls.length - (intOf i).toNat)
  case atStart => exact ⟨0, 0, Nat.zero_le _, rfl, rfl, HR⟩
  case round =>
    obtain ⟨n, x, hn, rfl, rfl, R⟩ := hrel
    obtain ⟨b0, b1, b2, b3, b4, b5⟩ := R.out.2.1.six
    obtain ⟨m0, m1, m2⟩ := R.out.2.2.1.three
    by_cases hlt : n < ls.length
    · go_upto_region 31 with (fail)
      obtain ⟨bv, ov, v, hA', hv, hvm, c0, c1, c2⟩ := (HL.out.grew R.out.1).at hlt
      obtain ⟨bf, of, p, hA, hp, hpm, hpi, d0, d1, d2, d3, d4, d5⟩ := (HIN.out.grew R.out.1).at (i := n) (by have := HLL.out; omega)
      subst hA hA'
      have hr := HRS.out n p v hp hv
      have hT := R.out.2.2.2
      rw [Va.dropL hr] at hT
      have h2 : (tot x (fit p v :: rs.drop (n + 1))).2 = 0 := by rw [hT]; exact H0.out
      obtain ⟨z2, z3⟩ := tot_zero h2
      rw [z3] at hT
      have hcv := HIH.out p hpm v z2
      unfold FitC at hcv
      have hvin := HVP.out v hvm
      generalize fit p v = F at *
      obtain ⟨r1, r2⟩ := F
      have HCV : Hid (∀ y, Calls Try.prog 23 #[.agg #[.int .i64 p.k, .int .i64 p.s, .int .i64 p.l, .int .i64 p.h, .int .i64 p.t, .slice p.A p.ps.length p.c], .agg #[.int .u64 v.n, .slice v.B v.bs.length v.d, .slice v.A v.ls.length v.c]] (World.pad wr y) fun e w'' => e = .returned (.tuple #[.int .i64 r1, .int .i64 0]) ∧ Grew (World.pad wr y) w'' none) := Lib.hid (fun y => hcv _ (hpi.grew (grew_pad _ _)) (hvin.grew (grew_trans R.out.1 (grew_pad _ _))))
      have HT := Lib.hid hT
      have HW := Lib.hid (show Grew w wr none ∧ Whole wr qf _ _ ∧ Whole wr (qf + 1) _ _ from ⟨R.out.1, R.out.2.1, R.out.2.2.1⟩)
      have f5 := fun y => pad_cell b5 y
      have w2 := fun y => pad_cell m2 y
      have e0 := fun y => pad_cell d0 y
      have e1 := fun y => pad_cell d1 y
      have e2 := fun y => pad_cell d2 y
      have e3 := fun y => pad_cell d3 y
      have e4 := fun y => pad_cell d4 y
      have e5 := fun y => pad_cell d5 y
      have u0 := fun y => pad_cell c0 y
      have u1 := fun y => pad_cell c1 y
      have u2 := fun y => pad_cell c2 y
      have hnp : n < ps.length := by have := HLL.out; omega
      clear hr hT h2 z2 z3 hcv hvin hpm hpi hvm hp hv R d0 d1 d2 d3 d4 d5 c0 c1 c2 b0 b1 b2 b3 b4 b5 m0 m1 m2
      refine wp_region_pad (by kernel_rfl) (by kernel_rfl) ?_
      repeat (go_big_quiet_step ((go_at_call 23; exact pad_call (HCV.out _))))
      refine wpQuiet_nil ?_
      rintro _ ⟨xq, rfl⟩
      clear f5 w2 e0 e1 e2 e3 e4 e5 u0 u1 u2
      have HR2 := Lib.hid (show Grew w (World.pad wr xq) none ∧ Whole (World.pad wr xq) qf #[.int .i64 3, .int .i64 s, .int .i64 l, .int .i64 h, .int .i64 t, .slice (some ⟨bf, of, none⟩) ps.length c] 24 ∧ Whole (World.pad wr xq) (qf + 1) #[.int .u64 0, .slice B 0 d, .slice (some ⟨bv, ov, none⟩) ls.length c'] 29 ∧ tot (Fo.plus x r1) (rs.drop (n + 1)) = T from ⟨grew_trans HW.out.1 (grew_pad _ _), HW.out.2.1.grew (grew_pad _ _) (by simp), HW.out.2.2.grew (grew_pad _ _) (by simp), HT.out⟩)
      go_wp2_with fail
      go_roundw
      case rel => exact ⟨n + 1, Fo.plus x r1, by omega, by go_num, rfl, HR2⟩
      case measure => simp [intOf]; omega
    · have hTx : T = (x, 0) := by
        have h3 := R.out.2.2.2
        rw [List.drop_eq_nil_of_le (by have := HRL.out; omega), tot] at h3
        exact h3.symm
      have HTX := Lib.hid hTx
      have HG := Lib.hid R.out.1
      clear R hTx
      go_wp2_with fail
      go_ret2
      exact ⟨by rw [HTX.out]; rfl, HG.out⟩

set_option maxRecDepth 100000 in
set_option maxHeartbeats 2000000 in
theorem rfit_list (w : World) (s l h t : Int) (A : Option Addr) (c : Nat) (B : Option Addr) (d : Nat) (A' : Option Addr) (c' : Nat) (ls : List Va) (p : Fo) (ih : ∀ v, (fit p v).2 = 0 → FitC p v) (q1 : l ≤ (tot 0 (ls.map (fit p))).1) (q2 : (tot 0 (ls.map (fit p))).1 ≤ h) (q3 : (tot 0 (ls.map (fit p))).1 % t = 0) (l0 : 0 ≤ l) (hh : h ≤ 16777215) (t1 : 1 ≤ t) (s1 : 1 ≤ s) (s3 : s ≤ 3) (hin : Fo.In w (.mk 2 s l h t A c [p])) (hv : Va.In w (.mk 0 B d [] A' c' ls)) (h0 : (tot 0 (ls.map (fit p))).2 = 0) :
    Calls Try.prog 23 #[.agg #[.int .i64 2, .int .i64 s, .int .i64 l, .int .i64 h, .int .i64 t, .slice A 1 c], .agg #[.int .u64 0, .slice B 0 d, .slice A' ls.length c']] w fun e w' => e = .returned (.tuple #[.int .i64 (s + (tot 0 (ls.map (fit p))).1), .int .i64 0]) ∧ Grew w w' none := by
  obtain ⟨g1, k0, k1, ks⟩ := two_new w #[.int .i64 2, .int .i64 s, .int .i64 l, .int .i64 h, .int .i64 t, .slice A 1 c] 24 #[.int .u64 0, .slice B 0 d, .slice A' ls.length c'] 29
  have hlz : ls.length ≤ 2513169434916 := hv.list.2.2
  have HL := Lib.hid (show Va.Lie w A' ls from hv.list.1)
  have HVP := Lib.hid (show ∀ u ∈ ls, u.In w from hv.parts)
  have HIN := Lib.hid hin
  have HIH := Lib.hid ih
  have HR := Lib.hid (show Grew w ((w.alloc (.cells #[.int .i64 2, .int .i64 s, .int .i64 l, .int .i64 h, .int .i64 t, .slice A 1 c] 24)).alloc (.cells #[.int .u64 0, .slice B 0 d, .slice A' ls.length c'] 29)) none ∧ Whole ((w.alloc (.cells #[.int .i64 2, .int .i64 s, .int .i64 l, .int .i64 h, .int .i64 t, .slice A 1 c] 24)).alloc (.cells #[.int .u64 0, .slice B 0 d, .slice A' ls.length c'] 29)) w.heap.size #[.int .i64 2, .int .i64 s, .int .i64 l, .int .i64 h, .int .i64 t, .slice A 1 c] 24 ∧ Whole ((w.alloc (.cells #[.int .i64 2, .int .i64 s, .int .i64 l, .int .i64 h, .int .i64 t, .slice A 1 c] 24)).alloc (.cells #[.int .u64 0, .slice B 0 d, .slice A' ls.length c'] 29)) (w.heap.size + 1) #[.int .u64 0, .slice B 0 d, .slice A' ls.length c'] 29 ∧ tot 0 ((ls.map (fit p)).drop 0) = tot 0 (ls.map (fit p)) from ⟨g1, k0, k1, rfl⟩)
  generalize hT : tot 0 (ls.map (fit p)) = T at *
  have H0 := Lib.hid h0
  have hrs : ∀ j v, ls[j]? = some v → (ls.map (fit p))[j]? = some (fit p v) := fun j v hj => by rw [List.getElem?_map, hj]; rfl
  have hrl : (ls.map (fit p)).length = ls.length := List.length_map _
  have Q1 := Lib.hid q1
  have Q2 := Lib.hid q2
  have Q3 := Lib.hid q3
  clear q1 q2 q3
  generalize ls.map (fit p) = rs at *
  have HRS := Lib.hid hrs
  have HRL := Lib.hid hrl
  clear g1 k0 k1 ks hin hv ih h0 hT hrs hrl
  go_enter Try.func23, Try.ntmps23
  go_upto_region 26 with (fail)
  generalize (w.alloc (.cells #[.int .i64 2, .int .i64 s, .int .i64 l, .int .i64 h, .int .i64 t, .slice A 1 c] 24)).alloc (.cells #[.int .u64 0, .slice B 0 d, .slice A' ls.length c'] 29) = W0 at *
  generalize w.heap.size = qf at *
  go_loopw [9, 8] (fun i y wr => ∃ (n : Nat) (x : Int), n ≤ ls.length ∧ i = .int .i64 n ∧ y = .int .i64 x ∧ Hid (Grew w wr none ∧ Whole wr qf #[.int .i64 2, .int .i64 s, .int .i64 l, .int .i64 h, .int .i64 t, .slice A 1 c] 24 ∧ Whole wr (qf + 1) #[.int .u64 0, .slice B 0 d, .slice A' ls.length c'] 29 ∧ tot x (rs.drop n) = T)) (fun i _ _ => ls.length - (intOf i).toNat)
  case atStart => exact ⟨0, 0, Nat.zero_le _, rfl, rfl, HR⟩
  case round =>
    obtain ⟨n, x, hn, rfl, rfl, R⟩ := hrel
    obtain ⟨b0, b1, b2, b3, b4, b5⟩ := R.out.2.1.six
    obtain ⟨m0, m1, m2⟩ := R.out.2.2.1.three
    by_cases hlt : n < ls.length
    · go_upto_region 31 with (fail)
      obtain ⟨bv, ov, v, hA', hv, hvm, c0, c1, c2⟩ := (HL.out.grew R.out.1).at hlt
      obtain ⟨bf, of, p', hA, hp, hpm, hpi, d0, d1, d2, d3, d4, d5⟩ := (HIN.out.grew R.out.1).at (i := 0) (by simp)
      cases hp
      simp only [Nat.zero_mul, Nat.add_zero] at d0 d1 d2 d3 d4 d5
      subst hA hA'
      have hr := HRS.out n v hv
      have hT := R.out.2.2.2
      rw [Va.dropL hr] at hT
      have h2 : (tot x (fit p v :: rs.drop (n + 1))).2 = 0 := by rw [hT]; exact H0.out
      obtain ⟨z2, z3⟩ := tot_zero h2
      rw [z3] at hT
      have hcv := HIH.out v z2
      unfold FitC at hcv
      have hvin := HVP.out v hvm
      generalize fit p v = F at *
      obtain ⟨r1, r2⟩ := F
      have HCV : Hid (∀ y, Calls Try.prog 23 #[.agg #[.int .i64 p.k, .int .i64 p.s, .int .i64 p.l, .int .i64 p.h, .int .i64 p.t, .slice p.A p.ps.length p.c], .agg #[.int .u64 v.n, .slice v.B v.bs.length v.d, .slice v.A v.ls.length v.c]] (World.pad wr y) fun e w'' => e = .returned (.tuple #[.int .i64 r1, .int .i64 0]) ∧ Grew (World.pad wr y) w'' none) := Lib.hid (fun y => hcv _ (hpi.grew (grew_pad _ _)) (hvin.grew (grew_trans R.out.1 (grew_pad _ _))))
      have HT := Lib.hid hT
      have HW := Lib.hid (show Grew w wr none ∧ Whole wr qf _ _ ∧ Whole wr (qf + 1) _ _ from ⟨R.out.1, R.out.2.1, R.out.2.2.1⟩)
      have f5 := fun y => pad_cell b5 y
      have w2 := fun y => pad_cell m2 y
      have e0 := fun y => pad_cell d0 y
      have e1 := fun y => pad_cell d1 y
      have e2 := fun y => pad_cell d2 y
      have e3 := fun y => pad_cell d3 y
      have e4 := fun y => pad_cell d4 y
      have e5 := fun y => pad_cell d5 y
      have u0 := fun y => pad_cell c0 y
      have u1 := fun y => pad_cell c1 y
      have u2 := fun y => pad_cell c2 y
      clear hr hT h2 z2 z3 hcv hvin hpm hpi hvm hv R d0 d1 d2 d3 d4 d5 c0 c1 c2 b0 b1 b2 b3 b4 b5 m0 m1 m2
      refine wp_region_pad (by kernel_rfl) (by kernel_rfl) ?_
      repeat (go_big_quiet_step ((go_at_call 23; exact pad_call (HCV.out _))))
      refine wpQuiet_nil ?_
      rintro _ ⟨xq, rfl⟩
      clear f5 w2 e0 e1 e2 e3 e4 e5 u0 u1 u2
      have HR2 := Lib.hid (show Grew w (World.pad wr xq) none ∧ Whole (World.pad wr xq) qf #[.int .i64 2, .int .i64 s, .int .i64 l, .int .i64 h, .int .i64 t, .slice (some ⟨bf, of, none⟩) 1 c] 24 ∧ Whole (World.pad wr xq) (qf + 1) #[.int .u64 0, .slice B 0 d, .slice (some ⟨bv, ov, none⟩) ls.length c'] 29 ∧ tot (Fo.plus x r1) (rs.drop (n + 1)) = T from ⟨grew_trans HW.out.1 (grew_pad _ _), HW.out.2.1.grew (grew_pad _ _) (by simp), HW.out.2.2.grew (grew_pad _ _) (by simp), HT.out⟩)
      go_wp2_with fail
      go_roundw
      case rel => exact ⟨n + 1, Fo.plus x r1, by omega, by go_num, rfl, HR2⟩
      case measure => simp [intOf]; omega
    · have hTx : T = (x, 0) := by
        have h3 := R.out.2.2.2
        rw [List.drop_eq_nil_of_le (by have := HRL.out; omega), tot] at h3
        exact h3.symm
      have HTX := Lib.hid hTx
      have HG := Lib.hid R.out.1
      clear R hTx
      have hx1 : l ≤ x := by have := Q1.out; rw [HTX.out] at this; exact this
      have hx2 : x ≤ h := by have := Q2.out; rw [HTX.out] at this; exact this
      have hx3 : x % t = 0 := by have := Q3.out; rw [HTX.out] at this; exact this
      have CB := Lib.hid (fun W => between_yes W x l h t hx1 hx2 hx3 (by omega) t1)
      clear hx3
      go_wp2_with fail
      refine (CB.out wr).mono ?_
      rintro e w1 ⟨rfl, rfl⟩
      go_wp2_with fail
      go_ret2
      exact ⟨by rw [HTX.out]; rfl, HG.out⟩

set_option maxRecDepth 100000 in
/-- The document's fit, of what fits a right form. -/
theorem rfit_ok (f : Fo) : f.wrg = 0 → ∀ v, (fit f v).2 = 0 → FitC f v := by
  induction f using Fo.ind with
  | H k s l h t A c ps ih =>
  intro hw v h0 w hin hv
  obtain ⟨ha, hq, hmis⟩ := wrg_zero hw
  by_cases hleaf : k = 0 ∨ k = 1 ∨ k = 4 ∨ k = 5
  · exact rfit_leaf w k s l h t A c ps v hv ha hleaf h0
  · have hk : k = 2 ∨ k = 3 := by have := alone_kind ha; omega
    have hlon : lonB v (own k) = true := by
      rw [fit] at h0
      cases hb : lonB v (own k) with
      | true => rfl
      | false => rw [hb, if_pos rfl] at h0; simp at h0
    have hown : own k = 2 := by unfold own; rw [if_neg (by omega), if_pos hk]
    rw [hown] at hlon
    cases v with
    | mk n B d bs A' c' ls =>
    obtain ⟨e1, e2⟩ := lon2 hlon
    change n = 0 at e1
    change bs = [] at e2
    subst e1 e2
    rcases hk with rfl | rfl
    · obtain ⟨s1, s3, l0, lh, hh, t1, t2, hn1⟩ := Rd.alone_1 (.inr rfl) ha
      obtain ⟨p, rfl⟩ := List.length_eq_one_iff.1 (hn1 rfl)
      have hinn : Fo.inn (.mk 2 s l h t A c [p]) = [p] := by rw [Fo.inn, if_pos (by omega)]
      rw [hinn] at hq
      have hf : fit (.mk 2 s l h t A c [p]) (.mk 0 B d [] A' c' ls) = behind s l h t (tot 0 (ls.map (fit p))) := by
        rw [fit, hown, hlon, if_neg (by simp), if_neg (by omega), if_pos rfl]
        rfl
      rw [hf] at h0 ⊢
      unfold behind at h0 ⊢
      have hz : (tot 0 (ls.map (fit p))).2 = 0 := by
        by_cases hz : (tot 0 (ls.map (fit p))).2 = 0
        · exact hz
        · rw [if_neg hz] at h0; exact absurd h0 hz
      rw [if_pos hz] at h0 ⊢
      have hwl : l ≤ (tot 0 (ls.map (fit p))).1 ∧ (tot 0 (ls.map (fit p))).1 ≤ h ∧ (tot 0 (ls.map (fit p))).1 % t = 0 := by
        unfold wl at h0
        split at h0
        · assumption
        · simp at h0
      rw [wl, if_pos hwl, Rd.plus_nat (by omega) (by omega) (by omega)]
      exact rfit_list w s l h t A c B d A' c' ls p (fun v hz => ih p (by simp) (hq p (by simp)) v hz) hwl.1 hwl.2.1 hwl.2.2 l0 hh t1 s1 s3 hin hv hz
    · have hinn : Fo.inn (.mk 3 s l h t A c ps) = ps := by rw [Fo.inn, if_pos (by omega)]
      rw [hinn] at hq
      have hf : fit (.mk 3 s l h t A c ps) (.mk 0 B d [] A' c' ls) = if ls.length = ps.length then tot 0 (pair (fits ps) ls) else (0, 15) := by
        rw [fit, hown, hlon, if_neg (by simp), if_neg (by omega), if_neg (by omega), if_pos rfl]
        rfl
      rw [hf] at h0 ⊢
      have hl : ls.length = ps.length := by
        by_cases hl : ls.length = ps.length
        · exact hl
        · rw [if_neg hl] at h0; simp at h0
      rw [if_pos hl] at h0 ⊢
      exact rfit_row w s l h t A c B d A' c' ls ps hl (fun p hp v hz => ih p hp (hq p hp) v hz) hin hv h0

set_option maxRecDepth 100000 in
/-- The document's Fits, of what fits. -/
theorem rfits_ok (w : World) (f : Fo) (hf : f.In w) (v : Va) (hv : v.In w) (hc : f.chk = 0) (n : Int) (h0 : fit f v = (n, 0)) :
    Calls Try.prog 11 #[f.val, v.val] w fun e w' => e = .returned (.tuple #[.int .i64 n, .int .i64 0]) ∧ Grew w w' none := by
  obtain ⟨hd, hw⟩ := chk_zero hc
  have CC := Lib.hid (fun w' (g : Grew w w' none) => rchk_any w' f (hf.grew g))
  have CF := Lib.hid (fun w' (g : Grew w w' none) => rfit_ok f hw v (by rw [h0]) w' (hf.grew g) (hv.grew g))
  rw [h0, hc] at *
  clear hf hv hd hw hc h0
  rw [val_eq, vval_eq] at *
  obtain ⟨g1, k0, k1, ks⟩ := two_new w #[.int .i64 f.k, .int .i64 f.s, .int .i64 f.l, .int .i64 f.h, .int .i64 f.t, .slice f.A f.ps.length f.c] 24 #[.int .u64 v.n, .slice v.B v.bs.length v.d, .slice v.A v.ls.length v.c] 29
  have G1 := Lib.hid g1
  have K0 := Lib.hid k0
  have K1 := Lib.hid k1
  clear g1 k0 k1 ks
  go_enter Try.func11, Try.ntmps11
  go_wp2_with fail
  generalize (w.alloc (.cells #[.int .i64 f.k, .int .i64 f.s, .int .i64 f.l, .int .i64 f.h, .int .i64 f.t, .slice f.A f.ps.length f.c] 24)).alloc (.cells #[.int .u64 v.n, .slice v.B v.bs.length v.d, .slice v.A v.ls.length v.c] 29) = W at *
  refine (CC.out W G1.out).mono ?_
  rintro e w1 ⟨rfl, g2⟩
  obtain ⟨b0, b1, b2, b3, b4, b5⟩ := (K0.out.grew g2 (by simp)).six
  obtain ⟨c0, c1, c2⟩ := (K1.out.grew g2 (by simp)).three
  have G2 := Lib.hid (grew_trans G1.out g2)
  clear g2 CC
  go_wp2_with fail
  refine (CF.out w1 G2.out).mono ?_
  rintro e w2 ⟨rfl, g3⟩
  have G3 := Lib.hid (grew_trans G2.out g3)
  clear g3
  go_wp2_with fail
  go_ret2
  exact ⟨rfl, G3.out⟩
end Go.Proofs.Ytibbeodcheefaaa

