/- Sizes of values: bytes, lists, rows, and all. -/
import Derived.Test.YtmdmfinpcbedcaaVs
import Derived.Test.YtmdmfinpcbedcaaPad
import Derived.Test.YtmdmfinpcbedcaaRp
namespace Go.Proofs.Ytmdmfinpcbedcaa
open Go.RowKit Va

theorem right12 {k s l h t : Int} {n : Nat} (hk : k = 1 ∨ k = 2) (h0 : Fo.alone k s l h t n = 0) : (1 ≤ s ∧ s ≤ 3) ∧ 0 ≤ l ∧ l ≤ h ∧ h ≤ 16777215 ∧ 1 ≤ t ∧ t ≤ 65536 ∧ (k = 2 → n = 1) := by
  unfold Fo.alone at h0
  rw [if_neg (by omega), if_neg (by omega), if_neg (by omega), if_pos hk] at h0
  by_cases hs : 1 ≤ s ∧ s ≤ 3
  · rw [if_pos hs] at h0
    by_cases hb : 0 ≤ l ∧ l ≤ h ∧ h ≤ 256 ^ s.toNat - 1 ∧ 1 ≤ t ∧ t ≤ 65536
    · rw [if_pos hb] at h0
      have hh : h ≤ 16777215 := by
        have key : s = 1 ∨ s = 2 ∨ s = 3 := by omega
        rcases key with rfl | rfl | rfl
        · have := hb.2.2.1; simp at this; omega
        · have := hb.2.2.1; simp at this; omega
        · have := hb.2.2.1; simp at this; omega
      refine ⟨hs, hb.1, hb.2.1, hh, hb.2.2.2.1, hb.2.2.2.2, fun h2 => ?_⟩
      by_cases hn : n = 1
      · exact hn
      · rw [if_pos ⟨h2, hn⟩] at h0; omega
    · rw [if_neg hb] at h0; omega
  · rw [if_neg hs] at h0; omega

theorem sizeBytes_any (w : World) (k s l h t : Int) (n : Nat) (A : Option Addr) (m c : Nat) (hk : k = 1 ∨ k = 4 ∨ k = 5) (h0 : Fo.alone k s l h t m = 0) (_hn : n ≤ 140737488355328) :
    Calls Try.prog 44 #[.agg #[.int .i64 k, .int .i64 s, .int .i64 l, .int .i64 h, .int .i64 t, .slice A m c], .int .i64 n] w fun e w' => e = .returned (two (fitB k s l h t n)) ∧ Grew w w' none := by
  rcases hk with rfl | rfl | rfl
  · obtain ⟨hs, hl, hlh, hh, ht, ht2, _⟩ := right12 (.inl rfl) h0
    have hE : fitB 1 s l h t n = wl s l h t n := rfl
    rw [hE]
    generalize hR : wl s l h t n = R at *
    have HC := Lib.hid (fun w' => hR ▸ sizeLength_any w' 1 s l h t n A m c ht hl hs hh)
    clear h0 hE hR hs hl hlh hh ht ht2
    go_enter Try.func44, Try.ntmps44
    go_wp2_with fail
    refine (HC.out _).mono ?_
    rintro e w1 ⟨rfl, g1⟩
    unfold two
    go_wp2_with fail
    go_ret2
    exact ⟨rfl, grew_trans (grew_alloc (grew_refl _ _) _) g1⟩
  · have hE : fitB 4 s l h t n = if l ≤ n ∧ (n : Int) ≤ h then ((n : Int), 0) else (0, 5) := rfl
    clear h0
    by_cases a : (n : Int) < l
    · rw [if_neg (by omega)] at hE
      rw [hE]
      clear hE
      go_enter Try.func44, Try.ntmps44
      go_wp2_with fail
      go_ret2
      exact ⟨rfl, grew_alloc (grew_refl _ _) _⟩
    · by_cases b : h < (n : Int)
      · rw [if_neg (by omega)] at hE
        rw [hE]
        clear hE
        go_enter Try.func44, Try.ntmps44
        go_wp2_with fail
        go_ret2
        exact ⟨rfl, grew_alloc (grew_refl _ _) _⟩
      · rw [if_pos (by omega)] at hE
        rw [hE]
        clear hE
        go_enter Try.func44, Try.ntmps44
        go_wp2_with fail
        go_ret2
        exact ⟨rfl, grew_alloc (grew_refl _ _) _⟩
  · have hE : fitB 5 s l h t n = if (n : Int) = l then ((n : Int), 0) else (0, 5) := rfl
    clear h0
    by_cases a : (n : Int) = l
    · rw [if_pos a] at hE
      rw [hE]
      subst a
      clear hE
      go_enter Try.func44, Try.ntmps44
      go_wp2_with fail
      go_ret2
      exact ⟨rfl, grew_alloc (grew_refl _ _) _⟩
    · rw [if_neg a] at hE
      rw [hE]
      have hb : ((n : Int) != l) = true := by simpa using a
      clear hE a
      go_enter Try.func44, Try.ntmps44
      go_wp2_with fail
      go_ret2
      exact ⟨rfl, grew_alloc (grew_refl _ _) _⟩

/-- What a size of a part is, in each world behind this one. -/
def Part (w : World) (q : Nat) (p : Fo) (v : Va) : Prop :=
  ∀ w', Grew w w' none → Calls Try.prog 37 #[.map (some q), p.val, v.val] w' fun e w'' => e = .returned (two (fit p v)) ∧ Grew w' w'' none

set_option maxHeartbeats 1000000 in
theorem sizeList_any (w : World) (q : Nat) (s l h t : Int) (A : Option Addr) (c : Nat) (p : Fo) (Av : Option Addr) (cv : Nat) (ls : List Va) (hp : Fo.Lie w A [p]) (hl : Va.Lie w Av ls) (hz : ls.length ≤ 2513169434916)
    (h0 : Fo.alone 2 s l h t 1 = 0) (hc : ∀ v ∈ ls, Part w q p v) :
    Calls Try.prog 45 #[.map (some q), .agg #[.int .i64 2, .int .i64 s, .int .i64 l, .int .i64 h, .int .i64 t, .slice A 1 c], .slice Av ls.length cv] w fun e w' => e = .returned (two (behind s l h t (tot 0 (ls.map (fit p))))) ∧ Grew w w' none := by
  obtain ⟨hs, hl0, hlh, hh, ht, ht2, _⟩ := right12 (.inr rfl) h0
  have HS := Lib.hid (fun w' n => sizeLength_any w' 2 s l h t n A 1 c ht hl0 hs hh)
  clear h0 hs hl0 hlh hh ht ht2
  have HP := Lib.hid hp
  have HL := Lib.hid hl
  have HC := Lib.hid hc
  clear hp hl hc
  have HR := Lib.hid (show Grew w (w.alloc (.cells #[.int .i64 2, .int .i64 s, .int .i64 l, .int .i64 h, .int .i64 t, .slice A 1 c] 31)) none ∧ Whole (w.alloc (.cells #[.int .i64 2, .int .i64 s, .int .i64 l, .int .i64 h, .int .i64 t, .slice A 1 c] 31)) w.heap.size #[.int .i64 2, .int .i64 s, .int .i64 l, .int .i64 h, .int .i64 t, .slice A 1 c] 31 ∧ tot 0 ((ls.drop 0).map (fit p)) = tot 0 (ls.map (fit p)) from ⟨grew_alloc (grew_refl _ _) _, Whole.new _ _ _, rfl⟩)
  generalize hT : tot 0 (ls.map (fit p)) = T at *
  clear hT
  go_enter Try.func45, Try.ntmps45
  go_wp2_with fail
  generalize w.alloc (.cells #[.int .i64 2, .int .i64 s, .int .i64 l, .int .i64 h, .int .i64 t, .slice A 1 c] 31) = W0 at *
  generalize w.heap.size = qf at *
  go_loopw [15, 8] (fun i d wr => ∃ (n : Nat) (x : Int), n ≤ ls.length ∧ i = .int .i64 n ∧ d = .int .i64 x ∧ Hid (Grew w wr none ∧ Whole wr qf #[.int .i64 2, .int .i64 s, .int .i64 l, .int .i64 h, .int .i64 t, .slice A 1 c] 31 ∧ tot x ((ls.drop n).map (fit p)) = T)) (fun i _ _ => ls.length - (intOf i).toNat)
  case atStart => exact ⟨0, 0, Nat.zero_le _, rfl, rfl, HR⟩
  case round =>
    obtain ⟨n, x, hn, rfl, rfl, R⟩ := hrel
    by_cases hlt : n < ls.length
    · obtain ⟨b, o, v, rfl, hv, hvm, c0, c1, c2⟩ := (HL.out.grew R.out.1).at hlt
      have HV := Lib.hid (show ls[n]? = some v ∧ v ∈ ls from ⟨hv, hvm⟩)
      clear hv hvm
      go_wp2_with fail
      clear c0 c1 c2
      have hwv := Whole.new wr #[.int .u64 v.n, .slice v.B v.bs.length v.d, .slice v.A v.ls.length v.c] 26
      have hgv := grew_alloc R.out.1 (.cells #[.int .u64 v.n, .slice v.B v.bs.length v.d, .slice v.A v.ls.length v.c] 26)
      have hwf := R.out.2.1.grew (grew_alloc (grew_refl wr none) (.cells #[.int .u64 v.n, .slice v.B v.bs.length v.d, .slice v.A v.ls.length v.c] 26)) (by simp)
      have hT := R.out.2.2
      clear R
      have ht0 : tot x ((ls.drop n).map (fit p)) = if (fit p v).2 = 0 then tot (Fo.plus x (fit p v).1) ((ls.drop (n + 1)).map (fit p)) else (0, (fit p v).2) := by
        rw [Va.drop_at HV.out.1, List.map_cons, tot]
      have hcv := HC.out v HV.out.2
      unfold Part at hcv
      generalize fit p v = F at *
      obtain ⟨r1, r2⟩ := F
      have hpl := (HP.out.grew hgv).at (i := 0) (by simp)
      generalize wr.alloc (.cells #[.int .u64 v.n, .slice v.B v.bs.length v.d, .slice v.A v.ls.length v.c] 26) = W1 at *
      generalize wr.heap.size = qv at *
      obtain ⟨bf, of, p', hA, hp', _, d0, d1, d2, d3, d4, d5⟩ := hpl
      simp at hp'
      subst hp'
      subst hA
      simp only [Nat.zero_mul, Nat.add_zero] at d0 d1 d2 d3 d4 d5
      have HCV : Hid (∀ x, Calls Try.prog 37 #[.map (some q), .agg #[.int .i64 p.k, .int .i64 p.s, .int .i64 p.l, .int .i64 p.h, .int .i64 p.t, .slice p.A p.ps.length p.c], .agg #[.int .u64 v.n, .slice v.B v.bs.length v.d, .slice v.A v.ls.length v.c]] (World.pad W1 x) fun e w'' => e = .returned (.tuple #[.int .i64 r1, .int .i64 r2]) ∧ Grew (World.pad W1 x) w'' none) := Lib.hid (fun x => hcv _ (grew_trans hgv (grew_pad _ _)))
      have HW := Lib.hid (show Grew w W1 none ∧ Whole W1 qf _ _ from ⟨hgv, hwf⟩)
      have HT := Lib.hid (ht0.symm.trans hT)
      obtain ⟨v0, v1, v2⟩ := hwv.three
      have f5 : ∀ x, (World.pad W1 x).cell? ⟨qf, 5, none⟩ = some (.slice (some ⟨bf, of, none⟩) 1 c) := fun x => pad_cell (hwf.cell 5) x
      have e0 := fun x => pad_cell d0 x
      have e1 := fun x => pad_cell d1 x
      have e2 := fun x => pad_cell d2 x
      have e3 := fun x => pad_cell d3 x
      have e4 := fun x => pad_cell d4 x
      have e5 := fun x => pad_cell d5 x
      have u0 := fun x => pad_cell v0 x
      have u1 := fun x => pad_cell v1 x
      have u2 := fun x => pad_cell v2 x
      clear hwv hgv hwf hT ht0 hcv d0 d1 d2 d3 d4 d5 v0 v1 v2
      refine wp_region_pad (by kernel_rfl) (by kernel_rfl) ?_
      repeat (go_big_quiet_step ((go_at_call 37; exact pad_call (HCV.out _))))
      refine wpQuiet_nil ?_
      rintro _ ⟨xq, rfl⟩
      clear f5 e0 e1 e2 e3 e4 e5 u0 u1 u2
      by_cases hr : r2 = 0
      · subst hr
        have HR2 := Lib.hid (show Grew w (World.pad W1 xq) none ∧ Whole (World.pad W1 xq) qf #[.int .i64 2, .int .i64 s, .int .i64 l, .int .i64 h, .int .i64 t, .slice (some ⟨bf, of, none⟩) 1 c] 31 ∧ tot (Fo.plus x r1) ((ls.drop (n + 1)).map (fit p)) = T from ⟨grew_trans HW.out.1 (grew_pad _ _), HW.out.2.grew (grew_pad _ _) (by simp), by have := HT.out; simpa using this⟩)
        go_wp2_with fail
        go_roundw
        case rel => exact ⟨n + 1, Fo.plus x r1, by omega, by go_num, rfl, HR2⟩
        case measure => simp [intOf]; omega
      · have hb : (r2 != 0) = true := by simpa using hr
        have HE := Lib.hid (show behind s l h t T = (0, r2) by
          have := HT.out
          simp only [if_neg hr] at this
          rw [← this, behind, if_neg hr])
        have HG := Lib.hid (grew_trans HW.out.1 (grew_pad _ xq))
        clear hr
        go_wp2_with fail
        go_ret2
        exact ⟨by rw [HE.out]; rfl, HG.out⟩
    · have HE := Lib.hid (show behind s l h t T = wl s l h t x by
        have h3 := R.out.2.2
        have : n = ls.length := by omega
        rw [this, List.drop_length, List.map_nil, tot] at h3
        rw [← h3, behind, if_pos rfl])
      obtain ⟨c0, c1, c2, c3, c4, c5⟩ := R.out.2.1.six
      have HG := Lib.hid R.out.1
      clear R
      go_wp2_with fail
      refine (HS.out _ x).mono ?_
      rintro e w1 ⟨rfl, g1⟩
      generalize wl s l h t x = Y at *
      unfold two
      go_wp2_with fail
      go_ret2
      exact ⟨by rw [HE.out]; rfl, grew_trans HG.out g1⟩
end Go.Proofs.Ytmdmfinpcbedcaa

