/- Sizes of values: rows, and all; Fits, Size. -/
import Derived.Test.YtmdmfinpcbedcaaVt
namespace Go.Proofs.Ytmdmfinpcbedcaa
open Go.RowKit Va

theorem pair_step {ps : List Fo} {ls : List Va} {n : Nat} {p : Fo} {v : Va} (hp : ps[n]? = some p) (hv : ls[n]? = some v) (x : Int) :
    tot x ((pair (fits ps) ls).drop n) = if (fit p v).2 = 0 then tot (Fo.plus x (fit p v).1) ((pair (fits ps) ls).drop (n + 1)) else (0, (fit p v).2) := by
  rw [dropL (pair_at hp hv), tot]

set_option maxHeartbeats 1000000 in
theorem sizeRow_any (w : World) (q : Nat) (s l h t : Int) (A : Option Addr) (c : Nat) (ps : List Fo) (Av : Option Addr) (cv : Nat) (ls : List Va) (hp : Fo.Lie w A ps) (hl : Va.Lie w Av ls) (hz : ls.length ≤ 2513169434916) (_hzp : ps.length ≤ 2199023255552)
    (hc : ∀ (i : Nat) (p : Fo) (v : Va), ps[i]? = some p → ls[i]? = some v → Part w q p v) :
    Calls Try.prog 46 #[.map (some q), .agg #[.int .i64 3, .int .i64 s, .int .i64 l, .int .i64 h, .int .i64 t, .slice A ps.length c], .slice Av ls.length cv] w fun e w' => e = .returned (two (if ls.length = ps.length then tot 0 (pair (fits ps) ls) else (0, 15))) ∧ Grew w w' none := by
  by_cases hln : ls.length = ps.length
  · rw [if_pos hln]
    have HP := Lib.hid hp
    have HL := Lib.hid hl
    have HC := Lib.hid hc
    have hb : ((ls.length : Int) != (ps.length : Int)) = false := by simp; omega
    have HLN := Lib.hid hln
    clear hp hl hc hln
    have HR := Lib.hid (show Grew w (w.alloc (.cells #[.int .i64 3, .int .i64 s, .int .i64 l, .int .i64 h, .int .i64 t, .slice A ps.length c] 31)) none ∧ Whole (w.alloc (.cells #[.int .i64 3, .int .i64 s, .int .i64 l, .int .i64 h, .int .i64 t, .slice A ps.length c] 31)) w.heap.size #[.int .i64 3, .int .i64 s, .int .i64 l, .int .i64 h, .int .i64 t, .slice A ps.length c] 31 ∧ tot 0 ((pair (fits ps) ls).drop 0) = tot 0 (pair (fits ps) ls) from ⟨grew_alloc (grew_refl _ _) _, Whole.new _ _ _, rfl⟩)
    generalize hT : tot 0 (pair (fits ps) ls) = T at *
    clear hT
    go_enter Try.func46, Try.ntmps46
    go_wp2_with fail
    generalize w.alloc (.cells #[.int .i64 3, .int .i64 s, .int .i64 l, .int .i64 h, .int .i64 t, .slice A ps.length c] 31) = W0 at *
    generalize w.heap.size = qf at *
    go_loopw [21, 8] (fun i d wr => ∃ (n : Nat) (x : Int), n ≤ ls.length ∧ i = .int .i64 n ∧ d = .int .i64 x ∧ Hid (Grew w wr none ∧ Whole wr qf #[.int .i64 3, .int .i64 s, .int .i64 l, .int .i64 h, .int .i64 t, .slice A ps.length c] 31 ∧ tot x ((pair (fits ps) ls).drop n) = T)) (fun i _ _ => ls.length - (intOf i).toNat)
    case atStart => exact ⟨0, 0, Nat.zero_le _, rfl, rfl, HR⟩
    case round =>
      obtain ⟨n, x, hn, rfl, rfl, R⟩ := hrel
      by_cases hlt : n < ls.length
      · have hlp : n < ps.length := by have := HLN.out; omega
        obtain ⟨b, o, v, rfl, hv, hvm, c0, c1, c2⟩ := (HL.out.grew R.out.1).at hlt
        have HV := Lib.hid hv
        clear hv hvm
        go_wp2_with fail
        clear c0 c1 c2
        have hwv := Whole.new wr #[.int .u64 v.n, .slice v.B v.bs.length v.d, .slice v.A v.ls.length v.c] 26
        have hgv := grew_alloc R.out.1 (.cells #[.int .u64 v.n, .slice v.B v.bs.length v.d, .slice v.A v.ls.length v.c] 26)
        have hwf := R.out.2.1.grew (grew_alloc (grew_refl wr none) (.cells #[.int .u64 v.n, .slice v.B v.bs.length v.d, .slice v.A v.ls.length v.c] 26)) (by simp)
        have hT := R.out.2.2
        clear R
        have hpl := (HP.out.grew hgv).at hlp
        generalize wr.alloc (.cells #[.int .u64 v.n, .slice v.B v.bs.length v.d, .slice v.A v.ls.length v.c] 26) = W1 at *
        generalize wr.heap.size = qv at *
        obtain ⟨bf, of, p, hA, hpn, _, d0, d1, d2, d3, d4, d5⟩ := hpl
        subst hA
        have hcv := HC.out n p v hpn HV.out
        have ht0 := pair_step hpn HV.out x
        unfold Part at hcv
        generalize fit p v = F at *
        obtain ⟨r1, r2⟩ := F
        have HCV : Hid (∀ x, Calls Try.prog 37 #[.map (some q), .agg #[.int .i64 p.k, .int .i64 p.s, .int .i64 p.l, .int .i64 p.h, .int .i64 p.t, .slice p.A p.ps.length p.c], .agg #[.int .u64 v.n, .slice v.B v.bs.length v.d, .slice v.A v.ls.length v.c]] (World.pad W1 x) fun e w'' => e = .returned (.tuple #[.int .i64 r1, .int .i64 r2]) ∧ Grew (World.pad W1 x) w'' none) := Lib.hid (fun x => hcv _ (grew_trans hgv (grew_pad _ _)))
        have HW := Lib.hid (show Grew w W1 none ∧ Whole W1 qf _ _ from ⟨hgv, hwf⟩)
        have HT := Lib.hid (ht0.symm.trans hT)
        obtain ⟨v0, v1, v2⟩ := hwv.three
        have f5 : ∀ x, (World.pad W1 x).cell? ⟨qf, 5, none⟩ = some (.slice (some ⟨bf, of, none⟩) ps.length c) := fun x => pad_cell (hwf.cell 5) x
        have e0 := fun x => pad_cell d0 x
        have e1 := fun x => pad_cell d1 x
        have e2 := fun x => pad_cell d2 x
        have e3 := fun x => pad_cell d3 x
        have e4 := fun x => pad_cell d4 x
        have e5 := fun x => pad_cell d5 x
        have u0 := fun x => pad_cell v0 x
        have u1 := fun x => pad_cell v1 x
        have u2 := fun x => pad_cell v2 x
        have i0 : (0 : Int) ≤ (n : Int) := by omega
        have i1 : (n : Int) < (ps.length : Int) := by omega
        clear hwv hgv hwf hT ht0 hcv d0 d1 d2 d3 d4 d5 v0 v1 v2 hpn
        refine wp_region_pad (by kernel_rfl) (by kernel_rfl) ?_
        repeat (go_big_quiet_step ((go_at_call 37; exact pad_call (HCV.out _))))
        refine wpQuiet_nil ?_
        rintro _ ⟨xq, rfl⟩
        clear f5 e0 e1 e2 e3 e4 e5 u0 u1 u2
        by_cases hr : r2 = 0
        · subst hr
          have HR2 := Lib.hid (show Grew w (World.pad W1 xq) none ∧ Whole (World.pad W1 xq) qf #[.int .i64 3, .int .i64 s, .int .i64 l, .int .i64 h, .int .i64 t, .slice (some ⟨bf, of, none⟩) ps.length c] 31 ∧ tot (Fo.plus x r1) ((pair (fits ps) ls).drop (n + 1)) = T from ⟨grew_trans HW.out.1 (grew_pad _ _), HW.out.2.grew (grew_pad _ _) (by simp), by have := HT.out; simpa using this⟩)
          go_wp2_with fail
          go_roundw
          case rel => exact ⟨n + 1, Fo.plus x r1, by omega, by go_num, rfl, HR2⟩
          case measure => simp [intOf]; omega
        · have hb2 : (r2 != 0) = true := by simpa using hr
          have HE := Lib.hid (show T = (0, r2) by
            have := HT.out
            simp only [if_neg hr] at this
            exact this.symm)
          have HG := Lib.hid (grew_trans HW.out.1 (grew_pad _ xq))
          clear hr
          go_wp2_with fail
          go_ret2
          exact ⟨by rw [HE.out]; rfl, HG.out⟩
      · have HE := Lib.hid (show T = (x, 0) by
          have h3 := R.out.2.2
          have h4 : n = (pair (fits ps) ls).length := by rw [pair_length HLN.out]; have := HLN.out; omega
          rw [h4, List.drop_length, tot] at h3
          exact h3.symm)
        have HG := Lib.hid R.out.1
        clear R
        go_wp2_with fail
        go_ret2
        exact ⟨by rw [HE.out]; rfl, HG.out⟩
  · rw [if_neg hln]
    have hb : ((ls.length : Int) != (ps.length : Int)) = true := by simp; omega
    clear hp hl hc hln
    go_enter Try.func46, Try.ntmps46
    go_wp2_with fail
    go_ret2
    exact ⟨rfl, grew_alloc (grew_refl _ _) _⟩
set_option maxHeartbeats 1000000 in
theorem size_k0 (w : World) (q : Nat) (s l h t : Int) (A : Option Addr) (c : Nat) (ps : List Fo) (v : Va) (hf : Fo.In w (.mk 0 s l h t A c ps)) (hv : v.In w) (hk : Kinds w q) (h0 : Fo.alone 0 s l h t ps.length = 0) :
    Calls Try.prog 37 #[.map (some q), (Fo.mk 0 s l h t A c ps).val, v.val] w fun e w' => e = .returned (two (fit (.mk 0 s l h t A c ps) v)) ∧ Grew w w' none := by
  have hE : fit (.mk 0 s l h t A c ps) v = if lonB v 0 = false then (0, 15) else (if v.n < 256 ^ s.toNat then (s, 0) else (0, 3)) := by rw [fit]; rfl
  generalize fit (.mk 0 s l h t A c ps) v = E at *
  have HE := Lib.hid hE
  have HF := Lib.hid hf
  have HV := Lib.hid hv
  have H0 := Lib.hid h0
  have hlook := (hk.grew (grew_alloc (grew_alloc (grew_refl w none) (.cells #[.int .i64 0, .int .i64 s, .int .i64 l, .int .i64 h, .int .i64 t, .slice A ps.length c] 31)) (.cells #[.int .u64 v.n, .slice v.B v.bs.length v.d, .slice v.A v.ls.length v.c] 26))).look (k := 0) (by omega)
  change _ = Result.ok (Value.int .i64 0) _ at hlook
  clear hE hf hv h0 hk
  change Calls Try.prog 37 #[.map (some q), .agg #[.int .i64 0, .int .i64 s, .int .i64 l, .int .i64 h, .int .i64 t, .slice A ps.length c], .agg #[.int .u64 v.n, .slice v.B v.bs.length v.d, .slice v.A v.ls.length v.c]] w _
  go_enter Try.func37, Try.ntmps37
  go_wp2_with fail
  have hw2 := Whole.new (w.alloc (.cells #[.int .i64 0, .int .i64 s, .int .i64 l, .int .i64 h, .int .i64 t, .slice A ps.length c] 31)) #[.int .u64 v.n, .slice v.B v.bs.length v.d, .slice v.A v.ls.length v.c] 26
  have hw1 := (Whole.new w #[.int .i64 0, .int .i64 s, .int .i64 l, .int .i64 h, .int .i64 t, .slice A ps.length c] 31).grew (grew_alloc (grew_refl _ none) (.cells #[.int .u64 v.n, .slice v.B v.bs.length v.d, .slice v.A v.ls.length v.c] 26)) (by simp)
  have hg2 := grew_alloc (grew_alloc (grew_refl w none) (.cells #[.int .i64 0, .int .i64 s, .int .i64 l, .int .i64 h, .int .i64 t, .slice A ps.length c] 31)) (.cells #[.int .u64 v.n, .slice v.B v.bs.length v.d, .slice v.A v.ls.length v.c] 26)
  have hsz : (w.alloc (.cells #[.int .i64 0, .int .i64 s, .int .i64 l, .int .i64 h, .int .i64 t, .slice A ps.length c] 31)).heap.size = w.heap.size + 1 := by simp
  rw [hsz] at hw2
  clear hlook hsz
  generalize (w.alloc (.cells #[.int .i64 0, .int .i64 s, .int .i64 l, .int .i64 h, .int .i64 t, .slice A ps.length c] 31)).alloc (.cells #[.int .u64 v.n, .slice v.B v.bs.length v.d, .slice v.A v.ls.length v.c] 26) = W2 at *
  generalize w.heap.size + 1 = qv at *
  generalize w.heap.size = qf at *
  have HG := Lib.hid hg2
  have HW1 := Lib.hid hw1
  have HW2 := Lib.hid hw2
  clear hg2 hw1 hw2
  refine (valone_any W2 v 0 (by omega)).mono ?_
  rintro e w3 ⟨rfl, g3⟩
  obtain ⟨v0, v1, v2⟩ := (HW2.out.grew g3 (by simp)).three
  obtain ⟨c0, c1, c2, c3, c4, c5⟩ := (HW1.out.grew g3 (by simp)).six
  have HG3 := Lib.hid (grew_trans HG.out g3)
  clear HG HW1 HW2 g3
  cases hlo : lonB v 0 with
  | false =>
    have HE2 := Lib.hid (show E = (0, 15) by rw [HE.out, if_pos hlo])
    clear hlo v0 v1 v2 c0 c1 c2 c3 c4 c5
    go_wp2_with fail
    go_ret2
    exact ⟨by rw [HE2.out]; rfl, HG3.out⟩
  | true =>
    have HE2 := Lib.hid (show E = (if v.n < 256 ^ s.toNat then (s, 0) else (0, 3)) by rw [HE.out, if_neg (by rw [hlo]; simp)])
    clear hlo
    go_wp2_with fail
    have key : s = 1 ∨ s = 2 ∨ s = 3 ∨ s = 4 ∨ s = 8 := by
      have h0 := H0.out
      unfold Fo.alone at h0
      rw [if_pos rfl] at h0
      by_cases hs : s = 1 ∨ s = 2 ∨ s = 3 ∨ s = 4 ∨ s = 8
      · exact hs
      · rw [if_neg hs] at h0; omega
    refine (sizeNumber_any w3 0 s l h t v.n A ps.length c key HV.out.num.1 HV.out.num.2).mono ?_
    clear key
    rintro e w4 ⟨rfl, g4⟩
    rw [← HE2.out]
    have HG4 := Lib.hid (grew_trans HG3.out g4)
    clear g4 HG3 v0 v1 v2 c0 c1 c2 c3 c4 c5
    generalize hY : E = Y at *
    have HY := Lib.hid hY
    clear hY
    unfold two
    go_wp2_with fail
    go_ret2
    exact ⟨by rw [HY.out]; rfl, HG4.out⟩

set_option maxHeartbeats 1000000 in
theorem size_k1 (w : World) (q : Nat) (s l h t : Int) (A : Option Addr) (c : Nat) (ps : List Fo) (v : Va) (hf : Fo.In w (.mk 1 s l h t A c ps)) (hv : v.In w) (hk : Kinds w q) (h0 : Fo.alone 1 s l h t ps.length = 0) :
    Calls Try.prog 37 #[.map (some q), (Fo.mk 1 s l h t A c ps).val, v.val] w fun e w' => e = .returned (two (fit (.mk 1 s l h t A c ps) v)) ∧ Grew w w' none := by
  have hE : fit (.mk 1 s l h t A c ps) v = if lonB v 1 = false then (0, 15) else fitB 1 s l h t v.bs.length := by rw [fit]; rfl
  generalize fit (.mk 1 s l h t A c ps) v = E at *
  have HE := Lib.hid hE
  have HF := Lib.hid hf
  have HV := Lib.hid hv
  have H0 := Lib.hid h0
  have hlook := (hk.grew (grew_alloc (grew_alloc (grew_refl w none) (.cells #[.int .i64 1, .int .i64 s, .int .i64 l, .int .i64 h, .int .i64 t, .slice A ps.length c] 31)) (.cells #[.int .u64 v.n, .slice v.B v.bs.length v.d, .slice v.A v.ls.length v.c] 26))).look (k := 1) (by omega)
  change _ = Result.ok (Value.int .i64 1) _ at hlook
  clear hE hf hv h0 hk
  change Calls Try.prog 37 #[.map (some q), .agg #[.int .i64 1, .int .i64 s, .int .i64 l, .int .i64 h, .int .i64 t, .slice A ps.length c], .agg #[.int .u64 v.n, .slice v.B v.bs.length v.d, .slice v.A v.ls.length v.c]] w _
  go_enter Try.func37, Try.ntmps37
  go_wp2_with fail
  have hw2 := Whole.new (w.alloc (.cells #[.int .i64 1, .int .i64 s, .int .i64 l, .int .i64 h, .int .i64 t, .slice A ps.length c] 31)) #[.int .u64 v.n, .slice v.B v.bs.length v.d, .slice v.A v.ls.length v.c] 26
  have hw1 := (Whole.new w #[.int .i64 1, .int .i64 s, .int .i64 l, .int .i64 h, .int .i64 t, .slice A ps.length c] 31).grew (grew_alloc (grew_refl _ none) (.cells #[.int .u64 v.n, .slice v.B v.bs.length v.d, .slice v.A v.ls.length v.c] 26)) (by simp)
  have hg2 := grew_alloc (grew_alloc (grew_refl w none) (.cells #[.int .i64 1, .int .i64 s, .int .i64 l, .int .i64 h, .int .i64 t, .slice A ps.length c] 31)) (.cells #[.int .u64 v.n, .slice v.B v.bs.length v.d, .slice v.A v.ls.length v.c] 26)
  have hsz : (w.alloc (.cells #[.int .i64 1, .int .i64 s, .int .i64 l, .int .i64 h, .int .i64 t, .slice A ps.length c] 31)).heap.size = w.heap.size + 1 := by simp
  rw [hsz] at hw2
  clear hlook hsz
  generalize (w.alloc (.cells #[.int .i64 1, .int .i64 s, .int .i64 l, .int .i64 h, .int .i64 t, .slice A ps.length c] 31)).alloc (.cells #[.int .u64 v.n, .slice v.B v.bs.length v.d, .slice v.A v.ls.length v.c] 26) = W2 at *
  generalize w.heap.size + 1 = qv at *
  generalize w.heap.size = qf at *
  have HG := Lib.hid hg2
  have HW1 := Lib.hid hw1
  have HW2 := Lib.hid hw2
  clear hg2 hw1 hw2
  refine (valone_any W2 v 1 (by omega)).mono ?_
  rintro e w3 ⟨rfl, g3⟩
  obtain ⟨v0, v1, v2⟩ := (HW2.out.grew g3 (by simp)).three
  obtain ⟨c0, c1, c2, c3, c4, c5⟩ := (HW1.out.grew g3 (by simp)).six
  have HG3 := Lib.hid (grew_trans HG.out g3)
  clear HG HW1 HW2 g3
  cases hlo : lonB v 1 with
  | false =>
    have HE2 := Lib.hid (show E = (0, 15) by rw [HE.out, if_pos hlo])
    clear hlo v0 v1 v2 c0 c1 c2 c3 c4 c5
    go_wp2_with fail
    go_ret2
    exact ⟨by rw [HE2.out]; rfl, HG3.out⟩
  | true =>
    have HE2 := Lib.hid (show E = fitB 1 s l h t v.bs.length by rw [HE.out, if_neg (by rw [hlo]; simp)])
    clear hlo
    go_wp2_with fail
    refine (sizeBytes_any w3 1 s l h t v.bs.length A ps.length c (by omega) H0.out HV.out.bytes.2.2).mono ?_
    rintro e w4 ⟨rfl, g4⟩
    rw [← HE2.out]
    have HG4 := Lib.hid (grew_trans HG3.out g4)
    clear g4 HG3 v0 v1 v2 c0 c1 c2 c3 c4 c5
    generalize hY : E = Y at *
    have HY := Lib.hid hY
    clear hY
    unfold two
    go_wp2_with fail
    go_ret2
    exact ⟨by rw [HY.out]; rfl, HG4.out⟩

set_option maxHeartbeats 1000000 in
theorem size_k2 (w : World) (q : Nat) (s l h t : Int) (A : Option Addr) (c : Nat) (ps : List Fo) (v : Va) (hf : Fo.In w (.mk 2 s l h t A c ps)) (hv : v.In w) (hk : Kinds w q) (h0 : Fo.alone 2 s l h t ps.length = 0) (hc : ∀ p ∈ ps, ∀ u ∈ v.ls, Part w q p u) :
    Calls Try.prog 37 #[.map (some q), (Fo.mk 2 s l h t A c ps).val, v.val] w fun e w' => e = .returned (two (fit (.mk 2 s l h t A c ps) v)) ∧ Grew w w' none := by
  have hE : fit (.mk 2 s l h t A c ps) v = if lonB v 2 = false then (0, 15) else behind s l h t (tot 0 (each (fits ps) v.ls)) := by rw [fit]; rfl
  generalize fit (.mk 2 s l h t A c ps) v = E at *
  have HE := Lib.hid hE
  have HF := Lib.hid hf
  have HV := Lib.hid hv
  have H0 := Lib.hid h0
  have hlook := (hk.grew (grew_alloc (grew_alloc (grew_refl w none) (.cells #[.int .i64 2, .int .i64 s, .int .i64 l, .int .i64 h, .int .i64 t, .slice A ps.length c] 31)) (.cells #[.int .u64 v.n, .slice v.B v.bs.length v.d, .slice v.A v.ls.length v.c] 26))).look (k := 2) (by omega)
  change _ = Result.ok (Value.int .i64 2) _ at hlook
  have HC := Lib.hid hc
  clear hc
  clear hE hf hv h0 hk
  change Calls Try.prog 37 #[.map (some q), .agg #[.int .i64 2, .int .i64 s, .int .i64 l, .int .i64 h, .int .i64 t, .slice A ps.length c], .agg #[.int .u64 v.n, .slice v.B v.bs.length v.d, .slice v.A v.ls.length v.c]] w _
  go_enter Try.func37, Try.ntmps37
  go_wp2_with fail
  have hw2 := Whole.new (w.alloc (.cells #[.int .i64 2, .int .i64 s, .int .i64 l, .int .i64 h, .int .i64 t, .slice A ps.length c] 31)) #[.int .u64 v.n, .slice v.B v.bs.length v.d, .slice v.A v.ls.length v.c] 26
  have hw1 := (Whole.new w #[.int .i64 2, .int .i64 s, .int .i64 l, .int .i64 h, .int .i64 t, .slice A ps.length c] 31).grew (grew_alloc (grew_refl _ none) (.cells #[.int .u64 v.n, .slice v.B v.bs.length v.d, .slice v.A v.ls.length v.c] 26)) (by simp)
  have hg2 := grew_alloc (grew_alloc (grew_refl w none) (.cells #[.int .i64 2, .int .i64 s, .int .i64 l, .int .i64 h, .int .i64 t, .slice A ps.length c] 31)) (.cells #[.int .u64 v.n, .slice v.B v.bs.length v.d, .slice v.A v.ls.length v.c] 26)
  have hsz : (w.alloc (.cells #[.int .i64 2, .int .i64 s, .int .i64 l, .int .i64 h, .int .i64 t, .slice A ps.length c] 31)).heap.size = w.heap.size + 1 := by simp
  rw [hsz] at hw2
  clear hlook hsz
  generalize (w.alloc (.cells #[.int .i64 2, .int .i64 s, .int .i64 l, .int .i64 h, .int .i64 t, .slice A ps.length c] 31)).alloc (.cells #[.int .u64 v.n, .slice v.B v.bs.length v.d, .slice v.A v.ls.length v.c] 26) = W2 at *
  generalize w.heap.size + 1 = qv at *
  generalize w.heap.size = qf at *
  have HG := Lib.hid hg2
  have HW1 := Lib.hid hw1
  have HW2 := Lib.hid hw2
  clear hg2 hw1 hw2
  refine (valone_any W2 v 2 (by omega)).mono ?_
  rintro e w3 ⟨rfl, g3⟩
  obtain ⟨v0, v1, v2⟩ := (HW2.out.grew g3 (by simp)).three
  obtain ⟨c0, c1, c2, c3, c4, c5⟩ := (HW1.out.grew g3 (by simp)).six
  have HG3 := Lib.hid (grew_trans HG.out g3)
  clear HG HW1 HW2 g3
  cases hlo : lonB v 2 with
  | false =>
    have HE2 := Lib.hid (show E = (0, 15) by rw [HE.out, if_pos hlo])
    clear hlo v0 v1 v2 c0 c1 c2 c3 c4 c5
    go_wp2_with fail
    go_ret2
    exact ⟨by rw [HE2.out]; rfl, HG3.out⟩
  | true =>
    have HE2 := Lib.hid (show E = behind s l h t (tot 0 (each (fits ps) v.ls)) by rw [HE.out, if_neg (by rw [hlo]; simp)])
    clear hlo
    go_wp2_with fail
    have h1 : ps.length = 1 := (right12 (.inr rfl) H0.out).2.2.2.2.2.2 rfl
    have hp1 : ∃ p, ps = [p] := by
      match ps, h1 with
      | [p], _ => exact ⟨p, rfl⟩
    obtain ⟨p, rfl⟩ := hp1
    clear h1
    have hfl := HF.out
    cases hfl with
    | mk ha hz hlie hpp =>
    refine (sizeList_any w3 q s l h t A c p v.A v.c v.ls (hlie.grew HG3.out) (HV.out.list.1.grew HG3.out) HV.out.list.2.2 H0.out (fun u hu w' g' => HC.out p (by simp) u hu w' (grew_trans HG3.out g'))).mono ?_
    clear ha hz hlie hpp
    have HE2 : Hid (E = behind s l h t (tot 0 (v.ls.map (fit p)))) := HE2
    rintro e w4 ⟨rfl, g4⟩
    rw [← HE2.out]
    have HG4 := Lib.hid (grew_trans HG3.out g4)
    clear g4 HG3 v0 v1 v2 c0 c1 c2 c3 c4 c5
    generalize hY : E = Y at *
    have HY := Lib.hid hY
    clear hY
    unfold two
    go_wp2_with fail
    go_ret2
    exact ⟨by rw [HY.out]; rfl, HG4.out⟩

set_option maxHeartbeats 1000000 in
theorem size_k3 (w : World) (q : Nat) (s l h t : Int) (A : Option Addr) (c : Nat) (ps : List Fo) (v : Va) (hf : Fo.In w (.mk 3 s l h t A c ps)) (hv : v.In w) (hk : Kinds w q) (h0 : Fo.alone 3 s l h t ps.length = 0) (hc : ∀ p ∈ ps, ∀ u ∈ v.ls, Part w q p u) :
    Calls Try.prog 37 #[.map (some q), (Fo.mk 3 s l h t A c ps).val, v.val] w fun e w' => e = .returned (two (fit (.mk 3 s l h t A c ps) v)) ∧ Grew w w' none := by
  have hE : fit (.mk 3 s l h t A c ps) v = if lonB v 2 = false then (0, 15) else (if v.ls.length = ps.length then tot 0 (pair (fits ps) v.ls) else (0, 15)) := by rw [fit]; rfl
  generalize fit (.mk 3 s l h t A c ps) v = E at *
  have HE := Lib.hid hE
  have HF := Lib.hid hf
  have HV := Lib.hid hv
  have H0 := Lib.hid h0
  have hlook := (hk.grew (grew_alloc (grew_alloc (grew_refl w none) (.cells #[.int .i64 3, .int .i64 s, .int .i64 l, .int .i64 h, .int .i64 t, .slice A ps.length c] 31)) (.cells #[.int .u64 v.n, .slice v.B v.bs.length v.d, .slice v.A v.ls.length v.c] 26))).look (k := 3) (by omega)
  change _ = Result.ok (Value.int .i64 2) _ at hlook
  have HC := Lib.hid hc
  clear hc
  clear hE hf hv h0 hk
  change Calls Try.prog 37 #[.map (some q), .agg #[.int .i64 3, .int .i64 s, .int .i64 l, .int .i64 h, .int .i64 t, .slice A ps.length c], .agg #[.int .u64 v.n, .slice v.B v.bs.length v.d, .slice v.A v.ls.length v.c]] w _
  go_enter Try.func37, Try.ntmps37
  go_wp2_with fail
  have hw2 := Whole.new (w.alloc (.cells #[.int .i64 3, .int .i64 s, .int .i64 l, .int .i64 h, .int .i64 t, .slice A ps.length c] 31)) #[.int .u64 v.n, .slice v.B v.bs.length v.d, .slice v.A v.ls.length v.c] 26
  have hw1 := (Whole.new w #[.int .i64 3, .int .i64 s, .int .i64 l, .int .i64 h, .int .i64 t, .slice A ps.length c] 31).grew (grew_alloc (grew_refl _ none) (.cells #[.int .u64 v.n, .slice v.B v.bs.length v.d, .slice v.A v.ls.length v.c] 26)) (by simp)
  have hg2 := grew_alloc (grew_alloc (grew_refl w none) (.cells #[.int .i64 3, .int .i64 s, .int .i64 l, .int .i64 h, .int .i64 t, .slice A ps.length c] 31)) (.cells #[.int .u64 v.n, .slice v.B v.bs.length v.d, .slice v.A v.ls.length v.c] 26)
  have hsz : (w.alloc (.cells #[.int .i64 3, .int .i64 s, .int .i64 l, .int .i64 h, .int .i64 t, .slice A ps.length c] 31)).heap.size = w.heap.size + 1 := by simp
  rw [hsz] at hw2
  clear hlook hsz
  generalize (w.alloc (.cells #[.int .i64 3, .int .i64 s, .int .i64 l, .int .i64 h, .int .i64 t, .slice A ps.length c] 31)).alloc (.cells #[.int .u64 v.n, .slice v.B v.bs.length v.d, .slice v.A v.ls.length v.c] 26) = W2 at *
  generalize w.heap.size + 1 = qv at *
  generalize w.heap.size = qf at *
  have HG := Lib.hid hg2
  have HW1 := Lib.hid hw1
  have HW2 := Lib.hid hw2
  clear hg2 hw1 hw2
  refine (valone_any W2 v 2 (by omega)).mono ?_
  rintro e w3 ⟨rfl, g3⟩
  obtain ⟨v0, v1, v2⟩ := (HW2.out.grew g3 (by simp)).three
  obtain ⟨c0, c1, c2, c3, c4, c5⟩ := (HW1.out.grew g3 (by simp)).six
  have HG3 := Lib.hid (grew_trans HG.out g3)
  clear HG HW1 HW2 g3
  cases hlo : lonB v 2 with
  | false =>
    have HE2 := Lib.hid (show E = (0, 15) by rw [HE.out, if_pos hlo])
    clear hlo v0 v1 v2 c0 c1 c2 c3 c4 c5
    go_wp2_with fail
    go_ret2
    exact ⟨by rw [HE2.out]; rfl, HG3.out⟩
  | true =>
    have HE2 := Lib.hid (show E = (if v.ls.length = ps.length then tot 0 (pair (fits ps) v.ls) else (0, 15)) by rw [HE.out, if_neg (by rw [hlo]; simp)])
    clear hlo
    go_wp2_with fail
    have hfl := HF.out
    cases hfl with
    | mk ha hz hlie hpp =>
    refine (sizeRow_any w3 q s l h t A c ps v.A v.c v.ls (hlie.grew HG3.out) (HV.out.list.1.grew HG3.out) HV.out.list.2.2 hz (fun i p u hp hu w' g' => HC.out p (List.mem_of_getElem? hp) u (List.mem_of_getElem? hu) w' (grew_trans HG3.out g'))).mono ?_
    clear ha hz hlie hpp
    rintro e w4 ⟨rfl, g4⟩
    rw [← HE2.out]
    have HG4 := Lib.hid (grew_trans HG3.out g4)
    clear g4 HG3 v0 v1 v2 c0 c1 c2 c3 c4 c5
    generalize hY : E = Y at *
    have HY := Lib.hid hY
    clear hY
    unfold two
    go_wp2_with fail
    go_ret2
    exact ⟨by rw [HY.out]; rfl, HG4.out⟩

set_option maxHeartbeats 1000000 in
theorem size_k4 (w : World) (q : Nat) (s l h t : Int) (A : Option Addr) (c : Nat) (ps : List Fo) (v : Va) (hf : Fo.In w (.mk 4 s l h t A c ps)) (hv : v.In w) (hk : Kinds w q) (h0 : Fo.alone 4 s l h t ps.length = 0) :
    Calls Try.prog 37 #[.map (some q), (Fo.mk 4 s l h t A c ps).val, v.val] w fun e w' => e = .returned (two (fit (.mk 4 s l h t A c ps) v)) ∧ Grew w w' none := by
  have hE : fit (.mk 4 s l h t A c ps) v = if lonB v 1 = false then (0, 15) else fitB 4 s l h t v.bs.length := by rw [fit]; rfl
  generalize fit (.mk 4 s l h t A c ps) v = E at *
  have HE := Lib.hid hE
  have HF := Lib.hid hf
  have HV := Lib.hid hv
  have H0 := Lib.hid h0
  have hlook := (hk.grew (grew_alloc (grew_alloc (grew_refl w none) (.cells #[.int .i64 4, .int .i64 s, .int .i64 l, .int .i64 h, .int .i64 t, .slice A ps.length c] 31)) (.cells #[.int .u64 v.n, .slice v.B v.bs.length v.d, .slice v.A v.ls.length v.c] 26))).look (k := 4) (by omega)
  change _ = Result.ok (Value.int .i64 1) _ at hlook
  clear hE hf hv h0 hk
  change Calls Try.prog 37 #[.map (some q), .agg #[.int .i64 4, .int .i64 s, .int .i64 l, .int .i64 h, .int .i64 t, .slice A ps.length c], .agg #[.int .u64 v.n, .slice v.B v.bs.length v.d, .slice v.A v.ls.length v.c]] w _
  go_enter Try.func37, Try.ntmps37
  go_wp2_with fail
  have hw2 := Whole.new (w.alloc (.cells #[.int .i64 4, .int .i64 s, .int .i64 l, .int .i64 h, .int .i64 t, .slice A ps.length c] 31)) #[.int .u64 v.n, .slice v.B v.bs.length v.d, .slice v.A v.ls.length v.c] 26
  have hw1 := (Whole.new w #[.int .i64 4, .int .i64 s, .int .i64 l, .int .i64 h, .int .i64 t, .slice A ps.length c] 31).grew (grew_alloc (grew_refl _ none) (.cells #[.int .u64 v.n, .slice v.B v.bs.length v.d, .slice v.A v.ls.length v.c] 26)) (by simp)
  have hg2 := grew_alloc (grew_alloc (grew_refl w none) (.cells #[.int .i64 4, .int .i64 s, .int .i64 l, .int .i64 h, .int .i64 t, .slice A ps.length c] 31)) (.cells #[.int .u64 v.n, .slice v.B v.bs.length v.d, .slice v.A v.ls.length v.c] 26)
  have hsz : (w.alloc (.cells #[.int .i64 4, .int .i64 s, .int .i64 l, .int .i64 h, .int .i64 t, .slice A ps.length c] 31)).heap.size = w.heap.size + 1 := by simp
  rw [hsz] at hw2
  clear hlook hsz
  generalize (w.alloc (.cells #[.int .i64 4, .int .i64 s, .int .i64 l, .int .i64 h, .int .i64 t, .slice A ps.length c] 31)).alloc (.cells #[.int .u64 v.n, .slice v.B v.bs.length v.d, .slice v.A v.ls.length v.c] 26) = W2 at *
  generalize w.heap.size + 1 = qv at *
  generalize w.heap.size = qf at *
  have HG := Lib.hid hg2
  have HW1 := Lib.hid hw1
  have HW2 := Lib.hid hw2
  clear hg2 hw1 hw2
  refine (valone_any W2 v 1 (by omega)).mono ?_
  rintro e w3 ⟨rfl, g3⟩
  obtain ⟨v0, v1, v2⟩ := (HW2.out.grew g3 (by simp)).three
  obtain ⟨c0, c1, c2, c3, c4, c5⟩ := (HW1.out.grew g3 (by simp)).six
  have HG3 := Lib.hid (grew_trans HG.out g3)
  clear HG HW1 HW2 g3
  cases hlo : lonB v 1 with
  | false =>
    have HE2 := Lib.hid (show E = (0, 15) by rw [HE.out, if_pos hlo])
    clear hlo v0 v1 v2 c0 c1 c2 c3 c4 c5
    go_wp2_with fail
    go_ret2
    exact ⟨by rw [HE2.out]; rfl, HG3.out⟩
  | true =>
    have HE2 := Lib.hid (show E = fitB 4 s l h t v.bs.length by rw [HE.out, if_neg (by rw [hlo]; simp)])
    clear hlo
    go_wp2_with fail
    refine (sizeBytes_any w3 4 s l h t v.bs.length A ps.length c (by omega) H0.out HV.out.bytes.2.2).mono ?_
    rintro e w4 ⟨rfl, g4⟩
    rw [← HE2.out]
    have HG4 := Lib.hid (grew_trans HG3.out g4)
    clear g4 HG3 v0 v1 v2 c0 c1 c2 c3 c4 c5
    generalize hY : E = Y at *
    have HY := Lib.hid hY
    clear hY
    unfold two
    go_wp2_with fail
    go_ret2
    exact ⟨by rw [HY.out]; rfl, HG4.out⟩

set_option maxHeartbeats 1000000 in
theorem size_k5 (w : World) (q : Nat) (s l h t : Int) (A : Option Addr) (c : Nat) (ps : List Fo) (v : Va) (hf : Fo.In w (.mk 5 s l h t A c ps)) (hv : v.In w) (hk : Kinds w q) (h0 : Fo.alone 5 s l h t ps.length = 0) :
    Calls Try.prog 37 #[.map (some q), (Fo.mk 5 s l h t A c ps).val, v.val] w fun e w' => e = .returned (two (fit (.mk 5 s l h t A c ps) v)) ∧ Grew w w' none := by
  have hE : fit (.mk 5 s l h t A c ps) v = if lonB v 1 = false then (0, 15) else fitB 5 s l h t v.bs.length := by rw [fit]; rfl
  generalize fit (.mk 5 s l h t A c ps) v = E at *
  have HE := Lib.hid hE
  have HF := Lib.hid hf
  have HV := Lib.hid hv
  have H0 := Lib.hid h0
  have hlook := (hk.grew (grew_alloc (grew_alloc (grew_refl w none) (.cells #[.int .i64 5, .int .i64 s, .int .i64 l, .int .i64 h, .int .i64 t, .slice A ps.length c] 31)) (.cells #[.int .u64 v.n, .slice v.B v.bs.length v.d, .slice v.A v.ls.length v.c] 26))).look (k := 5) (by omega)
  change _ = Result.ok (Value.int .i64 1) _ at hlook
  clear hE hf hv h0 hk
  change Calls Try.prog 37 #[.map (some q), .agg #[.int .i64 5, .int .i64 s, .int .i64 l, .int .i64 h, .int .i64 t, .slice A ps.length c], .agg #[.int .u64 v.n, .slice v.B v.bs.length v.d, .slice v.A v.ls.length v.c]] w _
  go_enter Try.func37, Try.ntmps37
  go_wp2_with fail
  have hw2 := Whole.new (w.alloc (.cells #[.int .i64 5, .int .i64 s, .int .i64 l, .int .i64 h, .int .i64 t, .slice A ps.length c] 31)) #[.int .u64 v.n, .slice v.B v.bs.length v.d, .slice v.A v.ls.length v.c] 26
  have hw1 := (Whole.new w #[.int .i64 5, .int .i64 s, .int .i64 l, .int .i64 h, .int .i64 t, .slice A ps.length c] 31).grew (grew_alloc (grew_refl _ none) (.cells #[.int .u64 v.n, .slice v.B v.bs.length v.d, .slice v.A v.ls.length v.c] 26)) (by simp)
  have hg2 := grew_alloc (grew_alloc (grew_refl w none) (.cells #[.int .i64 5, .int .i64 s, .int .i64 l, .int .i64 h, .int .i64 t, .slice A ps.length c] 31)) (.cells #[.int .u64 v.n, .slice v.B v.bs.length v.d, .slice v.A v.ls.length v.c] 26)
  have hsz : (w.alloc (.cells #[.int .i64 5, .int .i64 s, .int .i64 l, .int .i64 h, .int .i64 t, .slice A ps.length c] 31)).heap.size = w.heap.size + 1 := by simp
  rw [hsz] at hw2
  clear hlook hsz
  generalize (w.alloc (.cells #[.int .i64 5, .int .i64 s, .int .i64 l, .int .i64 h, .int .i64 t, .slice A ps.length c] 31)).alloc (.cells #[.int .u64 v.n, .slice v.B v.bs.length v.d, .slice v.A v.ls.length v.c] 26) = W2 at *
  generalize w.heap.size + 1 = qv at *
  generalize w.heap.size = qf at *
  have HG := Lib.hid hg2
  have HW1 := Lib.hid hw1
  have HW2 := Lib.hid hw2
  clear hg2 hw1 hw2
  refine (valone_any W2 v 1 (by omega)).mono ?_
  rintro e w3 ⟨rfl, g3⟩
  obtain ⟨v0, v1, v2⟩ := (HW2.out.grew g3 (by simp)).three
  obtain ⟨c0, c1, c2, c3, c4, c5⟩ := (HW1.out.grew g3 (by simp)).six
  have HG3 := Lib.hid (grew_trans HG.out g3)
  clear HG HW1 HW2 g3
  cases hlo : lonB v 1 with
  | false =>
    have HE2 := Lib.hid (show E = (0, 15) by rw [HE.out, if_pos hlo])
    clear hlo v0 v1 v2 c0 c1 c2 c3 c4 c5
    go_wp2_with fail
    go_ret2
    exact ⟨by rw [HE2.out]; rfl, HG3.out⟩
  | true =>
    have HE2 := Lib.hid (show E = fitB 5 s l h t v.bs.length by rw [HE.out, if_neg (by rw [hlo]; simp)])
    clear hlo
    go_wp2_with fail
    refine (sizeBytes_any w3 5 s l h t v.bs.length A ps.length c (by omega) H0.out HV.out.bytes.2.2).mono ?_
    rintro e w4 ⟨rfl, g4⟩
    rw [← HE2.out]
    have HG4 := Lib.hid (grew_trans HG3.out g4)
    clear g4 HG3 v0 v1 v2 c0 c1 c2 c3 c4 c5
    generalize hY : E = Y at *
    have HY := Lib.hid hY
    clear hY
    unfold two
    go_wp2_with fail
    go_ret2
    exact ⟨by rw [HY.out]; rfl, HG4.out⟩

end Go.Proofs.Ytmdmfinpcbedcaa

