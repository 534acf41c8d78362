/- The statements' own examples are told. -/
import Derived.Test.YtdamjbngopfpkaaAl6
import Derived.Deep.Cut
namespace Go.Proofs.Ytdamjbngopfpkaa
open Go.RowKit Va

theorem read_ex (w : World) (f : Fo) (hf : f.In w) (A : Option Addr) (cp : Nat) (xs : List UInt8) (hl : xs.length ≤ cp) (hcp : xs.length ≤ 100) (hb : Byt w w.heap.size A xs) (e : Int) (n : Nat) (v' : Va) (c : Nat) (h : rdAll f xs = ⟨e, n, v', c⟩) (N : Int) (hN : N = n) (L : Nat) (hL : L = xs.length) :
    Calls Try.prog 14 #[f.val, .slice A L cp, .int .i64 0] w fun e' w' => ∃ v : Va, e' = .returned (.tuple #[v.val, .int .i64 N, .int .i64 e]) ∧ v.In w' ∧ v.nf = v' ∧ Grew w w' none := by
  have key := read_any w f hf A cp xs hl (by omega) hb 0 (by omega) (by omega)
  rw [h] at key
  subst hL
  refine key.mono ?_
  rintro e' w' ⟨v, rfl, h1, h2, h3⟩
  exact ⟨v, by rw [hN]; simp, h1, h2, h3⟩

theorem byt_new (w : World) (cs : Array Value) (xs : List UInt8) (h : cs.toList = cellsOf xs) : Byt (w.alloc (.cells cs 5)) (w.alloc (.cells cs 5)).heap.size (some ⟨w.heap.size, 0, none⟩) xs :=
  (Byt.of_whole (Whole.new w cs 5) h).more (by simp)

theorem pair_of {v : Va} (h : v.nf = vL [vN 7, vB [8, 9]]) : ∃ l1 l2, v.ls = [l1, l2] ∧ l1.n = 7 ∧ l2.bs = [8, 9] := by
  obtain ⟨_, _, h3⟩ := nf_parts h
  change nfs v.ls = [vN 7, vB [8, 9]] at h3
  rcases hl : v.ls with _ | ⟨l1, _ | ⟨l2, _ | ⟨l3, r⟩⟩⟩
  · rw [hl] at h3; simp [nfs] at h3
  · rw [hl] at h3; simp [nfs] at h3
  · rw [hl] at h3
    simp only [nfs, List.cons.injEq, and_true] at h3
    exact ⟨l1, l2, rfl, (nf_parts h3.1).1, (nf_parts h3.2).2.1⟩
  · rw [hl] at h3; simp [nfs] at h3

set_option maxRecDepth 100000 in
set_option maxHeartbeats 4000000 in
theorem alive6_any (w : World) : Calls Try.prog 8 #[] w fun e w' => e = .returned (.bool true) ∧ Grew w w' none := by
  obtain ⟨g1, k0, k1, ks⟩ := two_new w #[.int .i64 0, .int .i64 1, .int .i64 0, .int .i64 0, .int .i64 0, .slice none 0 0, .int .i64 1, .int .i64 1, .int .i64 1, .int .i64 3, .int .i64 1, .slice none 0 0] 24 #[.int .i64 3, .int .i64 0, .int .i64 0, .int .i64 0, .int .i64 0, .slice (some ⟨w.heap.size, 0, none⟩) 2 2] 24
  have HF := Lib.hid (show Fo.In ((w.alloc (.cells #[.int .i64 0, .int .i64 1, .int .i64 0, .int .i64 0, .int .i64 0, .slice none 0 0, .int .i64 1, .int .i64 1, .int .i64 1, .int .i64 3, .int .i64 1, .slice none 0 0] 24)).alloc (.cells #[.int .i64 3, .int .i64 0, .int .i64 0, .int .i64 0, .int .i64 0, .slice (some ⟨w.heap.size, 0, none⟩) 2 2] 24)) (f0 (some ⟨w.heap.size, 0, none⟩)) from
    .mk (by simp) (by simp) (Fo.Lie.whole k0 rfl) (fun p hp => by
      simp at hp
      rcases hp with rfl | rfl
      · exact plain_in _ _ _ _ _ _
      · exact plain_in _ _ _ _ _ _))
  have G1 := Lib.hid g1
  have K1 := Lib.hid k1
  clear g1 k0 k1 ks
  go_enter Try.func8, Try.ntmps8
  go_upto_region 2 with (fail)
  generalize (w.alloc (.cells #[.int .i64 0, .int .i64 1, .int .i64 0, .int .i64 0, .int .i64 0, .slice none 0 0, .int .i64 1, .int .i64 1, .int .i64 1, .int .i64 3, .int .i64 1, .slice none 0 0] 24)).alloc (.cells #[.int .i64 3, .int .i64 0, .int .i64 0, .int .i64 0, .int .i64 0, .slice (some ⟨w.heap.size, 0, none⟩) 2 2] 24) = W at *
  generalize w.heap.size = q at *
  obtain ⟨c0, c1, c2, c3, c4, c5⟩ := K1.out.six
  go_wp2_with fail
  have gb0 := grew_alloc (grew_refl W none) (.cells #[.int .u8 7, .int .u8 2, .int .u8 8, .int .u8 9] 5)
  have HC0 := Lib.hid (read_ex (W.alloc (.cells #[.int .u8 7, .int .u8 2, .int .u8 8, .int .u8 9] 5)) (f0 (some ⟨q, 0, none⟩)) (HF.out.grew gb0) (some ⟨W.heap.size, 0, none⟩) 4 [7, 2, 8, 9] (by simp) (by simp) (byt_new W #[.int .u8 7, .int .u8 2, .int .u8 8, .int .u8 9] [7, 2, 8, 9] rfl) 0 4 (vL [vN 7, vB [8, 9]]) 3 (ex1 _) 4 rfl 4 rfl)
  have GB0 := Lib.hid gb0
  clear gb0 c0 c1 c2 c3 c4 c5
  refine HC0.out.mono ?_
  clear HC0
  rintro e X0 ⟨u0, rfl, hv, hnf, g⟩
  have GX0 := Lib.hid (grew_trans (grew_trans G1.out GB0.out) g)
  have KX0 := Lib.hid ((K1.out.grew GB0.out (by simp)).grew g (by simp))
  have HX0 := Lib.hid ((HF.out.grew GB0.out).grew g)
  have HI0 := Lib.hid (show u0.In X0 ∧ u0.nf = vL [vN 7, vB [8, 9]] from ⟨hv, hnf⟩)
  have gg0 := grew_trans GB0.out g
  have GG0 := Lib.hid gg0
  clear hv hnf g gg0 G1 K1 HF GB0
  rw [vval_eq]
  go_upto_region 3 with (fail)
  have ga0 := grew_alloc (grew_refl X0 none) (.cells #[.int .u64 u0.n, .slice u0.B u0.bs.length u0.d, .slice u0.A u0.ls.length u0.c] 35)
  have G2 := Lib.hid (grew_trans GX0.out ga0)
  have K2 := Lib.hid (KX0.out.grew ga0 (by simp))
  have HF1 := Lib.hid (HX0.out.grew ga0)
  have GA0 := Lib.hid (grew_trans GG0.out ga0)
  have NV := Lib.hid (Whole.new X0 #[.int .u64 u0.n, .slice u0.B u0.bs.length u0.d, .slice u0.A u0.ls.length u0.c] 35)
  have IV := Lib.hid (HI0.out.1.grew ga0)
  have NFV := Lib.hid HI0.out.2
  clear ga0 GX0 KX0 HX0 GG0 GA0 HI0
  generalize X0.alloc (.cells #[.int .u64 u0.n, .slice u0.B u0.bs.length u0.d, .slice u0.A u0.ls.length u0.c] 35) = W0 at *
  generalize X0.heap.size = z0 at *
  obtain ⟨c0, c1, c2, c3, c4, c5⟩ := K2.out.six
  go_wp2_with fail
  have gb1 := grew_alloc (grew_refl W0 none) (.cells #[.int .u8 7, .int .u8 4, .int .u8 8] 5)
  have HC1 := Lib.hid (read_ex (W0.alloc (.cells #[.int .u8 7, .int .u8 4, .int .u8 8] 5)) (f0 (some ⟨q, 0, none⟩)) (HF1.out.grew gb1) (some ⟨W0.heap.size, 0, none⟩) 3 [7, 4, 8] (by simp) (by simp) (byt_new W0 #[.int .u8 7, .int .u8 4, .int .u8 8] [7, 4, 8] rfl) 5 1 (v0) 3 (ex2 _) 1 rfl 3 rfl)
  have GB1 := Lib.hid gb1
  clear gb1 c0 c1 c2 c3 c4 c5
  refine HC1.out.mono ?_
  clear HC1
  rintro e X1 ⟨u1, rfl, hv, hnf, g⟩
  have GX1 := Lib.hid (grew_trans (grew_trans G2.out GB1.out) g)
  have KX1 := Lib.hid ((K2.out.grew GB1.out (by simp)).grew g (by simp))
  have HX1 := Lib.hid ((HF1.out.grew GB1.out).grew g)
  have HI1 := Lib.hid (show u1.In X1 ∧ u1.nf = v0 from ⟨hv, hnf⟩)
  have gg1 := grew_trans GB1.out g
  have GG1 := Lib.hid gg1
  clear hv hnf g gg1 G2 K2 HF1 GB1
  rw [vval_eq]
  go_upto_region 4 with (fail)
  have ga1 := grew_alloc (grew_refl X1 none) (.cells #[.int .u64 u1.n, .slice u1.B u1.bs.length u1.d, .slice u1.A u1.ls.length u1.c] 35)
  have G3 := Lib.hid (grew_trans GX1.out ga1)
  have K3 := Lib.hid (KX1.out.grew ga1 (by simp))
  have HF2 := Lib.hid (HX1.out.grew ga1)
  have GA1 := Lib.hid (grew_trans GG1.out ga1)
  replace NV := Lib.hid (NV.out.grew GA1.out (by simp))
  replace IV := Lib.hid (IV.out.grew GA1.out)
  clear ga1 GX1 KX1 HX1 GG1 GA1 HI1
  generalize X1.alloc (.cells #[.int .u64 u1.n, .slice u1.B u1.bs.length u1.d, .slice u1.A u1.ls.length u1.c] 35) = W1 at *
  generalize X1.heap.size = z1 at *
  obtain ⟨c0, c1, c2, c3, c4, c5⟩ := K3.out.six
  go_wp2_with fail
  have gb2 := grew_alloc (grew_refl W1 none) (.cells #[.int .u8 7, .int .u8 2, .int .u8 8] 5)
  have HC2 := Lib.hid (read_ex (W1.alloc (.cells #[.int .u8 7, .int .u8 2, .int .u8 8] 5)) (f0 (some ⟨q, 0, none⟩)) (HF2.out.grew gb2) (some ⟨W1.heap.size, 0, none⟩) 3 [7, 2, 8] (by simp) (by simp) (byt_new W1 #[.int .u8 7, .int .u8 2, .int .u8 8] [7, 2, 8] rfl) 4 3 (v0) 3 (ex3 _) 3 rfl 3 rfl)
  have GB2 := Lib.hid gb2
  clear gb2 c0 c1 c2 c3 c4 c5
  refine HC2.out.mono ?_
  clear HC2
  rintro e X2 ⟨u2, rfl, hv, hnf, g⟩
  have GX2 := Lib.hid (grew_trans (grew_trans G3.out GB2.out) g)
  have KX2 := Lib.hid ((K3.out.grew GB2.out (by simp)).grew g (by simp))
  have HX2 := Lib.hid ((HF2.out.grew GB2.out).grew g)
  have HI2 := Lib.hid (show u2.In X2 ∧ u2.nf = v0 from ⟨hv, hnf⟩)
  have gg2 := grew_trans GB2.out g
  have GG2 := Lib.hid gg2
  clear hv hnf g gg2 G3 K3 HF2 GB2
  rw [vval_eq]
  go_upto_region 5 with (fail)
  have ga2 := grew_alloc (grew_refl X2 none) (.cells #[.int .u64 u2.n, .slice u2.B u2.bs.length u2.d, .slice u2.A u2.ls.length u2.c] 35)
  have G4 := Lib.hid (grew_trans GX2.out ga2)
  have K4 := Lib.hid (KX2.out.grew ga2 (by simp))
  have HF3 := Lib.hid (HX2.out.grew ga2)
  have GA2 := Lib.hid (grew_trans GG2.out ga2)
  replace NV := Lib.hid (NV.out.grew GA2.out (by simp))
  replace IV := Lib.hid (IV.out.grew GA2.out)
  clear ga2 GX2 KX2 HX2 GG2 GA2 HI2
  generalize X2.alloc (.cells #[.int .u64 u2.n, .slice u2.B u2.bs.length u2.d, .slice u2.A u2.ls.length u2.c] 35) = W2 at *
  generalize X2.heap.size = z2 at *
  obtain ⟨c0, c1, c2, c3, c4, c5⟩ := K4.out.six
  go_wp2_with fail
  have gb3 := grew_alloc (grew_refl W2 none) (.cells #[.int .u8 7, .int .u8 1, .int .u8 8, .int .u8 9] 5)
  have HC3 := Lib.hid (read_ex (W2.alloc (.cells #[.int .u8 7, .int .u8 1, .int .u8 8, .int .u8 9] 5)) (f0 (some ⟨q, 0, none⟩)) (HF3.out.grew gb3) (some ⟨W2.heap.size, 0, none⟩) 4 [7, 1, 8, 9] (by simp) (by simp) (byt_new W2 #[.int .u8 7, .int .u8 1, .int .u8 8, .int .u8 9] [7, 1, 8, 9] rfl) 6 3 (v0) 3 (ex4 _) 3 rfl 4 rfl)
  have GB3 := Lib.hid gb3
  clear gb3 c0 c1 c2 c3 c4 c5
  refine HC3.out.mono ?_
  clear HC3
  rintro e X3 ⟨u3, rfl, hv, hnf, g⟩
  have GX3 := Lib.hid (grew_trans (grew_trans G4.out GB3.out) g)
  have KX3 := Lib.hid ((K4.out.grew GB3.out (by simp)).grew g (by simp))
  have HX3 := Lib.hid ((HF3.out.grew GB3.out).grew g)
  have HI3 := Lib.hid (show u3.In X3 ∧ u3.nf = v0 from ⟨hv, hnf⟩)
  have gg3 := grew_trans GB3.out g
  have GG3 := Lib.hid gg3
  clear hv hnf g gg3 G4 K4 HF3 GB3
  rw [vval_eq]
  go_upto_region 6 with (fail)
  have ga3 := grew_alloc (grew_refl X3 none) (.cells #[.int .u64 u3.n, .slice u3.B u3.bs.length u3.d, .slice u3.A u3.ls.length u3.c] 35)
  have G5 := Lib.hid (grew_trans GX3.out ga3)
  have K5 := Lib.hid (KX3.out.grew ga3 (by simp))
  have HF4 := Lib.hid (HX3.out.grew ga3)
  have GA3 := Lib.hid (grew_trans GG3.out ga3)
  replace NV := Lib.hid (NV.out.grew GA3.out (by simp))
  replace IV := Lib.hid (IV.out.grew GA3.out)
  clear ga3 GX3 KX3 HX3 GG3 GA3 HI3
  generalize X3.alloc (.cells #[.int .u64 u3.n, .slice u3.B u3.bs.length u3.d, .slice u3.A u3.ls.length u3.c] 35) = W3 at *
  generalize X3.heap.size = z3 at *
  obtain ⟨l1, l2, hls, hl1, hl2⟩ := pair_of NFV.out
  have hlen : u0.ls.length = 2 := by rw [hls]; rfl
  have hlie := IV.out.list.1
  have hp2 := IV.out.parts l2 (by rw [hls]; simp)
  obtain ⟨b, o, hA, hcell⟩ := hlie (by omega)
  have e1 : W3.cell? ⟨b, o, none⟩ = some (.int .u64 7) := by
    have := hcell 0 l1 (by rw [hls]; rfl) 0 (.int .u64 l1.n) rfl
    rw [hl1] at this
    simpa using this
  have e2 : W3.cell? ⟨b, o + 3 + 1, none⟩ = some (.slice l2.B 2 l2.d) := by
    have := hcell 1 l2 (by rw [hls]; rfl) 1 (.slice l2.B l2.bs.length l2.d) rfl
    have hbl : l2.bs.length = 2 := by rw [hl2]; rfl
    rw [hbl] at this
    simpa using this
  have hb2 := hp2.bytes.1
  rw [hl2] at hb2
  have hcv := conv_txt (P := Try.prog) W3 Try.underlying25 Try.underlying5 Try.underlying9 hb2 (n := 2) rfl l2.d
  obtain ⟨m0, m1, m2⟩ := NV.out.three
  rw [hlen, hA] at m2
  have ht : txt [8, 9] = { data := #[8, 9] } := rfl
  rw [ht] at hcv
  clear hls hl1 hl2 hlen hlie hp2 hA hcell hb2 ht
  go_wp2_with fail
  go_ret
  exact ⟨rfl, G5.out⟩
end Go.Proofs.Ytdamjbngopfpkaa

