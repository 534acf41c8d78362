/- What is read fits its form, and has as many bytes as its size; a byte less, or a byte more, isn't read as the same: for every form, bytes and byte the law returns true. No condition. -/
import Derived.Test.YtdamjbngopfpkaaLw6
import Derived.Test.YtdamjbngopfpkaaRq
import Derived.Test.YtdamjbngopfpkaaRt6
namespace Go.Proofs.Ytdamjbngopfpkaa
open Go.ChangeShapes Go.WideShapes Go.ChangeAt Go.RowKit Va Go.Deep

theorem enter_readF : ∀ args w, (callFunc 14 args).run Try.prog w = .ok (.enter 14 args) w := fun _ _ => by kernel_rfl
theorem ev_at {a A : Act} {m n : Nat} {v : Value} (h : a.put (some m) v = A) (hn : m ≠ n) : A.eval (.tmp n) = a.eval (.tmp n) := by rw [← h]; exact ev_ne a v hn
theorem ev_put {a A : Act} {m : Nat} {v : Value} (h : a.put (some m) v = A) (hs : m < a.tmps.size) : A.eval (.tmp m) = v := by rw [← h]; exact ev_self a m v hs
theorem sz_at {a A : Act} {m : Nat} {v : Value} (h : a.put (some m) v = A) : A.tmps.size = a.tmps.size := by rw [← h]; exact sz_put a m v

/-- A value stored. -/
abbrev putV (w : World) (z : Nat) (v : Va) : World := put3 w z (.int .u64 v.n) (.slice v.B v.bs.length v.d) (.slice v.A v.ls.length v.c)

theorem not_same {f : Fo} {xs ys : List UInt8} (hx : xs.length ≤ 3000) (hy : ys.length ≤ 3000) (hne : xs.length ≠ ys.length) (h1 : (rdAll f xs).e = 0) (h2 : (rdAll f ys).e = 0) {v x : Va} (hv : v.nf = (rdAll f xs).v) (hw : x.nf = (rdAll f ys).v) : same v x = false := by
  cases hs : same v x with
  | false => rfl
  | true =>
    have e := (same_nf v x).1 hs
    rw [hv, hw] at e
    have f1 := ((rdAll_good (f := f) (xs := xs) (by omega)).2.1 h1).2.2
    have f2 := ((rdAll_good (f := f) (xs := ys) (by omega)).2.1 h2).2.2
    rw [e, f2] at f1
    injection f1 with f1 _
    omega

set_option maxRecDepth 100000 in
set_option maxHeartbeats 8000000 in
theorem readFits_walk (w : World) (f : Fo) (hf : f.In w) (A : Option Addr) (c : Nat) (xs : List UInt8) (hl : xs.length ≤ c) (_hc : c ≤ 140737488351232) (hb : Byt w w.heap.size A xs) (a2 : Int) (w2 : (Lit.int .u8 a2).wf = true) :
  Calls Try.prog 4 #[f.val, .slice A xs.length c, .int .u8 a2] w fun e w' => e = .returned (.bool true) ∧ Below w.heap.size w w' := by
 obtain ⟨cb, rfl⟩ : ∃ cb : UInt8, a2 = (cb.toNat : Int) := ⟨UInt8.ofNat a2.toNat, by have := bounds_u8 w2; simp; omega⟩
 clear w2
 have CG := Lib.hid (fun w' (g : Grew w w' none) => great6_any w' f (hf.grew g) A c xs.length)
 have C1 := Lib.hid (show ∀ w', Grew w w' none → xs.length ≤ 2000 → Calls Try.prog 14 #[f.val, .slice A xs.length c, .int .i64 0] w' fun e w'' => ∃ v : Va, e = .returned (.tuple #[v.val, .int .i64 ((rdAll f xs).n : Int), .int .i64 (rdAll f xs).e]) ∧ v.In w'' ∧ v.nf = (rdAll f xs).v ∧ Grew w' w'' none ∧ v.Hi w'.heap.size from
  fun w' g hx => (read_hi w' f (hf.grew g) A c xs hl (by omega) ((hb.grew g (fun _ h => by cases h)).more g.size) 0 (by omega) (by omega)).mono (fun e w'' ⟨v, h1, h2⟩ => ⟨v, by rw [h1, Int.zero_add], h2⟩))
 obtain ⟨ms, hms⟩ : ∃ ms : List UInt8, ([] ++ xs) ++ [cb] = ms := ⟨_, rfl⟩
 have hml : ms.length = xs.length + 1 := by rw [← hms]; simp
 obtain ⟨k1, hk1⟩ : ∃ k1 : Nat, xs.length - 1 = k1 := ⟨_, rfl⟩
 obtain ⟨ts, hts⟩ : ∃ ts : List UInt8, xs.take k1 = ts := ⟨_, rfl⟩
 have htl : ts.length = k1 := by rw [← hts, List.length_take]; omega
 have C2 := Lib.hid (show ∀ w', Grew w w' none → xs.length ≤ 2000 → ∀ A3 c3, ms.length ≤ c3 → Byt w' w'.heap.size A3 ms → Calls Try.prog 14 #[f.val, .slice A3 ms.length c3, .int .i64 0] w' fun e w'' => ∃ v : Va, e = .returned (.tuple #[v.val, .int .i64 ((rdAll f ms).n : Int), .int .i64 (rdAll f ms).e]) ∧ v.In w'' ∧ v.nf = (rdAll f ms).v ∧ Grew w' w'' none ∧ v.Hi w'.heap.size from
  fun w' g hx A3 c3 hl3 hb3 => (read_hi w' f (hf.grew g) A3 c3 ms hl3 (by omega) hb3 0 (by omega) (by omega)).mono (fun e w'' ⟨v, h1, h2⟩ => ⟨v, by rw [h1, Int.zero_add], h2⟩))
 have C3 := Lib.hid (show ∀ w', Grew w w' none → xs.length ≤ 2000 → Calls Try.prog 14 #[f.val, .slice A k1 c, .int .i64 0] w' fun e w'' => ∃ v : Va, e = .returned (.tuple #[v.val, .int .i64 ((rdAll f ts).n : Int), .int .i64 (rdAll f ts).e]) ∧ v.In w'' ∧ v.nf = (rdAll f ts).v ∧ Grew w' w'' none ∧ v.Hi w'.heap.size from
  fun w' g hx => by
   have key := read_hi w' f (hf.grew g) A c ts (by omega) (by omega) (by rw [← hts]; exact (((hb.grew g (fun _ h => by cases h)).more g.size)).take _) 0 (by omega) (by omega)
   rw [htl] at key
   exact key.mono (fun e w'' ⟨v, h1, h2⟩ => ⟨v, by rw [h1, Int.zero_add], h2⟩))
 have RG := Lib.hid (fun (hx : xs.length ≤ 2000) => rdAll_good (f := f) (xs := xs) (by omega))
 have CF := Lib.hid (fun w' (g : Grew w w' none) v (hv : v.In w') (h : f.chk = 0) (h0 : fit f v = ((xs.length : Int), 0)) => rfits_ok w' f (hf.grew g) v hv h _ h0)
 have FN := Lib.hid (fit_nf f)
 have N2 := Lib.hid (fun (hx : xs.length ≤ 2000) (h1 : (rdAll f xs).e = 0) (h2 : (rdAll f ms).e = 0) (v x : Va) (hv : v.nf = (rdAll f xs).v) (hw : x.nf = (rdAll f ms).v) => not_same (f := f) (by omega) (by omega) (by omega) h1 h2 hv hw)
 have N3 := Lib.hid (fun (hx : xs.length ≤ 2000) (h0 : 0 < xs.length) (h1 : (rdAll f xs).e = 0) (h2 : (rdAll f ts).e = 0) (v x : Va) (hv : v.nf = (rdAll f xs).v) (hw : x.nf = (rdAll f ts).v) => not_same (f := f) (by omega) (by omega) (by omega) h1 h2 hv hw)
 have HB := Lib.hid hb
 have HL := Lib.hid hl
 have HMS := Lib.hid hms
 have HK1 := Lib.hid hk1
 generalize rdAll f xs = R at *
 generalize rdAll f ms = R2 at *
 generalize rdAll f ts = R3 at *
 generalize fit f = FT at *
 generalize hch : f.chk = CH at *
 clear hf hl hb hch hms hml hk1 hts htl
 simp only [val_eq, vval_eq] at *
 have HW := Lib.hid (Whole.new w #[.int .i64 f.k, .int .i64 f.s, .int .i64 f.l, .int .i64 f.h, .int .i64 f.t, .slice f.A f.ps.length f.c] 24)
 have HG := Lib.hid (grew_alloc (grew_refl w none) (.cells #[.int .i64 f.k, .int .i64 f.s, .int .i64 f.l, .int .i64 f.h, .int .i64 f.t, .slice f.A f.ps.length f.c] 24))
 go_enter Try.func4, Try.ntmps4
 go_wp2_with fail
 generalize w.alloc (.cells #[.int .i64 f.k, .int .i64 f.s, .int .i64 f.l, .int .i64 f.h, .int .i64 f.t, .slice f.A f.ps.length f.c] 24) = W at *
 generalize hq : w.heap.size = q at *
 have HQ := Lib.hid hq
 clear hq
 refine (alive6_any W).mono ?_
 rintro e w1 ⟨rfl, g1⟩
 have HG1 := Lib.hid (grew_trans HG.out g1)
 have HW1 := Lib.hid (HW.out.grew g1 (by simp))
 obtain ⟨b0, b1, b2, b3, b4, b5⟩ := HW1.out.six
 clear g1 HG HW
 go_wp2_with fail
 refine (CG.out w1 HG1.out).mono ?_
 rintro e w2 ⟨rfl, g2⟩
 have HG2 := Lib.hid (grew_trans HG1.out g2)
 have HW2 := Lib.hid (HW1.out.grew g2 (by simp))
 clear g2 HG1 HW1 b0 b1 b2 b3 b4 b5 CG
 by_cases hbig : 500 < f.cnt ∨ 2000 < xs.length
 ·
  rw [decide_eq_true hbig]
  go_wp2_with fail
  refine (alive6_any w2).mono ?_
  rintro e wz ⟨rfl, gz⟩
  have HGZ := Lib.hid (grew_trans HG2.out gz)
  clear gz
  go_wp2_with fail
  go_ret
  exact ⟨rfl, grew_below HGZ.out (Nat.le_refl _) (fun _ h => by cases h)⟩
 ·
  rw [decide_eq_false hbig]
  have HX := Lib.hid (show xs.length ≤ 2000 by omega)
  clear hbig
  obtain ⟨b0, b1, b2, b3, b4, b5⟩ := HW2.out.six
  go_wp2_with fail
  refine (C1.out w2 HG2.out HX.out).mono ?_
  rintro e w5 ⟨v1, rfl, hv, hnf, g5, -⟩
  have HG5 := Lib.hid (grew_trans HG2.out g5)
  have HW5 := Lib.hid (HW2.out.grew g5 (by simp))
  have HV5 := Lib.hid (show v1.In w5 ∧ v1.nf = R.v from ⟨hv, hnf⟩)
  clear hv hnf g5 HG2 HW2 b0 b1 b2 b3 b4 b5 C1
  obtain ⟨r1, r2, r3⟩ := RG.out HX.out
  have R1' := Lib.hid r1
  have R2' := Lib.hid r2
  have R3' := Lib.hid r3
  clear r1 r2 r3 RG
  go_upto_region 4 with (fail)
  have ga := grew_alloc (grew_refl w5 none) (.cells #[.int .u64 v1.n, .slice v1.B v1.bs.length v1.d, .slice v1.A v1.ls.length v1.c] 35)
  have NV := Lib.hid (Whole.new w5 #[.int .u64 v1.n, .slice v1.B v1.bs.length v1.d, .slice v1.A v1.ls.length v1.c] 35)
  have HG6 := Lib.hid (grew_trans HG5.out ga)
  have HW6 := Lib.hid (HW5.out.grew ga (by simp))
  have HV6 := Lib.hid (show v1.In _ ∧ v1.nf = R.v from ⟨HV5.out.1.grew ga, HV5.out.2⟩)
  clear ga HG5 HW5 HV5
  generalize w5.alloc (.cells #[.int .u64 v1.n, .slice v1.B v1.bs.length v1.d, .slice v1.A v1.ls.length v1.c] 35) = W5 at *
  generalize w5.heap.size = z1 at *
  by_cases hE : R.e = 0
  ·
   have HE := Lib.hid hE
   obtain ⟨hc0, hn0, hft⟩ := R2'.out hE
   have HC0 := Lib.hid hc0
   have HFT := Lib.hid (show FT v1 = ((xs.length : Int), 0) by rw [← FN.out v1, HV6.out.2]; exact hft)
   rw [hE, hn0]
   clear hE hc0 hn0 hft
   obtain ⟨b0, b1, b2, b3, b4, b5⟩ := HW6.out.six
   obtain ⟨d0, d1, d2⟩ := NV.out.three
   go_wp2_with fail
   refine (CF.out W5 HG6.out v1 HV6.out.1 HC0.out HFT.out).mono ?_
   rintro e W6 ⟨rfl, g6⟩
   have HG7 := Lib.hid (grew_trans HG6.out g6)
   have HW7 := Lib.hid (HW6.out.grew g6 (by simp))
   have NV7 := Lib.hid (show Whole W6 z1 v1.cells 35 from NV.out.grew g6 (by simp))
   have HV7 := Lib.hid (show v1.In W6 ∧ v1.nf = R.v from ⟨HV6.out.1.grew g6, HV6.out.2⟩)
   clear g6 b0 b1 b2 b3 b4 b5 d0 d1 d2 HG6 HW6 NV HV6 CF
   go_upto_region 9 with (fail)
   have HBX := Lib.hid (show Byt W6 W6.heap.size A xs from (HB.out.grew HG7.out (fun _ h => by cases h)).more (by rw [← HQ.out]; exact HG7.out.size))
   have CP9 := Lib.hid (fun X (g : Grew W6 X none) A3 c3 h3 b3 => C2.out X (grew_trans HG7.out g) HX.out A3 c3 h3 b3)
   refine act_letterC (fun T1 hT1 => ?_)
   have d1 : T1.eval (.tmp 1) = .slice A xs.length c := by rw [← hT1]; rfl
   have d2 : T1.eval (.tmp 2) = .int .u8 (cb.toNat : Int) := by rw [← hT1]; rfl
   have d3 : T1.eval (.tmp 3) = .pointer (some ⟨q, 0, none⟩) := by rw [← hT1]; rfl
   have szT1 : T1.tmps.size = 109 := by rw [← hT1]; rfl
   have HT1 := Lib.hid hT1
   clear hT1
   have G := Lib.hid (show Grew W6 (World.drew W6) none from grew_drew (grew_refl _ none))
   have SF := Lib.hid (show Whole (World.drew W6) q f.cells 24 from HW7.out)
   refine Code.wp_mono (Q := RegEnd (fun a' w' => ∃ (v : Va) (z : Nat) (s0 : Value) (s1 : Value) (s2 : Value) (s3 : Value), a' = (((((((((((((((T1.put (some 69) (f.val)).put (some 70) (s0)).put (some 71) (.slice A xs.length c)).put (some 72) (s1)).put (some 73) (.int .u8 (cb.toNat : Int))).put (some 74) (s2)).put (some 75) (s3)).put (some 76) (.tuple #[v.val, .int .i64 (R2.n : Int), .int .i64 R2.e])).put (some 68) (.tuple #[v.val, .int .i64 (R2.n : Int), .int .i64 R2.e])).put (some 77) (v.val)).put (some 78) (.int .i64 (R2.n : Int))).put (some 79) (.int .i64 R2.e)).put (some 12) (.pointer (some ⟨z, 0, none⟩))).put (some 13) (.int .i64 (R2.n : Int))).put (some 14) (.int .i64 R2.e)) ∧ v.In w' ∧ v.nf = R2.v ∧ Whole w' z v.cells 35 ∧ Grew W6 w' none)) (fun e a' Y hq => ?_) ?_
   ·
    obtain ⟨rfl, v2, z2, s0, s1, s2, s3, rfl, hv2, hnf2, hz2, hg2⟩ := hq.out
    rw [← HT1.out]
    simp only [Act.put, List.setIfInBounds_toArray, List.set_cons_zero, List.set_cons_succ]
    clear d1 d2 d3 szT1 G SF HT1 hq HBX CP9
    have HG8 := Lib.hid (grew_trans HG7.out hg2)
    have HW8 := Lib.hid (HW7.out.grew hg2 (by simp))
    have NV8 := Lib.hid (NV7.out.grew hg2 (by simp))
    have HV8 := Lib.hid (show v1.In Y ∧ v1.nf = R.v from ⟨HV7.out.1.grew hg2, HV7.out.2⟩)
    obtain ⟨m0, m1, m2⟩ := NV8.out.three
    obtain ⟨k0, kk1, k2⟩ := hz2.three
    have CS := Lib.hid (rsamev_any v1 v2 Y HV8.out.1 hv2)
    have NS := Lib.hid (fun h => N2.out HX.out HE.out h v1 v2 HV8.out.2 hnf2)
    rw [vval_eq, vval_eq] at CS
    clear hv2 hnf2 hz2 hg2 HG7 NV7 HV7 HW7
    have key : ∀ (W8 : World), Grew w W8 none → Whole W8 q f.cells 24 → Whole W8 z1 v1.cells 35 → v1.In W8 → True := fun _ _ _ _ _ => trivial
    clear key
    by_cases hE2 : R2.e = 0
    ·
     have hb2 : (R2.e == 0) = true := by simpa using hE2
     have HNS := Lib.hid (NS.out hE2)
     clear hE2
     generalize R2.e = E2 at *
     go_wp2_with fail
     refine CS.out.mono ?_
     rintro e W8 ⟨rfl, g8⟩
     rw [HNS.out]
     replace HG8 := Lib.hid (grew_trans HG8.out g8)
     replace HW8 := Lib.hid (HW8.out.grew g8 (by simp))
     replace NV8 := Lib.hid (NV8.out.grew g8 (by simp))
     replace HV8 := Lib.hid (show v1.In W8 ∧ v1.nf = R.v from ⟨HV8.out.1.grew g8, HV8.out.2⟩)
     clear g8 m0 m1 m2 k0 kk1 k2 CS NS
     by_cases hz0 : xs.length = 0
     ·
      have hz1 : ((xs.length : Int) == 0) = true := by simp [hz0]
      go_wp2_with fail
      go_ret
      exact ⟨rfl, grew_below HG8.out (Nat.le_refl _) (fun _ h => by cases h)⟩
     ·
      have hz1 : ((xs.length : Int) == 0) = false := by rw [beq_eq_false_iff_ne]; omega
      have HL0 := Lib.hid (show 0 < xs.length by omega)
      have HLX := Lib.hid (show xs.length ≤ 140737488355328 by have := HX.out; omega)
      have HKC := Lib.hid (show k1 ≤ c by have := HK1.out; have := HL.out; omega)
      have CP14 := Lib.hid (fun X (g : Grew W8 X none) => C3.out X (grew_trans HG8.out g) HX.out)
      clear hz0
      go_upto_region 14 with (fail)
      refine act_letterC (fun T1 hT1 => ?_)
      have d1 : T1.eval (.tmp 1) = .slice A xs.length c := by rw [← hT1]; rfl
      have d3 : T1.eval (.tmp 3) = .pointer (some ⟨q, 0, none⟩) := by rw [← hT1]; rfl
      have szT1 : T1.tmps.size = 109 := by rw [← hT1]; rfl
      have HT1 := Lib.hid hT1
      clear hT1
      have G := Lib.hid (show Grew W8 (World.drew W8) none from grew_drew (grew_refl _ none))
      have SF := Lib.hid (show Whole (World.drew W8) q f.cells 24 from HW8.out)
      refine Code.wp_mono (Q := RegEnd (fun a' w' => ∃ (v : Va) (z : Nat), a' = ((((((((((((((T1.put (some 91) (f.val)).put (some 92) (.slice A xs.length c)).put (some 93) (.slice A xs.length c)).put (some 94) (.int .i64 (xs.length : Int))).put (some 95) (.int .i64 (k1 : Int))).put (some 96) (.slice A k1 c)).put (some 97) (.tuple #[v.val, .int .i64 (R3.n : Int), .int .i64 R3.e])).put (some 90) (.tuple #[v.val, .int .i64 (R3.n : Int), .int .i64 R3.e])).put (some 98) (v.val)).put (some 99) (.int .i64 (R3.n : Int))).put (some 100) (.int .i64 R3.e)).put (some 15) (.pointer (some ⟨z, 0, none⟩))).put (some 16) (.int .i64 (R3.n : Int))).put (some 17) (.int .i64 R3.e)) ∧ v.In w' ∧ v.nf = R3.v ∧ Whole w' z v.cells 35 ∧ Grew W8 w' none)) (fun e a' Y hq => ?_) ?_
      ·
       obtain ⟨rfl, v3, z3, rfl, hv3, hnf3, hz3, hg3⟩ := hq.out
       rw [← HT1.out]
       simp only [Act.put, List.setIfInBounds_toArray, List.set_cons_zero, List.set_cons_succ]
       clear d1 d3 szT1 G SF HT1 hq
       have HG9 := Lib.hid (grew_trans HG8.out hg3)
       obtain ⟨m0, m1, m2⟩ := (NV8.out.grew hg3 (by simp)).three
       obtain ⟨k0, kk1, k2⟩ := hz3.three
       have CS := Lib.hid (rsamev_any v1 v3 Y (HV8.out.1.grew hg3) hv3)
       have NS := Lib.hid (fun h => N3.out HX.out HL0.out HE.out h v1 v3 HV8.out.2 hnf3)
       rw [vval_eq, vval_eq] at CS
       clear hv3 hnf3 hz3 hg3 HG8 NV8 HV8 HW8 CP14 HKC
       by_cases hE3 : R3.e = 0
       ·
        have hns := NS.out hE3
        have HNS := Lib.hid hns
        clear hns
        have hb3 : (R3.e != 0) = false := by simpa using hE3
        clear hE3
        generalize R3.e = E3 at *
        go_wp2_with fail
        refine CS.out.mono ?_
        rintro e wz ⟨rfl, gz⟩
        rw [HNS.out]
        have HGA := Lib.hid (grew_trans HG9.out gz)
        clear gz m0 m1 m2 k0 kk1 k2 CS
        go_wp2_with fail
        go_ret
        exact ⟨by simp, grew_below HGA.out (Nat.le_refl _) (fun _ h => by cases h)⟩
       ·
        have hb3 : (R3.e != 0) = true := by simpa using hE3
        generalize R3.e = E3 at *
        go_wp2_with fail
        go_ret
        exact ⟨by simp, grew_below HG9.out (Nat.le_refl _) (fun _ h => by cases h)⟩
      ·
       skip
       refine wp_region_held (S := fun w' => Whole w' q f.cells 24) (by kernel_rfl) ?_
       change wpAnyH _ _ _ _ _ _ _ _ (World.drew W8)
       refine wpAnyH_take (i := 0) (v := f.val) rfl (by kernel_rfl) (by kernel_rfl) (by kernel_rfl) (fun _ _ _ h => h) (.inl ⟨rfl, fun w g => run_form rfl d3 g⟩) SF.out ?_
       refine act_letter (fun T2 hT2 => ?_)
       replace d1 := (ev_at hT2 (by decide)).trans d1
       replace d3 := (ev_at hT2 (by decide)).trans d3
       have d91 := ev_put hT2 (by omega)
       have szT2 := (sz_at hT2).trans szT1
       have HT2 := Lib.hid (show T1.put (some 91) (f.val) = T2 from hT2)
       clear hT2 szT1
       refine wpAnyH_take (i := 1) (v := .slice A xs.length c) rfl (by kernel_rfl) (by kernel_rfl) (by kernel_rfl) (fun _ _ _ h => h) (.inl ⟨rfl, fun w g => run_moveV rfl d1 w⟩) SF.out ?_
       refine act_letter (fun T3 hT3 => ?_)
       replace d1 := (ev_at hT3 (by decide)).trans d1
       replace d3 := (ev_at hT3 (by decide)).trans d3
       replace d91 := (ev_at hT3 (by decide)).trans d91
       have d92 := ev_put hT3 (by omega)
       have szT3 := (sz_at hT3).trans szT2
       have HT3 := Lib.hid (show T2.put (some 92) (.slice A xs.length c) = T3 from hT3)
       clear hT3 szT2
       refine wpAnyH_take (i := 2) (v := .slice A xs.length c) rfl (by kernel_rfl) (by kernel_rfl) (by kernel_rfl) (fun _ _ _ h => h) (.inl ⟨rfl, fun w g => run_moveV rfl d1 w⟩) SF.out ?_
       refine act_letter (fun T4 hT4 => ?_)
       replace d1 := (ev_at hT4 (by decide)).trans d1
       replace d3 := (ev_at hT4 (by decide)).trans d3
       replace d91 := (ev_at hT4 (by decide)).trans d91
       replace d92 := (ev_at hT4 (by decide)).trans d92
       have d93 := ev_put hT4 (by omega)
       have szT4 := (sz_at hT4).trans szT3
       have HT4 := Lib.hid (show T3.put (some 93) (.slice A xs.length c) = T4 from hT4)
       clear hT4 szT3
       refine wpAnyH_take (i := 3) (v := .int .i64 (xs.length : Int)) rfl (by kernel_rfl) (by kernel_rfl) (by kernel_rfl) (fun _ _ _ h => h) (.inl ⟨rfl, fun w g => run_len rfl d93 w⟩) SF.out ?_
       refine act_letter (fun T5 hT5 => ?_)
       replace d1 := (ev_at hT5 (by decide)).trans d1
       replace d3 := (ev_at hT5 (by decide)).trans d3
       replace d91 := (ev_at hT5 (by decide)).trans d91
       replace d92 := (ev_at hT5 (by decide)).trans d92
       replace d93 := (ev_at hT5 (by decide)).trans d93
       have d94 := ev_put hT5 (by omega)
       have szT5 := (sz_at hT5).trans szT4
       have HT5 := Lib.hid (show T4.put (some 94) (.int .i64 (xs.length : Int)) = T5 from hT5)
       clear hT5 szT4
       refine wpAnyH_take (i := 4) (v := .int .i64 (k1 : Int)) rfl (by kernel_rfl) (by kernel_rfl) (by kernel_rfl) (fun _ _ _ h => h) (.inl ⟨rfl, fun w g => (run_sub1 rfl d94 rfl HL0.out HLX.out w).trans (by rw [HK1.out])⟩) SF.out ?_
       refine act_letter (fun T6 hT6 => ?_)
       replace d1 := (ev_at hT6 (by decide)).trans d1
       replace d3 := (ev_at hT6 (by decide)).trans d3
       replace d91 := (ev_at hT6 (by decide)).trans d91
       replace d92 := (ev_at hT6 (by decide)).trans d92
       replace d93 := (ev_at hT6 (by decide)).trans d93
       replace d94 := (ev_at hT6 (by decide)).trans d94
       have d95 := ev_put hT6 (by omega)
       have szT6 := (sz_at hT6).trans szT5
       have HT6 := Lib.hid (show T5.put (some 95) (.int .i64 (k1 : Int)) = T6 from hT6)
       clear hT6 szT5
       refine wpAnyH_take (i := 5) (v := .slice A k1 c) rfl (by kernel_rfl) (by kernel_rfl) (by kernel_rfl) (fun _ _ _ h => h) (.inl ⟨rfl, fun w g => run_sliceB rfl d92 d95 HKC.out w⟩) SF.out ?_
       refine act_letter (fun T7 hT7 => ?_)
       replace d1 := (ev_at hT7 (by decide)).trans d1
       replace d3 := (ev_at hT7 (by decide)).trans d3
       replace d91 := (ev_at hT7 (by decide)).trans d91
       replace d92 := (ev_at hT7 (by decide)).trans d92
       replace d93 := (ev_at hT7 (by decide)).trans d93
       replace d94 := (ev_at hT7 (by decide)).trans d94
       replace d95 := (ev_at hT7 (by decide)).trans d95
       have d96 := ev_put hT7 (by omega)
       have szT7 := (sz_at hT7).trans szT6
       have HT7 := Lib.hid (show T6.put (some 96) (.slice A k1 c) = T7 from hT7)
       clear hT7 szT6
       refine wpAnyH_ready (rs := [6, 11]) (by kernel_rfl) (by simp) ?_
       refine (AllReadyH.cons rfl (fun K hK => ?_) (AllReadyH.cons rfl (fun K hK => ?_) AllReadyH.nil))
       ·
        skip
        have e91 := d91.trans (val_eq f)
        refine wp_callG rfl rfl enter_readF (vs := #[.agg #[.int .i64 f.k, .int .i64 f.s, .int .i64 f.l, .int .i64 f.h, .int .i64 f.t, .slice f.A f.ps.length f.c], .slice A k1 c, .int .i64 0]) (by simp only [List.map_toArray, List.map_cons, List.map_nil, e91, d96]; rfl) ((CP14.out _ G.out).mono ?_)
        rintro e x7 ⟨v, rfl, hv, hnf, g, hhi⟩
        refine ⟨_, rfl, hK.out _ _ (SF.out.grew g (by simp)) (fun _ => ?_)⟩
        clear hK K
        have fr0 := fr_of g (F := fun _ => False)
        have nG := Lib.hid (grew_trans G.out g)
        have nSF := Lib.hid (SF.out.grew g (by simp))
        clear fr0
        clear G
        clear SF
        have G := nG
        have SF := nSF
        clear nG nSF
        have CV := Lib.hid (show v.In x7 ∧ v.nf = R3.v from ⟨hv, hnf⟩)
        clear hv hnf g hhi
        clear e91
        refine act_letter (fun T9 hT9 => ?_)
        clear d1 d3 d91 d92 d93 d94 d95 d96
        have d97 := ev_put hT9 (by omega)
        have szT9 := (sz_at hT9).trans szT7
        have HT9 := Lib.hid (show T7.put (some 97) (.tuple #[v.val, .int .i64 (R3.n : Int), .int .i64 R3.e]) = T9 from hT9)
        clear hT9 szT7
        refine wpAnyH_take (i := 7) (v := .tuple #[v.val, .int .i64 (R3.n : Int), .int .i64 R3.e]) rfl (by kernel_rfl) (by kernel_rfl) (by kernel_rfl) (fun _ _ _ h => h) (.inl ⟨rfl, fun w g => run_moveV rfl d97 w⟩) SF.out ?_
        refine act_letter (fun T10 hT10 => ?_)
        clear d97
        have d90 := ev_put hT10 (by omega)
        have szT10 := (sz_at hT10).trans szT9
        have HT10 := Lib.hid (show T9.put (some 90) (.tuple #[v.val, .int .i64 (R3.n : Int), .int .i64 R3.e]) = T10 from hT10)
        clear hT10 szT9
        refine wpAnyH_take (i := 8) (v := v.val) rfl (by kernel_rfl) (by kernel_rfl) (by kernel_rfl) (fun _ _ _ h => h) (.inl ⟨rfl, fun w g => run_ext30 rfl d90 w⟩) SF.out ?_
        refine act_letter (fun T11 hT11 => ?_)
        replace d90 := (ev_at hT11 (by decide)).trans d90
        have d98 := ev_put hT11 (by omega)
        have szT11 := (sz_at hT11).trans szT10
        have HT11 := Lib.hid (show T10.put (some 98) (v.val) = T11 from hT11)
        clear hT11 szT10
        refine wpAnyH_take (i := 9) (v := .int .i64 (R3.n : Int)) rfl (by kernel_rfl) (by kernel_rfl) (by kernel_rfl) (fun _ _ _ h => h) (.inl ⟨rfl, fun w g => run_ext31 rfl d90 w⟩) SF.out ?_
        refine act_letter (fun T12 hT12 => ?_)
        replace d90 := (ev_at hT12 (by decide)).trans d90
        replace d98 := (ev_at hT12 (by decide)).trans d98
        have d99 := ev_put hT12 (by omega)
        have szT12 := (sz_at hT12).trans szT11
        have HT12 := Lib.hid (show T11.put (some 99) (.int .i64 (R3.n : Int)) = T12 from hT12)
        clear hT12 szT11
        refine wpAnyH_take (i := 10) (v := .int .i64 R3.e) rfl (by kernel_rfl) (by kernel_rfl) (by kernel_rfl) (fun _ _ _ h => h) (.inl ⟨rfl, fun w g => run_ext32 rfl d90 w⟩) SF.out ?_
        refine act_letter (fun T13 hT13 => ?_)
        replace d90 := (ev_at hT13 (by decide)).trans d90
        replace d98 := (ev_at hT13 (by decide)).trans d98
        replace d99 := (ev_at hT13 (by decide)).trans d99
        have d100 := ev_put hT13 (by omega)
        have szT13 := (sz_at hT13).trans szT12
        have HT13 := Lib.hid (show T12.put (some 100) (.int .i64 R3.e) = T13 from hT13)
        clear hT13 szT12
        refine wpAnyH_ready (rs := [11]) (by kernel_rfl) (by simp) ?_
        refine (AllReadyH.cons rfl (fun K hK => ?_) AllReadyH.nil)
        refine wp_newVq rfl rfl (fun z x13 hz g hzl => hK.out _ _ (SF.out.grew g (by simp)) (fun _ => ?_))
        clear hK K
        have fr0 := fr_of g (F := fun _ => False)
        have nG := Lib.hid (grew_trans G.out g)
        have nSF := Lib.hid (SF.out.grew g (by simp))
        have nCV := Lib.hid (show v.In _ ∧ v.nf = R3.v from ⟨CV.out.1.grew g, CV.out.2⟩)
        clear fr0
        have ZL := Lib.hid (show W8.heap.size ≤ z from Nat.le_trans G.out.size hzl)
        have VO := Lib.hid (CV.out.1.offn (F := fun i => i = z) (fun i e => by subst e; exact hzl))
        clear G
        clear SF
        clear CV
        have G := nG
        have SF := nSF
        have CV := nCV
        clear nG nSF nCV
        have ZV := Lib.hid hz
        clear hz g hzl
        refine act_letter (fun T15 hT15 => ?_)
        replace d98 := (ev_at hT15 (by decide)).trans d98
        replace d99 := (ev_at hT15 (by decide)).trans d99
        replace d100 := (ev_at hT15 (by decide)).trans d100
        clear d90
        have d15 := ev_put hT15 (by omega)
        have szT15 := (sz_at hT15).trans szT13
        have HT15 := Lib.hid (show T13.put (some 15) (.pointer (some ⟨z, 0, none⟩)) = T15 from hT15)
        clear hT15 szT13
        refine wpAnyH_ready (rs := [12]) (by kernel_rfl) (by simp) ?_
        refine AllReadyH.cons rfl (fun K hK => ?_) AllReadyH.nil
        have nSF := Lib.hid (show Whole (putV x13 z v) q f.cells 24 from SF.out.fr (fr_put3 _ _ _ _ _) (fun e => Whole.ne SF.out ZV.out (by decide) e))
        have nCV := Lib.hid (show v.In (putV x13 z v) ∧ v.nf = R3.v from ⟨In.fr2 CV.out.1 (fr_put3 _ _ _ _ _) VO.out, CV.out.2⟩)
        have nG := Lib.hid (show Grew W8 (putV x13 z v) none from grew_put3 G.out ZL.out _ _ _)
        have nZV := Lib.hid (show Whole (putV x13 z v) z v.cells 35 from ZV.out.put3 _ _ _)
        refine wp_skipG rfl (w' := putV x13 z v) (run_storeVa rfl d15 d98 ZV.out) (hK.out _ _ nSF.out (fun _ => ?_))
        clear hK K
        clear SF
        clear CV
        clear G
        clear ZV
        have SF := nSF
        have CV := nCV
        have G := nG
        have ZV := nZV
        clear nSF nCV nG nZV
        refine act_letter (fun T16 hT16 => ?_)
        replace d98 : T16.eval (.tmp 98) = v.val := by rw [← hT16]; exact d98
        replace d99 : T16.eval (.tmp 99) = .int .i64 (R3.n : Int) := by rw [← hT16]; exact d99
        replace d100 : T16.eval (.tmp 100) = .int .i64 R3.e := by rw [← hT16]; exact d100
        replace d15 : T16.eval (.tmp 15) = .pointer (some ⟨z, 0, none⟩) := by rw [← hT16]; exact d15
        have szT16 : T16.tmps.size = 109 := by rw [← hT16]; exact szT15
        have HT16 := Lib.hid (show T15 = T16 from hT16)
        clear hT16 szT15
        refine wpAnyH_take (i := 13) (v := .int .i64 (R3.n : Int)) rfl (by kernel_rfl) (by kernel_rfl) (by kernel_rfl) (fun _ _ _ h => h) (.inl ⟨rfl, fun w g => run_assign rfl d99 w⟩) SF.out ?_
        refine act_letter (fun T17 hT17 => ?_)
        replace d99 := (ev_at hT17 (by decide)).trans d99
        replace d100 := (ev_at hT17 (by decide)).trans d100
        clear d98 d15
        have d16 := ev_put hT17 (by omega)
        have szT17 := (sz_at hT17).trans szT16
        have HT17 := Lib.hid (show T16.put (some 16) (.int .i64 (R3.n : Int)) = T17 from hT17)
        clear hT17 szT16
        refine wpAnyH_take (i := 14) (v := .int .i64 R3.e) rfl (by kernel_rfl) (by kernel_rfl) (by kernel_rfl) (fun _ _ _ h => h) (.inl ⟨rfl, fun w g => run_assign rfl d100 w⟩) SF.out ?_
        refine act_letter (fun T18 hT18 => ?_)
        replace d99 := (ev_at hT18 (by decide)).trans d99
        replace d100 := (ev_at hT18 (by decide)).trans d100
        replace d16 := (ev_at hT18 (by decide)).trans d16
        have d17 := ev_put hT18 (by omega)
        have szT18 := (sz_at hT18).trans szT17
        have HT18 := Lib.hid (show T17.put (some 17) (.int .i64 R3.e) = T18 from hT18)
        clear hT18 szT17
        refine wpAnyH_done (by kernel_rfl) ?_ _
        refine ⟨v, z, ?_, CV.out.1, CV.out.2, ZV.out, G.out⟩
        rw [← HT18.out, ← HT17.out, ← HT16.out, ← HT15.out, ← HT13.out, ← HT12.out, ← HT11.out, ← HT10.out, ← HT9.out, ← HT7.out, ← HT6.out, ← HT5.out, ← HT4.out, ← HT3.out, ← HT2.out, ← HT1.out]
        try simp only [Act.put, List.setIfInBounds_toArray, List.set_cons_zero, List.set_cons_succ]
       ·
        skip
        refine wp_newVq rfl rfl (fun z x18 hz g hzl => hK.out _ _ (SF.out.grew g (by simp)) (fun _ => ?_))
        clear hK K
        have fr0 := fr_of g (F := fun _ => False)
        have nG := Lib.hid (grew_trans G.out g)
        have nSF := Lib.hid (SF.out.grew g (by simp))
        clear fr0
        have ZL := Lib.hid (show W8.heap.size ≤ z from Nat.le_trans G.out.size hzl)
        clear G
        clear SF
        have G := nG
        have SF := nSF
        clear nG nSF
        have ZV := Lib.hid hz
        clear hz g hzl
        refine act_letter (fun T20 hT20 => ?_)
        replace d91 := (ev_at hT20 (by decide)).trans d91
        replace d96 := (ev_at hT20 (by decide)).trans d96
        clear d1 d3 d92 d93 d94 d95
        have d15 := ev_put hT20 (by omega)
        have szT20 := (sz_at hT20).trans szT7
        have HT20 := Lib.hid (show T7.put (some 15) (.pointer (some ⟨z, 0, none⟩)) = T20 from hT20)
        clear hT20 szT7
        refine wpAnyH_ready (rs := [6]) (by kernel_rfl) (by simp) ?_
        refine (AllReadyH.cons rfl (fun K hK => ?_) AllReadyH.nil)
        have e91 := d91.trans (val_eq f)
        refine wp_callG rfl rfl enter_readF (vs := #[.agg #[.int .i64 f.k, .int .i64 f.s, .int .i64 f.l, .int .i64 f.h, .int .i64 f.t, .slice f.A f.ps.length f.c], .slice A k1 c, .int .i64 0]) (by simp only [List.map_toArray, List.map_cons, List.map_nil, e91, d96]; rfl) ((CP14.out _ G.out).mono ?_)
        rintro e x20 ⟨v, rfl, hv, hnf, g, hhi⟩
        have VO := Lib.hid (hhi.offn (F := fun i => i = z) (fun i e => by subst e; exact ZV.out.lt))
        refine ⟨_, rfl, hK.out _ _ (SF.out.grew g (by simp)) (fun _ => ?_)⟩
        clear hK K
        have fr0 := fr_of g (F := fun _ => False)
        have nG := Lib.hid (grew_trans G.out g)
        have nSF := Lib.hid (SF.out.grew g (by simp))
        have nZV := Lib.hid (ZV.out.grew g (by simp))
        clear fr0
        clear G
        clear SF
        clear ZV
        have G := nG
        have SF := nSF
        have ZV := nZV
        clear nG nSF nZV
        have CV := Lib.hid (show v.In x20 ∧ v.nf = R3.v from ⟨hv, hnf⟩)
        clear hv hnf g hhi
        clear e91
        refine act_letter (fun T22 hT22 => ?_)
        replace d15 := (ev_at hT22 (by decide)).trans d15
        clear d91 d96
        have d97 := ev_put hT22 (by omega)
        have szT22 := (sz_at hT22).trans szT20
        have HT22 := Lib.hid (show T20.put (some 97) (.tuple #[v.val, .int .i64 (R3.n : Int), .int .i64 R3.e]) = T22 from hT22)
        clear hT22 szT20
        refine wpAnyH_take (i := 7) (v := .tuple #[v.val, .int .i64 (R3.n : Int), .int .i64 R3.e]) rfl (by kernel_rfl) (by kernel_rfl) (by kernel_rfl) (fun _ _ _ h => h) (.inl ⟨rfl, fun w g => run_moveV rfl d97 w⟩) SF.out ?_
        refine act_letter (fun T23 hT23 => ?_)
        replace d15 := (ev_at hT23 (by decide)).trans d15
        clear d97
        have d90 := ev_put hT23 (by omega)
        have szT23 := (sz_at hT23).trans szT22
        have HT23 := Lib.hid (show T22.put (some 90) (.tuple #[v.val, .int .i64 (R3.n : Int), .int .i64 R3.e]) = T23 from hT23)
        clear hT23 szT22
        refine wpAnyH_take (i := 8) (v := v.val) rfl (by kernel_rfl) (by kernel_rfl) (by kernel_rfl) (fun _ _ _ h => h) (.inl ⟨rfl, fun w g => run_ext30 rfl d90 w⟩) SF.out ?_
        refine act_letter (fun T24 hT24 => ?_)
        replace d15 := (ev_at hT24 (by decide)).trans d15
        replace d90 := (ev_at hT24 (by decide)).trans d90
        have d98 := ev_put hT24 (by omega)
        have szT24 := (sz_at hT24).trans szT23
        have HT24 := Lib.hid (show T23.put (some 98) (v.val) = T24 from hT24)
        clear hT24 szT23
        refine wpAnyH_take (i := 9) (v := .int .i64 (R3.n : Int)) rfl (by kernel_rfl) (by kernel_rfl) (by kernel_rfl) (fun _ _ _ h => h) (.inl ⟨rfl, fun w g => run_ext31 rfl d90 w⟩) SF.out ?_
        refine act_letter (fun T25 hT25 => ?_)
        replace d15 := (ev_at hT25 (by decide)).trans d15
        replace d90 := (ev_at hT25 (by decide)).trans d90
        replace d98 := (ev_at hT25 (by decide)).trans d98
        have d99 := ev_put hT25 (by omega)
        have szT25 := (sz_at hT25).trans szT24
        have HT25 := Lib.hid (show T24.put (some 99) (.int .i64 (R3.n : Int)) = T25 from hT25)
        clear hT25 szT24
        refine wpAnyH_take (i := 10) (v := .int .i64 R3.e) rfl (by kernel_rfl) (by kernel_rfl) (by kernel_rfl) (fun _ _ _ h => h) (.inl ⟨rfl, fun w g => run_ext32 rfl d90 w⟩) SF.out ?_
        refine act_letter (fun T26 hT26 => ?_)
        replace d15 := (ev_at hT26 (by decide)).trans d15
        replace d90 := (ev_at hT26 (by decide)).trans d90
        replace d98 := (ev_at hT26 (by decide)).trans d98
        replace d99 := (ev_at hT26 (by decide)).trans d99
        have d100 := ev_put hT26 (by omega)
        have szT26 := (sz_at hT26).trans szT25
        have HT26 := Lib.hid (show T25.put (some 100) (.int .i64 R3.e) = T26 from hT26)
        clear hT26 szT25
        refine wpAnyH_ready (rs := [12]) (by kernel_rfl) (by simp) ?_
        refine AllReadyH.cons rfl (fun K hK => ?_) AllReadyH.nil
        have nSF := Lib.hid (show Whole (putV x20 z v) q f.cells 24 from SF.out.fr (fr_put3 _ _ _ _ _) (fun e => Whole.ne SF.out ZV.out (by decide) e))
        have nCV := Lib.hid (show v.In (putV x20 z v) ∧ v.nf = R3.v from ⟨In.fr2 CV.out.1 (fr_put3 _ _ _ _ _) VO.out, CV.out.2⟩)
        have nG := Lib.hid (show Grew W8 (putV x20 z v) none from grew_put3 G.out ZL.out _ _ _)
        have nZV := Lib.hid (show Whole (putV x20 z v) z v.cells 35 from ZV.out.put3 _ _ _)
        refine wp_skipG rfl (w' := putV x20 z v) (run_storeVa rfl d15 d98 ZV.out) (hK.out _ _ nSF.out (fun _ => ?_))
        clear hK K
        clear SF
        clear CV
        clear G
        clear ZV
        have SF := nSF
        have CV := nCV
        have G := nG
        have ZV := nZV
        clear nSF nCV nG nZV
        refine act_letter (fun T27 hT27 => ?_)
        replace d15 : T27.eval (.tmp 15) = .pointer (some ⟨z, 0, none⟩) := by rw [← hT27]; exact d15
        replace d90 : T27.eval (.tmp 90) = .tuple #[v.val, .int .i64 (R3.n : Int), .int .i64 R3.e] := by rw [← hT27]; exact d90
        replace d98 : T27.eval (.tmp 98) = v.val := by rw [← hT27]; exact d98
        replace d99 : T27.eval (.tmp 99) = .int .i64 (R3.n : Int) := by rw [← hT27]; exact d99
        replace d100 : T27.eval (.tmp 100) = .int .i64 R3.e := by rw [← hT27]; exact d100
        have szT27 : T27.tmps.size = 109 := by rw [← hT27]; exact szT26
        have HT27 := Lib.hid (show T26 = T27 from hT27)
        clear hT27 szT26
        refine wpAnyH_take (i := 13) (v := .int .i64 (R3.n : Int)) rfl (by kernel_rfl) (by kernel_rfl) (by kernel_rfl) (fun _ _ _ h => h) (.inl ⟨rfl, fun w g => run_assign rfl d99 w⟩) SF.out ?_
        refine act_letter (fun T28 hT28 => ?_)
        replace d99 := (ev_at hT28 (by decide)).trans d99
        replace d100 := (ev_at hT28 (by decide)).trans d100
        clear d15 d90 d98
        have d16 := ev_put hT28 (by omega)
        have szT28 := (sz_at hT28).trans szT27
        have HT28 := Lib.hid (show T27.put (some 16) (.int .i64 (R3.n : Int)) = T28 from hT28)
        clear hT28 szT27
        refine wpAnyH_take (i := 14) (v := .int .i64 R3.e) rfl (by kernel_rfl) (by kernel_rfl) (by kernel_rfl) (fun _ _ _ h => h) (.inl ⟨rfl, fun w g => run_assign rfl d100 w⟩) SF.out ?_
        refine act_letter (fun T29 hT29 => ?_)
        replace d99 := (ev_at hT29 (by decide)).trans d99
        replace d100 := (ev_at hT29 (by decide)).trans d100
        replace d16 := (ev_at hT29 (by decide)).trans d16
        have d17 := ev_put hT29 (by omega)
        have szT29 := (sz_at hT29).trans szT28
        have HT29 := Lib.hid (show T28.put (some 17) (.int .i64 R3.e) = T29 from hT29)
        clear hT29 szT28
        refine wpAnyH_done (by kernel_rfl) ?_ _
        refine ⟨v, z, ?_, CV.out.1, CV.out.2, ZV.out, G.out⟩
        rw [← HT29.out, ← HT28.out, ← HT27.out, ← HT26.out, ← HT25.out, ← HT24.out, ← HT23.out, ← HT22.out, ← HT20.out, ← HT7.out, ← HT6.out, ← HT5.out, ← HT4.out, ← HT3.out, ← HT2.out, ← HT1.out]
        try simp only [Act.put, List.setIfInBounds_toArray, List.set_cons_zero, List.set_cons_succ]
    ·
     have hb2 : (R2.e == 0) = false := by simpa using hE2
     clear hE2 m0 m1 m2 k0 kk1 k2 CS NS
     generalize R2.e = E2 at *
     generalize Y = W8 at *
     by_cases hz0 : xs.length = 0
     ·
      have hz1 : ((xs.length : Int) == 0) = true := by simp [hz0]
      go_wp2_with fail
      go_ret
      exact ⟨rfl, grew_below HG8.out (Nat.le_refl _) (fun _ h => by cases h)⟩
     ·
      have hz1 : ((xs.length : Int) == 0) = false := by rw [beq_eq_false_iff_ne]; omega
      have HL0 := Lib.hid (show 0 < xs.length by omega)
      have HLX := Lib.hid (show xs.length ≤ 140737488355328 by have := HX.out; omega)
      have HKC := Lib.hid (show k1 ≤ c by have := HK1.out; have := HL.out; omega)
      have CP14 := Lib.hid (fun X (g : Grew W8 X none) => C3.out X (grew_trans HG8.out g) HX.out)
      clear hz0
      go_upto_region 14 with (fail)
      refine act_letterC (fun T1 hT1 => ?_)
      have d1 : T1.eval (.tmp 1) = .slice A xs.length c := by rw [← hT1]; rfl
      have d3 : T1.eval (.tmp 3) = .pointer (some ⟨q, 0, none⟩) := by rw [← hT1]; rfl
      have szT1 : T1.tmps.size = 109 := by rw [← hT1]; rfl
      have HT1 := Lib.hid hT1
      clear hT1
      have G := Lib.hid (show Grew W8 (World.drew W8) none from grew_drew (grew_refl _ none))
      have SF := Lib.hid (show Whole (World.drew W8) q f.cells 24 from HW8.out)
      refine Code.wp_mono (Q := RegEnd (fun a' w' => ∃ (v : Va) (z : Nat), a' = ((((((((((((((T1.put (some 91) (f.val)).put (some 92) (.slice A xs.length c)).put (some 93) (.slice A xs.length c)).put (some 94) (.int .i64 (xs.length : Int))).put (some 95) (.int .i64 (k1 : Int))).put (some 96) (.slice A k1 c)).put (some 97) (.tuple #[v.val, .int .i64 (R3.n : Int), .int .i64 R3.e])).put (some 90) (.tuple #[v.val, .int .i64 (R3.n : Int), .int .i64 R3.e])).put (some 98) (v.val)).put (some 99) (.int .i64 (R3.n : Int))).put (some 100) (.int .i64 R3.e)).put (some 15) (.pointer (some ⟨z, 0, none⟩))).put (some 16) (.int .i64 (R3.n : Int))).put (some 17) (.int .i64 R3.e)) ∧ v.In w' ∧ v.nf = R3.v ∧ Whole w' z v.cells 35 ∧ Grew W8 w' none)) (fun e a' Y hq => ?_) ?_
      ·
       obtain ⟨rfl, v3, z3, rfl, hv3, hnf3, hz3, hg3⟩ := hq.out
       rw [← HT1.out]
       simp only [Act.put, List.setIfInBounds_toArray, List.set_cons_zero, List.set_cons_succ]
       clear d1 d3 szT1 G SF HT1 hq
       have HG9 := Lib.hid (grew_trans HG8.out hg3)
       obtain ⟨m0, m1, m2⟩ := (NV8.out.grew hg3 (by simp)).three
       obtain ⟨k0, kk1, k2⟩ := hz3.three
       have CS := Lib.hid (rsamev_any v1 v3 Y (HV8.out.1.grew hg3) hv3)
       have NS := Lib.hid (fun h => N3.out HX.out HL0.out HE.out h v1 v3 HV8.out.2 hnf3)
       rw [vval_eq, vval_eq] at CS
       clear hv3 hnf3 hz3 hg3 HG8 NV8 HV8 HW8 CP14 HKC
       by_cases hE3 : R3.e = 0
       ·
        have hns := NS.out hE3
        have HNS := Lib.hid hns
        clear hns
        have hb3 : (R3.e != 0) = false := by simpa using hE3
        clear hE3
        generalize R3.e = E3 at *
        go_wp2_with fail
        refine CS.out.mono ?_
        rintro e wz ⟨rfl, gz⟩
        rw [HNS.out]
        have HGA := Lib.hid (grew_trans HG9.out gz)
        clear gz m0 m1 m2 k0 kk1 k2 CS
        go_wp2_with fail
        go_ret
        exact ⟨by simp, grew_below HGA.out (Nat.le_refl _) (fun _ h => by cases h)⟩
       ·
        have hb3 : (R3.e != 0) = true := by simpa using hE3
        generalize R3.e = E3 at *
        go_wp2_with fail
        go_ret
        exact ⟨by simp, grew_below HG9.out (Nat.le_refl _) (fun _ h => by cases h)⟩
      ·
       skip
       refine wp_region_held (S := fun w' => Whole w' q f.cells 24) (by kernel_rfl) ?_
       change wpAnyH _ _ _ _ _ _ _ _ (World.drew W8)
       refine wpAnyH_take (i := 0) (v := f.val) rfl (by kernel_rfl) (by kernel_rfl) (by kernel_rfl) (fun _ _ _ h => h) (.inl ⟨rfl, fun w g => run_form rfl d3 g⟩) SF.out ?_
       refine act_letter (fun T2 hT2 => ?_)
       replace d1 := (ev_at hT2 (by decide)).trans d1
       replace d3 := (ev_at hT2 (by decide)).trans d3
       have d91 := ev_put hT2 (by omega)
       have szT2 := (sz_at hT2).trans szT1
       have HT2 := Lib.hid (show T1.put (some 91) (f.val) = T2 from hT2)
       clear hT2 szT1
       refine wpAnyH_take (i := 1) (v := .slice A xs.length c) rfl (by kernel_rfl) (by kernel_rfl) (by kernel_rfl) (fun _ _ _ h => h) (.inl ⟨rfl, fun w g => run_moveV rfl d1 w⟩) SF.out ?_
       refine act_letter (fun T3 hT3 => ?_)
       replace d1 := (ev_at hT3 (by decide)).trans d1
       replace d3 := (ev_at hT3 (by decide)).trans d3
       replace d91 := (ev_at hT3 (by decide)).trans d91
       have d92 := ev_put hT3 (by omega)
       have szT3 := (sz_at hT3).trans szT2
       have HT3 := Lib.hid (show T2.put (some 92) (.slice A xs.length c) = T3 from hT3)
       clear hT3 szT2
       refine wpAnyH_take (i := 2) (v := .slice A xs.length c) rfl (by kernel_rfl) (by kernel_rfl) (by kernel_rfl) (fun _ _ _ h => h) (.inl ⟨rfl, fun w g => run_moveV rfl d1 w⟩) SF.out ?_
       refine act_letter (fun T4 hT4 => ?_)
       replace d1 := (ev_at hT4 (by decide)).trans d1
       replace d3 := (ev_at hT4 (by decide)).trans d3
       replace d91 := (ev_at hT4 (by decide)).trans d91
       replace d92 := (ev_at hT4 (by decide)).trans d92
       have d93 := ev_put hT4 (by omega)
       have szT4 := (sz_at hT4).trans szT3
       have HT4 := Lib.hid (show T3.put (some 93) (.slice A xs.length c) = T4 from hT4)
       clear hT4 szT3
       refine wpAnyH_take (i := 3) (v := .int .i64 (xs.length : Int)) rfl (by kernel_rfl) (by kernel_rfl) (by kernel_rfl) (fun _ _ _ h => h) (.inl ⟨rfl, fun w g => run_len rfl d93 w⟩) SF.out ?_
       refine act_letter (fun T5 hT5 => ?_)
       replace d1 := (ev_at hT5 (by decide)).trans d1
       replace d3 := (ev_at hT5 (by decide)).trans d3
       replace d91 := (ev_at hT5 (by decide)).trans d91
       replace d92 := (ev_at hT5 (by decide)).trans d92
       replace d93 := (ev_at hT5 (by decide)).trans d93
       have d94 := ev_put hT5 (by omega)
       have szT5 := (sz_at hT5).trans szT4
       have HT5 := Lib.hid (show T4.put (some 94) (.int .i64 (xs.length : Int)) = T5 from hT5)
       clear hT5 szT4
       refine wpAnyH_take (i := 4) (v := .int .i64 (k1 : Int)) rfl (by kernel_rfl) (by kernel_rfl) (by kernel_rfl) (fun _ _ _ h => h) (.inl ⟨rfl, fun w g => (run_sub1 rfl d94 rfl HL0.out HLX.out w).trans (by rw [HK1.out])⟩) SF.out ?_
       refine act_letter (fun T6 hT6 => ?_)
       replace d1 := (ev_at hT6 (by decide)).trans d1
       replace d3 := (ev_at hT6 (by decide)).trans d3
       replace d91 := (ev_at hT6 (by decide)).trans d91
       replace d92 := (ev_at hT6 (by decide)).trans d92
       replace d93 := (ev_at hT6 (by decide)).trans d93
       replace d94 := (ev_at hT6 (by decide)).trans d94
       have d95 := ev_put hT6 (by omega)
       have szT6 := (sz_at hT6).trans szT5
       have HT6 := Lib.hid (show T5.put (some 95) (.int .i64 (k1 : Int)) = T6 from hT6)
       clear hT6 szT5
       refine wpAnyH_take (i := 5) (v := .slice A k1 c) rfl (by kernel_rfl) (by kernel_rfl) (by kernel_rfl) (fun _ _ _ h => h) (.inl ⟨rfl, fun w g => run_sliceB rfl d92 d95 HKC.out w⟩) SF.out ?_
       refine act_letter (fun T7 hT7 => ?_)
       replace d1 := (ev_at hT7 (by decide)).trans d1
       replace d3 := (ev_at hT7 (by decide)).trans d3
       replace d91 := (ev_at hT7 (by decide)).trans d91
       replace d92 := (ev_at hT7 (by decide)).trans d92
       replace d93 := (ev_at hT7 (by decide)).trans d93
       replace d94 := (ev_at hT7 (by decide)).trans d94
       replace d95 := (ev_at hT7 (by decide)).trans d95
       have d96 := ev_put hT7 (by omega)
       have szT7 := (sz_at hT7).trans szT6
       have HT7 := Lib.hid (show T6.put (some 96) (.slice A k1 c) = T7 from hT7)
       clear hT7 szT6
       refine wpAnyH_ready (rs := [6, 11]) (by kernel_rfl) (by simp) ?_
       refine (AllReadyH.cons rfl (fun K hK => ?_) (AllReadyH.cons rfl (fun K hK => ?_) AllReadyH.nil))
       ·
        skip
        have e91 := d91.trans (val_eq f)
        refine wp_callG rfl rfl enter_readF (vs := #[.agg #[.int .i64 f.k, .int .i64 f.s, .int .i64 f.l, .int .i64 f.h, .int .i64 f.t, .slice f.A f.ps.length f.c], .slice A k1 c, .int .i64 0]) (by simp only [List.map_toArray, List.map_cons, List.map_nil, e91, d96]; rfl) ((CP14.out _ G.out).mono ?_)
        rintro e x7 ⟨v, rfl, hv, hnf, g, hhi⟩
        refine ⟨_, rfl, hK.out _ _ (SF.out.grew g (by simp)) (fun _ => ?_)⟩
        clear hK K
        have fr0 := fr_of g (F := fun _ => False)
        have nG := Lib.hid (grew_trans G.out g)
        have nSF := Lib.hid (SF.out.grew g (by simp))
        clear fr0
        clear G
        clear SF
        have G := nG
        have SF := nSF
        clear nG nSF
        have CV := Lib.hid (show v.In x7 ∧ v.nf = R3.v from ⟨hv, hnf⟩)
        clear hv hnf g hhi
        clear e91
        refine act_letter (fun T9 hT9 => ?_)
        clear d1 d3 d91 d92 d93 d94 d95 d96
        have d97 := ev_put hT9 (by omega)
        have szT9 := (sz_at hT9).trans szT7
        have HT9 := Lib.hid (show T7.put (some 97) (.tuple #[v.val, .int .i64 (R3.n : Int), .int .i64 R3.e]) = T9 from hT9)
        clear hT9 szT7
        refine wpAnyH_take (i := 7) (v := .tuple #[v.val, .int .i64 (R3.n : Int), .int .i64 R3.e]) rfl (by kernel_rfl) (by kernel_rfl) (by kernel_rfl) (fun _ _ _ h => h) (.inl ⟨rfl, fun w g => run_moveV rfl d97 w⟩) SF.out ?_
        refine act_letter (fun T10 hT10 => ?_)
        clear d97
        have d90 := ev_put hT10 (by omega)
        have szT10 := (sz_at hT10).trans szT9
        have HT10 := Lib.hid (show T9.put (some 90) (.tuple #[v.val, .int .i64 (R3.n : Int), .int .i64 R3.e]) = T10 from hT10)
        clear hT10 szT9
        refine wpAnyH_take (i := 8) (v := v.val) rfl (by kernel_rfl) (by kernel_rfl) (by kernel_rfl) (fun _ _ _ h => h) (.inl ⟨rfl, fun w g => run_ext30 rfl d90 w⟩) SF.out ?_
        refine act_letter (fun T11 hT11 => ?_)
        replace d90 := (ev_at hT11 (by decide)).trans d90
        have d98 := ev_put hT11 (by omega)
        have szT11 := (sz_at hT11).trans szT10
        have HT11 := Lib.hid (show T10.put (some 98) (v.val) = T11 from hT11)
        clear hT11 szT10
        refine wpAnyH_take (i := 9) (v := .int .i64 (R3.n : Int)) rfl (by kernel_rfl) (by kernel_rfl) (by kernel_rfl) (fun _ _ _ h => h) (.inl ⟨rfl, fun w g => run_ext31 rfl d90 w⟩) SF.out ?_
        refine act_letter (fun T12 hT12 => ?_)
        replace d90 := (ev_at hT12 (by decide)).trans d90
        replace d98 := (ev_at hT12 (by decide)).trans d98
        have d99 := ev_put hT12 (by omega)
        have szT12 := (sz_at hT12).trans szT11
        have HT12 := Lib.hid (show T11.put (some 99) (.int .i64 (R3.n : Int)) = T12 from hT12)
        clear hT12 szT11
        refine wpAnyH_take (i := 10) (v := .int .i64 R3.e) rfl (by kernel_rfl) (by kernel_rfl) (by kernel_rfl) (fun _ _ _ h => h) (.inl ⟨rfl, fun w g => run_ext32 rfl d90 w⟩) SF.out ?_
        refine act_letter (fun T13 hT13 => ?_)
        replace d90 := (ev_at hT13 (by decide)).trans d90
        replace d98 := (ev_at hT13 (by decide)).trans d98
        replace d99 := (ev_at hT13 (by decide)).trans d99
        have d100 := ev_put hT13 (by omega)
        have szT13 := (sz_at hT13).trans szT12
        have HT13 := Lib.hid (show T12.put (some 100) (.int .i64 R3.e) = T13 from hT13)
        clear hT13 szT12
        refine wpAnyH_ready (rs := [11]) (by kernel_rfl) (by simp) ?_
        refine (AllReadyH.cons rfl (fun K hK => ?_) AllReadyH.nil)
        refine wp_newVq rfl rfl (fun z x13 hz g hzl => hK.out _ _ (SF.out.grew g (by simp)) (fun _ => ?_))
        clear hK K
        have fr0 := fr_of g (F := fun _ => False)
        have nG := Lib.hid (grew_trans G.out g)
        have nSF := Lib.hid (SF.out.grew g (by simp))
        have nCV := Lib.hid (show v.In _ ∧ v.nf = R3.v from ⟨CV.out.1.grew g, CV.out.2⟩)
        clear fr0
        have ZL := Lib.hid (show W8.heap.size ≤ z from Nat.le_trans G.out.size hzl)
        have VO := Lib.hid (CV.out.1.offn (F := fun i => i = z) (fun i e => by subst e; exact hzl))
        clear G
        clear SF
        clear CV
        have G := nG
        have SF := nSF
        have CV := nCV
        clear nG nSF nCV
        have ZV := Lib.hid hz
        clear hz g hzl
        refine act_letter (fun T15 hT15 => ?_)
        replace d98 := (ev_at hT15 (by decide)).trans d98
        replace d99 := (ev_at hT15 (by decide)).trans d99
        replace d100 := (ev_at hT15 (by decide)).trans d100
        clear d90
        have d15 := ev_put hT15 (by omega)
        have szT15 := (sz_at hT15).trans szT13
        have HT15 := Lib.hid (show T13.put (some 15) (.pointer (some ⟨z, 0, none⟩)) = T15 from hT15)
        clear hT15 szT13
        refine wpAnyH_ready (rs := [12]) (by kernel_rfl) (by simp) ?_
        refine AllReadyH.cons rfl (fun K hK => ?_) AllReadyH.nil
        have nSF := Lib.hid (show Whole (putV x13 z v) q f.cells 24 from SF.out.fr (fr_put3 _ _ _ _ _) (fun e => Whole.ne SF.out ZV.out (by decide) e))
        have nCV := Lib.hid (show v.In (putV x13 z v) ∧ v.nf = R3.v from ⟨In.fr2 CV.out.1 (fr_put3 _ _ _ _ _) VO.out, CV.out.2⟩)
        have nG := Lib.hid (show Grew W8 (putV x13 z v) none from grew_put3 G.out ZL.out _ _ _)
        have nZV := Lib.hid (show Whole (putV x13 z v) z v.cells 35 from ZV.out.put3 _ _ _)
        refine wp_skipG rfl (w' := putV x13 z v) (run_storeVa rfl d15 d98 ZV.out) (hK.out _ _ nSF.out (fun _ => ?_))
        clear hK K
        clear SF
        clear CV
        clear G
        clear ZV
        have SF := nSF
        have CV := nCV
        have G := nG
        have ZV := nZV
        clear nSF nCV nG nZV
        refine act_letter (fun T16 hT16 => ?_)
        replace d98 : T16.eval (.tmp 98) = v.val := by rw [← hT16]; exact d98
        replace d99 : T16.eval (.tmp 99) = .int .i64 (R3.n : Int) := by rw [← hT16]; exact d99
        replace d100 : T16.eval (.tmp 100) = .int .i64 R3.e := by rw [← hT16]; exact d100
        replace d15 : T16.eval (.tmp 15) = .pointer (some ⟨z, 0, none⟩) := by rw [← hT16]; exact d15
        have szT16 : T16.tmps.size = 109 := by rw [← hT16]; exact szT15
        have HT16 := Lib.hid (show T15 = T16 from hT16)
        clear hT16 szT15
        refine wpAnyH_take (i := 13) (v := .int .i64 (R3.n : Int)) rfl (by kernel_rfl) (by kernel_rfl) (by kernel_rfl) (fun _ _ _ h => h) (.inl ⟨rfl, fun w g => run_assign rfl d99 w⟩) SF.out ?_
        refine act_letter (fun T17 hT17 => ?_)
        replace d99 := (ev_at hT17 (by decide)).trans d99
        replace d100 := (ev_at hT17 (by decide)).trans d100
        clear d98 d15
        have d16 := ev_put hT17 (by omega)
        have szT17 := (sz_at hT17).trans szT16
        have HT17 := Lib.hid (show T16.put (some 16) (.int .i64 (R3.n : Int)) = T17 from hT17)
        clear hT17 szT16
        refine wpAnyH_take (i := 14) (v := .int .i64 R3.e) rfl (by kernel_rfl) (by kernel_rfl) (by kernel_rfl) (fun _ _ _ h => h) (.inl ⟨rfl, fun w g => run_assign rfl d100 w⟩) SF.out ?_
        refine act_letter (fun T18 hT18 => ?_)
        replace d99 := (ev_at hT18 (by decide)).trans d99
        replace d100 := (ev_at hT18 (by decide)).trans d100
        replace d16 := (ev_at hT18 (by decide)).trans d16
        have d17 := ev_put hT18 (by omega)
        have szT18 := (sz_at hT18).trans szT17
        have HT18 := Lib.hid (show T17.put (some 17) (.int .i64 R3.e) = T18 from hT18)
        clear hT18 szT17
        refine wpAnyH_done (by kernel_rfl) ?_ _
        refine ⟨v, z, ?_, CV.out.1, CV.out.2, ZV.out, G.out⟩
        rw [← HT18.out, ← HT17.out, ← HT16.out, ← HT15.out, ← HT13.out, ← HT12.out, ← HT11.out, ← HT10.out, ← HT9.out, ← HT7.out, ← HT6.out, ← HT5.out, ← HT4.out, ← HT3.out, ← HT2.out, ← HT1.out]
        try simp only [Act.put, List.setIfInBounds_toArray, List.set_cons_zero, List.set_cons_succ]
       ·
        skip
        refine wp_newVq rfl rfl (fun z x18 hz g hzl => hK.out _ _ (SF.out.grew g (by simp)) (fun _ => ?_))
        clear hK K
        have fr0 := fr_of g (F := fun _ => False)
        have nG := Lib.hid (grew_trans G.out g)
        have nSF := Lib.hid (SF.out.grew g (by simp))
        clear fr0
        have ZL := Lib.hid (show W8.heap.size ≤ z from Nat.le_trans G.out.size hzl)
        clear G
        clear SF
        have G := nG
        have SF := nSF
        clear nG nSF
        have ZV := Lib.hid hz
        clear hz g hzl
        refine act_letter (fun T20 hT20 => ?_)
        replace d91 := (ev_at hT20 (by decide)).trans d91
        replace d96 := (ev_at hT20 (by decide)).trans d96
        clear d1 d3 d92 d93 d94 d95
        have d15 := ev_put hT20 (by omega)
        have szT20 := (sz_at hT20).trans szT7
        have HT20 := Lib.hid (show T7.put (some 15) (.pointer (some ⟨z, 0, none⟩)) = T20 from hT20)
        clear hT20 szT7
        refine wpAnyH_ready (rs := [6]) (by kernel_rfl) (by simp) ?_
        refine (AllReadyH.cons rfl (fun K hK => ?_) AllReadyH.nil)
        have e91 := d91.trans (val_eq f)
        refine wp_callG rfl rfl enter_readF (vs := #[.agg #[.int .i64 f.k, .int .i64 f.s, .int .i64 f.l, .int .i64 f.h, .int .i64 f.t, .slice f.A f.ps.length f.c], .slice A k1 c, .int .i64 0]) (by simp only [List.map_toArray, List.map_cons, List.map_nil, e91, d96]; rfl) ((CP14.out _ G.out).mono ?_)
        rintro e x20 ⟨v, rfl, hv, hnf, g, hhi⟩
        have VO := Lib.hid (hhi.offn (F := fun i => i = z) (fun i e => by subst e; exact ZV.out.lt))
        refine ⟨_, rfl, hK.out _ _ (SF.out.grew g (by simp)) (fun _ => ?_)⟩
        clear hK K
        have fr0 := fr_of g (F := fun _ => False)
        have nG := Lib.hid (grew_trans G.out g)
        have nSF := Lib.hid (SF.out.grew g (by simp))
        have nZV := Lib.hid (ZV.out.grew g (by simp))
        clear fr0
        clear G
        clear SF
        clear ZV
        have G := nG
        have SF := nSF
        have ZV := nZV
        clear nG nSF nZV
        have CV := Lib.hid (show v.In x20 ∧ v.nf = R3.v from ⟨hv, hnf⟩)
        clear hv hnf g hhi
        clear e91
        refine act_letter (fun T22 hT22 => ?_)
        replace d15 := (ev_at hT22 (by decide)).trans d15
        clear d91 d96
        have d97 := ev_put hT22 (by omega)
        have szT22 := (sz_at hT22).trans szT20
        have HT22 := Lib.hid (show T20.put (some 97) (.tuple #[v.val, .int .i64 (R3.n : Int), .int .i64 R3.e]) = T22 from hT22)
        clear hT22 szT20
        refine wpAnyH_take (i := 7) (v := .tuple #[v.val, .int .i64 (R3.n : Int), .int .i64 R3.e]) rfl (by kernel_rfl) (by kernel_rfl) (by kernel_rfl) (fun _ _ _ h => h) (.inl ⟨rfl, fun w g => run_moveV rfl d97 w⟩) SF.out ?_
        refine act_letter (fun T23 hT23 => ?_)
        replace d15 := (ev_at hT23 (by decide)).trans d15
        clear d97
        have d90 := ev_put hT23 (by omega)
        have szT23 := (sz_at hT23).trans szT22
        have HT23 := Lib.hid (show T22.put (some 90) (.tuple #[v.val, .int .i64 (R3.n : Int), .int .i64 R3.e]) = T23 from hT23)
        clear hT23 szT22
        refine wpAnyH_take (i := 8) (v := v.val) rfl (by kernel_rfl) (by kernel_rfl) (by kernel_rfl) (fun _ _ _ h => h) (.inl ⟨rfl, fun w g => run_ext30 rfl d90 w⟩) SF.out ?_
        refine act_letter (fun T24 hT24 => ?_)
        replace d15 := (ev_at hT24 (by decide)).trans d15
        replace d90 := (ev_at hT24 (by decide)).trans d90
        have d98 := ev_put hT24 (by omega)
        have szT24 := (sz_at hT24).trans szT23
        have HT24 := Lib.hid (show T23.put (some 98) (v.val) = T24 from hT24)
        clear hT24 szT23
        refine wpAnyH_take (i := 9) (v := .int .i64 (R3.n : Int)) rfl (by kernel_rfl) (by kernel_rfl) (by kernel_rfl) (fun _ _ _ h => h) (.inl ⟨rfl, fun w g => run_ext31 rfl d90 w⟩) SF.out ?_
        refine act_letter (fun T25 hT25 => ?_)
        replace d15 := (ev_at hT25 (by decide)).trans d15
        replace d90 := (ev_at hT25 (by decide)).trans d90
        replace d98 := (ev_at hT25 (by decide)).trans d98
        have d99 := ev_put hT25 (by omega)
        have szT25 := (sz_at hT25).trans szT24
        have HT25 := Lib.hid (show T24.put (some 99) (.int .i64 (R3.n : Int)) = T25 from hT25)
        clear hT25 szT24
        refine wpAnyH_take (i := 10) (v := .int .i64 R3.e) rfl (by kernel_rfl) (by kernel_rfl) (by kernel_rfl) (fun _ _ _ h => h) (.inl ⟨rfl, fun w g => run_ext32 rfl d90 w⟩) SF.out ?_
        refine act_letter (fun T26 hT26 => ?_)
        replace d15 := (ev_at hT26 (by decide)).trans d15
        replace d90 := (ev_at hT26 (by decide)).trans d90
        replace d98 := (ev_at hT26 (by decide)).trans d98
        replace d99 := (ev_at hT26 (by decide)).trans d99
        have d100 := ev_put hT26 (by omega)
        have szT26 := (sz_at hT26).trans szT25
        have HT26 := Lib.hid (show T25.put (some 100) (.int .i64 R3.e) = T26 from hT26)
        clear hT26 szT25
        refine wpAnyH_ready (rs := [12]) (by kernel_rfl) (by simp) ?_
        refine AllReadyH.cons rfl (fun K hK => ?_) AllReadyH.nil
        have nSF := Lib.hid (show Whole (putV x20 z v) q f.cells 24 from SF.out.fr (fr_put3 _ _ _ _ _) (fun e => Whole.ne SF.out ZV.out (by decide) e))
        have nCV := Lib.hid (show v.In (putV x20 z v) ∧ v.nf = R3.v from ⟨In.fr2 CV.out.1 (fr_put3 _ _ _ _ _) VO.out, CV.out.2⟩)
        have nG := Lib.hid (show Grew W8 (putV x20 z v) none from grew_put3 G.out ZL.out _ _ _)
        have nZV := Lib.hid (show Whole (putV x20 z v) z v.cells 35 from ZV.out.put3 _ _ _)
        refine wp_skipG rfl (w' := putV x20 z v) (run_storeVa rfl d15 d98 ZV.out) (hK.out _ _ nSF.out (fun _ => ?_))
        clear hK K
        clear SF
        clear CV
        clear G
        clear ZV
        have SF := nSF
        have CV := nCV
        have G := nG
        have ZV := nZV
        clear nSF nCV nG nZV
        refine act_letter (fun T27 hT27 => ?_)
        replace d15 : T27.eval (.tmp 15) = .pointer (some ⟨z, 0, none⟩) := by rw [← hT27]; exact d15
        replace d90 : T27.eval (.tmp 90) = .tuple #[v.val, .int .i64 (R3.n : Int), .int .i64 R3.e] := by rw [← hT27]; exact d90
        replace d98 : T27.eval (.tmp 98) = v.val := by rw [← hT27]; exact d98
        replace d99 : T27.eval (.tmp 99) = .int .i64 (R3.n : Int) := by rw [← hT27]; exact d99
        replace d100 : T27.eval (.tmp 100) = .int .i64 R3.e := by rw [← hT27]; exact d100
        have szT27 : T27.tmps.size = 109 := by rw [← hT27]; exact szT26
        have HT27 := Lib.hid (show T26 = T27 from hT27)
        clear hT27 szT26
        refine wpAnyH_take (i := 13) (v := .int .i64 (R3.n : Int)) rfl (by kernel_rfl) (by kernel_rfl) (by kernel_rfl) (fun _ _ _ h => h) (.inl ⟨rfl, fun w g => run_assign rfl d99 w⟩) SF.out ?_
        refine act_letter (fun T28 hT28 => ?_)
        replace d99 := (ev_at hT28 (by decide)).trans d99
        replace d100 := (ev_at hT28 (by decide)).trans d100
        clear d15 d90 d98
        have d16 := ev_put hT28 (by omega)
        have szT28 := (sz_at hT28).trans szT27
        have HT28 := Lib.hid (show T27.put (some 16) (.int .i64 (R3.n : Int)) = T28 from hT28)
        clear hT28 szT27
        refine wpAnyH_take (i := 14) (v := .int .i64 R3.e) rfl (by kernel_rfl) (by kernel_rfl) (by kernel_rfl) (fun _ _ _ h => h) (.inl ⟨rfl, fun w g => run_assign rfl d100 w⟩) SF.out ?_
        refine act_letter (fun T29 hT29 => ?_)
        replace d99 := (ev_at hT29 (by decide)).trans d99
        replace d100 := (ev_at hT29 (by decide)).trans d100
        replace d16 := (ev_at hT29 (by decide)).trans d16
        have d17 := ev_put hT29 (by omega)
        have szT29 := (sz_at hT29).trans szT28
        have HT29 := Lib.hid (show T28.put (some 17) (.int .i64 R3.e) = T29 from hT29)
        clear hT29 szT28
        refine wpAnyH_done (by kernel_rfl) ?_ _
        refine ⟨v, z, ?_, CV.out.1, CV.out.2, ZV.out, G.out⟩
        rw [← HT29.out, ← HT28.out, ← HT27.out, ← HT26.out, ← HT25.out, ← HT24.out, ← HT23.out, ← HT22.out, ← HT20.out, ← HT7.out, ← HT6.out, ← HT5.out, ← HT4.out, ← HT3.out, ← HT2.out, ← HT1.out]
        try simp only [Act.put, List.setIfInBounds_toArray, List.set_cons_zero, List.set_cons_succ]
   ·
    skip
    refine wp_region_held (S := fun w' => Whole w' q f.cells 24) (by kernel_rfl) ?_
    change wpAnyH _ _ _ _ _ _ _ _ (World.drew W6)
    refine wpAnyH_take (i := 0) (v := f.val) rfl (by kernel_rfl) (by kernel_rfl) (by kernel_rfl) (fun _ _ _ h => h) (.inl ⟨rfl, fun w g => run_form rfl d3 g⟩) SF.out ?_
    refine act_letter (fun T2 hT2 => ?_)
    replace d1 := (ev_at hT2 (by decide)).trans d1
    replace d2 := (ev_at hT2 (by decide)).trans d2
    replace d3 := (ev_at hT2 (by decide)).trans d3
    have d69 := ev_put hT2 (by omega)
    have szT2 := (sz_at hT2).trans szT1
    have HT2 := Lib.hid (show T1.put (some 69) (f.val) = T2 from hT2)
    clear hT2 szT1
    refine wpAnyH_take (i := 2) (v := .slice A xs.length c) rfl (by kernel_rfl) (by kernel_rfl) (by kernel_rfl) (fun _ _ _ h => h) (.inl ⟨rfl, fun w g => run_moveV rfl d1 w⟩) SF.out ?_
    refine act_letter (fun T3 hT3 => ?_)
    replace d1 := (ev_at hT3 (by decide)).trans d1
    replace d2 := (ev_at hT3 (by decide)).trans d2
    replace d3 := (ev_at hT3 (by decide)).trans d3
    replace d69 := (ev_at hT3 (by decide)).trans d69
    have d71 := ev_put hT3 (by omega)
    have szT3 := (sz_at hT3).trans szT2
    have HT3 := Lib.hid (show T2.put (some 71) (.slice A xs.length c) = T3 from hT3)
    clear hT3 szT2
    refine wpAnyH_take (i := 4) (v := .int .u8 (cb.toNat : Int)) rfl (by kernel_rfl) (by kernel_rfl) (by kernel_rfl) (fun _ _ _ h => h) (.inl ⟨rfl, fun w g => run_moveV rfl d2 w⟩) SF.out ?_
    refine act_letter (fun T4 hT4 => ?_)
    replace d1 := (ev_at hT4 (by decide)).trans d1
    replace d2 := (ev_at hT4 (by decide)).trans d2
    replace d3 := (ev_at hT4 (by decide)).trans d3
    replace d69 := (ev_at hT4 (by decide)).trans d69
    replace d71 := (ev_at hT4 (by decide)).trans d71
    have d73 := ev_put hT4 (by omega)
    have szT4 := (sz_at hT4).trans szT3
    have HT4 := Lib.hid (show T3.put (some 73) (.int .u8 (cb.toNat : Int)) = T4 from hT4)
    clear hT4 szT3
    refine wpAnyH_ready (rs := [1, 5, 12]) (by kernel_rfl) (by simp) ?_
    refine (AllReadyH.cons rfl (fun K hK => ?_) (AllReadyH.cons rfl (fun K hK => ?_) (AllReadyH.cons rfl (fun K hK => ?_) AllReadyH.nil)))
    ·
     skip
     refine wp_new0 rfl rfl (fun V0 x4 hz g hzl => hK.out _ _ (SF.out.grew g (by simp)) (fun _ => ?_))
     clear hK K
     have fr0 := fr_of g (F := fun _ => False)
     have nG := Lib.hid (grew_trans G.out g)
     have nSF := Lib.hid (SF.out.grew g (by simp))
     clear fr0
     have OB := Lib.hid (show ∀ b, V0.ownBlock = some b → W6.heap.size ≤ b from fun b hb => Nat.le_trans G.out.size (hzl b hb))
     clear G
     clear SF
     have G := nG
     have SF := nSF
     clear nG nSF
     have OW := Lib.hid hz
     clear hz g hzl
     refine act_letter (fun T6 hT6 => ?_)
     replace d69 := (ev_at hT6 (by decide)).trans d69
     replace d71 := (ev_at hT6 (by decide)).trans d71
     replace d73 := (ev_at hT6 (by decide)).trans d73
     clear d1 d2 d3
     have d70 := ev_put hT6 (by omega)
     have szT6 := (sz_at hT6).trans szT4
     have HT6 := Lib.hid (show T4.put (some 70) (V0) = T6 from hT6)
     clear hT6 szT4
     refine wpAnyH_ready (rs := [3, 5, 12]) (by kernel_rfl) (by simp) ?_
     refine (AllReadyH.cons rfl (fun K hK => ?_) (AllReadyH.cons rfl (fun K hK => ?_) (AllReadyH.cons rfl (fun K hK => ?_) AllReadyH.nil)))
     ·
      skip
      refine wp_appB rfl rfl OW.out d70 ((HBX.out.grew G.out (fun _ h => by cases h)).byf) c d71 (by have := HX.out; omega) (fun V1 x6 hz g hor => hK.out _ _ (SF.out.fr (Fr.of_grew' g (F := fun i => V0.ownBlock = some i) (fun i e => e)) (own_ne OW.out SF.out (by decide))) (fun _ => ?_))
      clear hK K
      have fr0 := Fr.of_grew' g (F := fun i => V0.ownBlock = some i) (fun i e => e)
      have nG := Lib.hid (grew_fr G.out fr0 (fun i e => OB.out i e))
      have nSF := Lib.hid (SF.out.fr fr0 (own_ne OW.out SF.out (by decide)))
      clear fr0
      have nOB := Lib.hid (show ∀ b, V1.ownBlock = some b → W6.heap.size ≤ b from fun b hb => by
       rcases hor with e | e
       ·
        rw [e] at hb; exact OB.out b hb
       ·
        rw [e] at hb; cases hb; exact G.out.size)
      have nOW := Lib.hid hz
      clear G
      clear SF
      clear OW
      clear OB
      have G := nG
      have SF := nSF
      have OW := nOW
      have OB := nOB
      clear nG nSF nOW nOB
      clear hz g hor
      refine act_letter (fun T8 hT8 => ?_)
      replace d69 := (ev_at hT8 (by decide)).trans d69
      replace d73 := (ev_at hT8 (by decide)).trans d73
      clear d71 d70
      have d72 := ev_put hT8 (by omega)
      have szT8 := (sz_at hT8).trans szT6
      have HT8 := Lib.hid (show T6.put (some 72) (V1) = T8 from hT8)
      clear hT8 szT6
      refine wpAnyH_ready (rs := [5, 12]) (by kernel_rfl) (by simp) ?_
      refine (AllReadyH.cons rfl (fun K hK => ?_) (AllReadyH.cons rfl (fun K hK => ?_) AllReadyH.nil))
      ·
       skip
       refine wp_new1 rfl rfl cb d73 (fun q1 x8 hz g hzl hzs => hK.out _ _ (SF.out.grew g (by simp)) (fun _ => ?_))
       clear hK K
       have fr0 := fr_of g (F := fun _ => False)
       have nG := Lib.hid (grew_trans G.out g)
       have nSF := Lib.hid (SF.out.grew g (by simp))
       have nOW := Lib.hid (own_fr OW.out fr0 (fun _ _ h => h))
       clear fr0
       have Q1 := Lib.hid (show W6.heap.size ≤ q1 ∧ q1 < _ from ⟨Nat.le_trans G.out.size hzl, hzs⟩)
       have ON := Lib.hid (show ∀ b, V1.ownBlock = some b → b ≠ q1 from fun b hb e => by have := own_lt OW.out b hb; omega)
       clear G
       clear SF
       clear OW
       have G := nG
       have SF := nSF
       have OW := nOW
       clear nG nSF nOW
       have BY := Lib.hid hz
       clear hz g hzl hzs
       refine act_letter (fun T10 hT10 => ?_)
       replace d69 := (ev_at hT10 (by decide)).trans d69
       replace d72 := (ev_at hT10 (by decide)).trans d72
       clear d73
       have d74 := ev_put hT10 (by omega)
       have szT10 := (sz_at hT10).trans szT8
       have HT10 := Lib.hid (show T8.put (some 74) (.slice (some ⟨q1, 0, none⟩) 1 1) = T10 from hT10)
       clear hT10 szT8
       refine wpAnyH_ready (rs := [6, 12]) (by kernel_rfl) (by simp) ?_
       refine (AllReadyH.cons rfl (fun K hK => ?_) (AllReadyH.cons rfl (fun K hK => ?_) AllReadyH.nil))
       ·
        skip
        refine wp_appB rfl rfl OW.out d72 (BY.out) 1 d74 (by have := HX.out; simp; omega) (fun V2 x10 hz g hor => hK.out _ _ (SF.out.fr (Fr.of_grew' g (F := fun i => V1.ownBlock = some i) (fun i e => e)) (own_ne OW.out SF.out (by decide))) (fun _ => ?_))
        clear hK K
        have fr0 := Fr.of_grew' g (F := fun i => V1.ownBlock = some i) (fun i e => e)
        have nG := Lib.hid (grew_fr G.out fr0 (fun i e => OB.out i e))
        have nSF := Lib.hid (SF.out.fr fr0 (own_ne OW.out SF.out (by decide)))
        have nBY := Lib.hid (BY.out.fr fr0 (fun i hi e => ON.out i e hi))
        have nQ1 := Lib.hid (show W6.heap.size ≤ q1 ∧ q1 < _ from ⟨Q1.out.1, Nat.lt_of_lt_of_le Q1.out.2 fr0.size⟩)
        clear fr0
        have nOB := Lib.hid (show ∀ b, V2.ownBlock = some b → W6.heap.size ≤ b from fun b hb => by
         rcases hor with e | e
         ·
          rw [e] at hb; exact OB.out b hb
         ·
          rw [e] at hb; cases hb; exact G.out.size)
        have nON := Lib.hid (show ∀ b, V2.ownBlock = some b → b ≠ q1 from fun b hb => by
         rcases hor with e | e
         ·
          rw [e] at hb; exact ON.out b hb
         ·
          rw [e] at hb; cases hb; have := Q1.out.2; omega)
        have nOW := Lib.hid hz
        clear G
        clear SF
        clear OW
        clear BY
        clear Q1
        clear OB
        clear ON
        have G := nG
        have SF := nSF
        have OW := nOW
        have BY := nBY
        have Q1 := nQ1
        have OB := nOB
        have ON := nON
        clear nG nSF nOW nBY nQ1 nOB nON
        clear hz g hor
        refine act_letter (fun T12 hT12 => ?_)
        replace d69 := (ev_at hT12 (by decide)).trans d69
        clear d72 d74
        have d75 := ev_put hT12 (by omega)
        have szT12 := (sz_at hT12).trans szT10
        have HT12 := Lib.hid (show T10.put (some 75) (V2) = T12 from hT12)
        clear hT12 szT10
        refine wpAnyH_ready (rs := [7, 12]) (by kernel_rfl) (by simp) ?_
        refine (AllReadyH.cons rfl (fun K hK => ?_) (AllReadyH.cons rfl (fun K hK => ?_) AllReadyH.nil))
        ·
         skip
         have OW2 := OW.out
         rw [HMS.out] at OW2
         obtain ⟨A3, c3, hV2, hl3, hb3⟩ := byt_of_own OW2
         have e75 := d75.trans hV2
         have e69 := d69.trans (val_eq f)
         refine wp_callG rfl rfl enter_readF (vs := #[.agg #[.int .i64 f.k, .int .i64 f.s, .int .i64 f.l, .int .i64 f.h, .int .i64 f.t, .slice f.A f.ps.length f.c], .slice A3 ms.length c3, .int .i64 0]) (by simp only [List.map_toArray, List.map_cons, List.map_nil, e69, e75]; rfl) ((CP9.out _ G.out A3 c3 hl3 hb3).mono ?_)
         rintro e x12 ⟨v, rfl, hv, hnf, g, hhi⟩
         refine ⟨_, rfl, hK.out _ _ (SF.out.grew g (by simp)) (fun _ => ?_)⟩
         clear hK K
         have fr0 := fr_of g (F := fun _ => False)
         have nG := Lib.hid (grew_trans G.out g)
         have nSF := Lib.hid (SF.out.grew g (by simp))
         clear fr0
         clear G
         clear SF
         have G := nG
         have SF := nSF
         clear nG nSF
         have CV := Lib.hid (show v.In x12 ∧ v.nf = R2.v from ⟨hv, hnf⟩)
         clear hv hnf g hhi
         clear hV2 hl3 hb3 e75 e69 OW2
         refine act_letter (fun T14 hT14 => ?_)
         clear d69 d75
         have d76 := ev_put hT14 (by omega)
         have szT14 := (sz_at hT14).trans szT12
         have HT14 := Lib.hid (show T12.put (some 76) (.tuple #[v.val, .int .i64 (R2.n : Int), .int .i64 R2.e]) = T14 from hT14)
         clear hT14 szT12
         refine wpAnyH_take (i := 8) (v := .tuple #[v.val, .int .i64 (R2.n : Int), .int .i64 R2.e]) rfl (by kernel_rfl) (by kernel_rfl) (by kernel_rfl) (fun _ _ _ h => h) (.inl ⟨rfl, fun w g => run_moveV rfl d76 w⟩) SF.out ?_
         refine act_letter (fun T15 hT15 => ?_)
         clear d76
         have d68 := ev_put hT15 (by omega)
         have szT15 := (sz_at hT15).trans szT14
         have HT15 := Lib.hid (show T14.put (some 68) (.tuple #[v.val, .int .i64 (R2.n : Int), .int .i64 R2.e]) = T15 from hT15)
         clear hT15 szT14
         refine wpAnyH_take (i := 9) (v := v.val) rfl (by kernel_rfl) (by kernel_rfl) (by kernel_rfl) (fun _ _ _ h => h) (.inl ⟨rfl, fun w g => run_ext30 rfl d68 w⟩) SF.out ?_
         refine act_letter (fun T16 hT16 => ?_)
         replace d68 := (ev_at hT16 (by decide)).trans d68
         have d77 := ev_put hT16 (by omega)
         have szT16 := (sz_at hT16).trans szT15
         have HT16 := Lib.hid (show T15.put (some 77) (v.val) = T16 from hT16)
         clear hT16 szT15
         refine wpAnyH_take (i := 10) (v := .int .i64 (R2.n : Int)) rfl (by kernel_rfl) (by kernel_rfl) (by kernel_rfl) (fun _ _ _ h => h) (.inl ⟨rfl, fun w g => run_ext31 rfl d68 w⟩) SF.out ?_
         refine act_letter (fun T17 hT17 => ?_)
         replace d68 := (ev_at hT17 (by decide)).trans d68
         replace d77 := (ev_at hT17 (by decide)).trans d77
         have d78 := ev_put hT17 (by omega)
         have szT17 := (sz_at hT17).trans szT16
         have HT17 := Lib.hid (show T16.put (some 78) (.int .i64 (R2.n : Int)) = T17 from hT17)
         clear hT17 szT16
         refine wpAnyH_take (i := 11) (v := .int .i64 R2.e) rfl (by kernel_rfl) (by kernel_rfl) (by kernel_rfl) (fun _ _ _ h => h) (.inl ⟨rfl, fun w g => run_ext32 rfl d68 w⟩) SF.out ?_
         refine act_letter (fun T18 hT18 => ?_)
         replace d68 := (ev_at hT18 (by decide)).trans d68
         replace d77 := (ev_at hT18 (by decide)).trans d77
         replace d78 := (ev_at hT18 (by decide)).trans d78
         have d79 := ev_put hT18 (by omega)
         have szT18 := (sz_at hT18).trans szT17
         have HT18 := Lib.hid (show T17.put (some 79) (.int .i64 R2.e) = T18 from hT18)
         clear hT18 szT17
         refine wpAnyH_ready (rs := [12]) (by kernel_rfl) (by simp) ?_
         refine (AllReadyH.cons rfl (fun K hK => ?_) AllReadyH.nil)
         refine wp_newVq rfl rfl (fun z x18 hz g hzl => hK.out _ _ (SF.out.grew g (by simp)) (fun _ => ?_))
         clear hK K
         have fr0 := fr_of g (F := fun _ => False)
         have nG := Lib.hid (grew_trans G.out g)
         have nSF := Lib.hid (SF.out.grew g (by simp))
         have nCV := Lib.hid (show v.In _ ∧ v.nf = R2.v from ⟨CV.out.1.grew g, CV.out.2⟩)
         clear fr0
         have ZL := Lib.hid (show W6.heap.size ≤ z from Nat.le_trans G.out.size hzl)
         have VO := Lib.hid (CV.out.1.offn (F := fun i => i = z) (fun i e => by subst e; exact hzl))
         clear G
         clear SF
         clear CV
         have G := nG
         have SF := nSF
         have CV := nCV
         clear nG nSF nCV
         have ZV := Lib.hid hz
         clear hz g hzl
         refine act_letter (fun T20 hT20 => ?_)
         replace d77 := (ev_at hT20 (by decide)).trans d77
         replace d78 := (ev_at hT20 (by decide)).trans d78
         replace d79 := (ev_at hT20 (by decide)).trans d79
         clear d68
         have d12 := ev_put hT20 (by omega)
         have szT20 := (sz_at hT20).trans szT18
         have HT20 := Lib.hid (show T18.put (some 12) (.pointer (some ⟨z, 0, none⟩)) = T20 from hT20)
         clear hT20 szT18
         refine wpAnyH_ready (rs := [13]) (by kernel_rfl) (by simp) ?_
         refine AllReadyH.cons rfl (fun K hK => ?_) AllReadyH.nil
         have nSF := Lib.hid (show Whole (putV x18 z v) q f.cells 24 from SF.out.fr (fr_put3 _ _ _ _ _) (fun e => Whole.ne SF.out ZV.out (by decide) e))
         have nCV := Lib.hid (show v.In (putV x18 z v) ∧ v.nf = R2.v from ⟨In.fr2 CV.out.1 (fr_put3 _ _ _ _ _) VO.out, CV.out.2⟩)
         have nG := Lib.hid (show Grew W6 (putV x18 z v) none from grew_put3 G.out ZL.out _ _ _)
         have nZV := Lib.hid (show Whole (putV x18 z v) z v.cells 35 from ZV.out.put3 _ _ _)
         refine wp_skipG rfl (w' := putV x18 z v) (run_storeVa rfl d12 d77 ZV.out) (hK.out _ _ nSF.out (fun _ => ?_))
         clear hK K
         clear SF
         clear CV
         clear G
         clear ZV
         have SF := nSF
         have CV := nCV
         have G := nG
         have ZV := nZV
         clear nSF nCV nG nZV
         refine act_letter (fun T21 hT21 => ?_)
         replace d77 : T21.eval (.tmp 77) = v.val := by rw [← hT21]; exact d77
         replace d78 : T21.eval (.tmp 78) = .int .i64 (R2.n : Int) := by rw [← hT21]; exact d78
         replace d79 : T21.eval (.tmp 79) = .int .i64 R2.e := by rw [← hT21]; exact d79
         replace d12 : T21.eval (.tmp 12) = .pointer (some ⟨z, 0, none⟩) := by rw [← hT21]; exact d12
         have szT21 : T21.tmps.size = 109 := by rw [← hT21]; exact szT20
         have HT21 := Lib.hid (show T20 = T21 from hT21)
         clear hT21 szT20
         refine wpAnyH_take (i := 14) (v := .int .i64 (R2.n : Int)) rfl (by kernel_rfl) (by kernel_rfl) (by kernel_rfl) (fun _ _ _ h => h) (.inl ⟨rfl, fun w g => run_assign rfl d78 w⟩) SF.out ?_
         refine act_letter (fun T22 hT22 => ?_)
         replace d78 := (ev_at hT22 (by decide)).trans d78
         replace d79 := (ev_at hT22 (by decide)).trans d79
         clear d77 d12
         have d13 := ev_put hT22 (by omega)
         have szT22 := (sz_at hT22).trans szT21
         have HT22 := Lib.hid (show T21.put (some 13) (.int .i64 (R2.n : Int)) = T22 from hT22)
         clear hT22 szT21
         refine wpAnyH_take (i := 15) (v := .int .i64 R2.e) rfl (by kernel_rfl) (by kernel_rfl) (by kernel_rfl) (fun _ _ _ h => h) (.inl ⟨rfl, fun w g => run_assign rfl d79 w⟩) SF.out ?_
         refine act_letter (fun T23 hT23 => ?_)
         replace d78 := (ev_at hT23 (by decide)).trans d78
         replace d79 := (ev_at hT23 (by decide)).trans d79
         replace d13 := (ev_at hT23 (by decide)).trans d13
         have d14 := ev_put hT23 (by omega)
         have szT23 := (sz_at hT23).trans szT22
         have HT23 := Lib.hid (show T22.put (some 14) (.int .i64 R2.e) = T23 from hT23)
         clear hT23 szT22
         refine wpAnyH_done (by kernel_rfl) ?_ _
         refine ⟨v, z, V0, V1, .slice (some ⟨q1, 0, none⟩) 1 1, V2, ?_, CV.out.1, CV.out.2, ZV.out, G.out⟩
         rw [← HT23.out, ← HT22.out, ← HT21.out, ← HT20.out, ← HT18.out, ← HT17.out, ← HT16.out, ← HT15.out, ← HT14.out, ← HT12.out, ← HT10.out, ← HT8.out, ← HT6.out, ← HT4.out, ← HT3.out, ← HT2.out, ← HT1.out]
         try simp only [Act.put, List.setIfInBounds_toArray, List.set_cons_zero, List.set_cons_succ]
        ·
         skip
         refine wp_newVq rfl rfl (fun z x23 hz g hzl => hK.out _ _ (SF.out.grew g (by simp)) (fun _ => ?_))
         clear hK K
         have fr0 := fr_of g (F := fun _ => False)
         have nG := Lib.hid (grew_trans G.out g)
         have nSF := Lib.hid (SF.out.grew g (by simp))
         have nOW := Lib.hid (own_fr OW.out fr0 (fun _ _ h => h))
         have nBY := Lib.hid (BY.out.fr fr0 (fun _ _ h => h))
         have nQ1 := Lib.hid (show W6.heap.size ≤ q1 ∧ q1 < _ from ⟨Q1.out.1, Nat.lt_of_lt_of_le Q1.out.2 g.size⟩)
         clear fr0
         have ZL := Lib.hid (show W6.heap.size ≤ z from Nat.le_trans G.out.size hzl)
         clear G
         clear SF
         clear OW
         clear BY
         clear Q1
         have G := nG
         have SF := nSF
         have OW := nOW
         have BY := nBY
         have Q1 := nQ1
         clear nG nSF nOW nBY nQ1
         have ZV := Lib.hid hz
         clear hz g hzl
         refine act_letter (fun T25 hT25 => ?_)
         replace d69 := (ev_at hT25 (by decide)).trans d69
         replace d75 := (ev_at hT25 (by decide)).trans d75
         have d12 := ev_put hT25 (by omega)
         have szT25 := (sz_at hT25).trans szT12
         have HT25 := Lib.hid (show T12.put (some 12) (.pointer (some ⟨z, 0, none⟩)) = T25 from hT25)
         clear hT25 szT12
         refine wpAnyH_ready (rs := [7]) (by kernel_rfl) (by simp) ?_
         refine (AllReadyH.cons rfl (fun K hK => ?_) AllReadyH.nil)
         have OW2 := OW.out
         rw [HMS.out] at OW2
         obtain ⟨A3, c3, hV2, hl3, hb3⟩ := byt_of_own OW2
         have e75 := d75.trans hV2
         have e69 := d69.trans (val_eq f)
         refine wp_callG rfl rfl enter_readF (vs := #[.agg #[.int .i64 f.k, .int .i64 f.s, .int .i64 f.l, .int .i64 f.h, .int .i64 f.t, .slice f.A f.ps.length f.c], .slice A3 ms.length c3, .int .i64 0]) (by simp only [List.map_toArray, List.map_cons, List.map_nil, e69, e75]; rfl) ((CP9.out _ G.out A3 c3 hl3 hb3).mono ?_)
         rintro e x25 ⟨v, rfl, hv, hnf, g, hhi⟩
         have VO := Lib.hid (hhi.offn (F := fun i => i = z) (fun i e => by subst e; exact ZV.out.lt))
         refine ⟨_, rfl, hK.out _ _ (SF.out.grew g (by simp)) (fun _ => ?_)⟩
         clear hK K
         have fr0 := fr_of g (F := fun _ => False)
         have nG := Lib.hid (grew_trans G.out g)
         have nSF := Lib.hid (SF.out.grew g (by simp))
         have nZV := Lib.hid (ZV.out.grew g (by simp))
         clear fr0
         clear G
         clear SF
         clear ZV
         have G := nG
         have SF := nSF
         have ZV := nZV
         clear nG nSF nZV
         have CV := Lib.hid (show v.In x25 ∧ v.nf = R2.v from ⟨hv, hnf⟩)
         clear hv hnf g hhi
         clear hV2 hl3 hb3 e75 e69 OW2
         refine act_letter (fun T27 hT27 => ?_)
         replace d12 := (ev_at hT27 (by decide)).trans d12
         clear d69 d75
         have d76 := ev_put hT27 (by omega)
         have szT27 := (sz_at hT27).trans szT25
         have HT27 := Lib.hid (show T25.put (some 76) (.tuple #[v.val, .int .i64 (R2.n : Int), .int .i64 R2.e]) = T27 from hT27)
         clear hT27 szT25
         refine wpAnyH_take (i := 8) (v := .tuple #[v.val, .int .i64 (R2.n : Int), .int .i64 R2.e]) rfl (by kernel_rfl) (by kernel_rfl) (by kernel_rfl) (fun _ _ _ h => h) (.inl ⟨rfl, fun w g => run_moveV rfl d76 w⟩) SF.out ?_
         refine act_letter (fun T28 hT28 => ?_)
         replace d12 := (ev_at hT28 (by decide)).trans d12
         clear d76
         have d68 := ev_put hT28 (by omega)
         have szT28 := (sz_at hT28).trans szT27
         have HT28 := Lib.hid (show T27.put (some 68) (.tuple #[v.val, .int .i64 (R2.n : Int), .int .i64 R2.e]) = T28 from hT28)
         clear hT28 szT27
         refine wpAnyH_take (i := 9) (v := v.val) rfl (by kernel_rfl) (by kernel_rfl) (by kernel_rfl) (fun _ _ _ h => h) (.inl ⟨rfl, fun w g => run_ext30 rfl d68 w⟩) SF.out ?_
         refine act_letter (fun T29 hT29 => ?_)
         replace d12 := (ev_at hT29 (by decide)).trans d12
         replace d68 := (ev_at hT29 (by decide)).trans d68
         have d77 := ev_put hT29 (by omega)
         have szT29 := (sz_at hT29).trans szT28
         have HT29 := Lib.hid (show T28.put (some 77) (v.val) = T29 from hT29)
         clear hT29 szT28
         refine wpAnyH_take (i := 10) (v := .int .i64 (R2.n : Int)) rfl (by kernel_rfl) (by kernel_rfl) (by kernel_rfl) (fun _ _ _ h => h) (.inl ⟨rfl, fun w g => run_ext31 rfl d68 w⟩) SF.out ?_
         refine act_letter (fun T30 hT30 => ?_)
         replace d12 := (ev_at hT30 (by decide)).trans d12
         replace d68 := (ev_at hT30 (by decide)).trans d68
         replace d77 := (ev_at hT30 (by decide)).trans d77
         have d78 := ev_put hT30 (by omega)
         have szT30 := (sz_at hT30).trans szT29
         have HT30 := Lib.hid (show T29.put (some 78) (.int .i64 (R2.n : Int)) = T30 from hT30)
         clear hT30 szT29
         refine wpAnyH_take (i := 11) (v := .int .i64 R2.e) rfl (by kernel_rfl) (by kernel_rfl) (by kernel_rfl) (fun _ _ _ h => h) (.inl ⟨rfl, fun w g => run_ext32 rfl d68 w⟩) SF.out ?_
         refine act_letter (fun T31 hT31 => ?_)
         replace d12 := (ev_at hT31 (by decide)).trans d12
         replace d68 := (ev_at hT31 (by decide)).trans d68
         replace d77 := (ev_at hT31 (by decide)).trans d77
         replace d78 := (ev_at hT31 (by decide)).trans d78
         have d79 := ev_put hT31 (by omega)
         have szT31 := (sz_at hT31).trans szT30
         have HT31 := Lib.hid (show T30.put (some 79) (.int .i64 R2.e) = T31 from hT31)
         clear hT31 szT30
         refine wpAnyH_ready (rs := [13]) (by kernel_rfl) (by simp) ?_
         refine AllReadyH.cons rfl (fun K hK => ?_) AllReadyH.nil
         have nSF := Lib.hid (show Whole (putV x25 z v) q f.cells 24 from SF.out.fr (fr_put3 _ _ _ _ _) (fun e => Whole.ne SF.out ZV.out (by decide) e))
         have nCV := Lib.hid (show v.In (putV x25 z v) ∧ v.nf = R2.v from ⟨In.fr2 CV.out.1 (fr_put3 _ _ _ _ _) VO.out, CV.out.2⟩)
         have nG := Lib.hid (show Grew W6 (putV x25 z v) none from grew_put3 G.out ZL.out _ _ _)
         have nZV := Lib.hid (show Whole (putV x25 z v) z v.cells 35 from ZV.out.put3 _ _ _)
         refine wp_skipG rfl (w' := putV x25 z v) (run_storeVa rfl d12 d77 ZV.out) (hK.out _ _ nSF.out (fun _ => ?_))
         clear hK K
         clear SF
         clear CV
         clear G
         clear ZV
         have SF := nSF
         have CV := nCV
         have G := nG
         have ZV := nZV
         clear nSF nCV nG nZV
         refine act_letter (fun T32 hT32 => ?_)
         replace d12 : T32.eval (.tmp 12) = .pointer (some ⟨z, 0, none⟩) := by rw [← hT32]; exact d12
         replace d68 : T32.eval (.tmp 68) = .tuple #[v.val, .int .i64 (R2.n : Int), .int .i64 R2.e] := by rw [← hT32]; exact d68
         replace d77 : T32.eval (.tmp 77) = v.val := by rw [← hT32]; exact d77
         replace d78 : T32.eval (.tmp 78) = .int .i64 (R2.n : Int) := by rw [← hT32]; exact d78
         replace d79 : T32.eval (.tmp 79) = .int .i64 R2.e := by rw [← hT32]; exact d79
         have szT32 : T32.tmps.size = 109 := by rw [← hT32]; exact szT31
         have HT32 := Lib.hid (show T31 = T32 from hT32)
         clear hT32 szT31
         refine wpAnyH_take (i := 14) (v := .int .i64 (R2.n : Int)) rfl (by kernel_rfl) (by kernel_rfl) (by kernel_rfl) (fun _ _ _ h => h) (.inl ⟨rfl, fun w g => run_assign rfl d78 w⟩) SF.out ?_
         refine act_letter (fun T33 hT33 => ?_)
         replace d78 := (ev_at hT33 (by decide)).trans d78
         replace d79 := (ev_at hT33 (by decide)).trans d79
         clear d12 d68 d77
         have d13 := ev_put hT33 (by omega)
         have szT33 := (sz_at hT33).trans szT32
         have HT33 := Lib.hid (show T32.put (some 13) (.int .i64 (R2.n : Int)) = T33 from hT33)
         clear hT33 szT32
         refine wpAnyH_take (i := 15) (v := .int .i64 R2.e) rfl (by kernel_rfl) (by kernel_rfl) (by kernel_rfl) (fun _ _ _ h => h) (.inl ⟨rfl, fun w g => run_assign rfl d79 w⟩) SF.out ?_
         refine act_letter (fun T34 hT34 => ?_)
         replace d78 := (ev_at hT34 (by decide)).trans d78
         replace d79 := (ev_at hT34 (by decide)).trans d79
         replace d13 := (ev_at hT34 (by decide)).trans d13
         have d14 := ev_put hT34 (by omega)
         have szT34 := (sz_at hT34).trans szT33
         have HT34 := Lib.hid (show T33.put (some 14) (.int .i64 R2.e) = T34 from hT34)
         clear hT34 szT33
         refine wpAnyH_done (by kernel_rfl) ?_ _
         refine ⟨v, z, V0, V1, .slice (some ⟨q1, 0, none⟩) 1 1, V2, ?_, CV.out.1, CV.out.2, ZV.out, G.out⟩
         rw [← HT34.out, ← HT33.out, ← HT32.out, ← HT31.out, ← HT30.out, ← HT29.out, ← HT28.out, ← HT27.out, ← HT25.out, ← HT12.out, ← HT10.out, ← HT8.out, ← HT6.out, ← HT4.out, ← HT3.out, ← HT2.out, ← HT1.out]
         try simp only [Act.put, List.setIfInBounds_toArray, List.set_cons_zero, List.set_cons_succ]
       ·
        skip
        refine wp_newVq rfl rfl (fun z x34 hz g hzl => hK.out _ _ (SF.out.grew g (by simp)) (fun _ => ?_))
        clear hK K
        have fr0 := fr_of g (F := fun _ => False)
        have nG := Lib.hid (grew_trans G.out g)
        have nSF := Lib.hid (SF.out.grew g (by simp))
        have nOW := Lib.hid (own_fr OW.out fr0 (fun _ _ h => h))
        have nBY := Lib.hid (BY.out.fr fr0 (fun _ _ h => h))
        have nQ1 := Lib.hid (show W6.heap.size ≤ q1 ∧ q1 < _ from ⟨Q1.out.1, Nat.lt_of_lt_of_le Q1.out.2 g.size⟩)
        clear fr0
        have ZL := Lib.hid (show W6.heap.size ≤ z from Nat.le_trans G.out.size hzl)
        clear G
        clear SF
        clear OW
        clear BY
        clear Q1
        have G := nG
        have SF := nSF
        have OW := nOW
        have BY := nBY
        have Q1 := nQ1
        clear nG nSF nOW nBY nQ1
        have ZV := Lib.hid hz
        clear hz g hzl
        refine act_letter (fun T36 hT36 => ?_)
        replace d69 := (ev_at hT36 (by decide)).trans d69
        replace d72 := (ev_at hT36 (by decide)).trans d72
        replace d74 := (ev_at hT36 (by decide)).trans d74
        have d12 := ev_put hT36 (by omega)
        have szT36 := (sz_at hT36).trans szT10
        have HT36 := Lib.hid (show T10.put (some 12) (.pointer (some ⟨z, 0, none⟩)) = T36 from hT36)
        clear hT36 szT10
        refine wpAnyH_ready (rs := [6]) (by kernel_rfl) (by simp) ?_
        refine (AllReadyH.cons rfl (fun K hK => ?_) AllReadyH.nil)
        refine wp_appB rfl rfl OW.out d72 (BY.out) 1 d74 (by have := HX.out; simp; omega) (fun V2 x36 hz g hor => hK.out _ _ (SF.out.fr (Fr.of_grew' g (F := fun i => V1.ownBlock = some i) (fun i e => e)) (own_ne OW.out SF.out (by decide))) (fun _ => ?_))
        clear hK K
        have fr0 := Fr.of_grew' g (F := fun i => V1.ownBlock = some i) (fun i e => e)
        have nG := Lib.hid (grew_fr G.out fr0 (fun i e => OB.out i e))
        have nSF := Lib.hid (SF.out.fr fr0 (own_ne OW.out SF.out (by decide)))
        have nZV := Lib.hid (ZV.out.fr fr0 (own_ne OW.out ZV.out (by decide)))
        have nBY := Lib.hid (BY.out.fr fr0 (fun i hi e => ON.out i e hi))
        have nQ1 := Lib.hid (show W6.heap.size ≤ q1 ∧ q1 < _ from ⟨Q1.out.1, Nat.lt_of_lt_of_le Q1.out.2 fr0.size⟩)
        clear fr0
        have nOB := Lib.hid (show ∀ b, V2.ownBlock = some b → W6.heap.size ≤ b from fun b hb => by
         rcases hor with e | e
         ·
          rw [e] at hb; exact OB.out b hb
         ·
          rw [e] at hb; cases hb; exact G.out.size)
        have nON := Lib.hid (show ∀ b, V2.ownBlock = some b → b ≠ q1 from fun b hb => by
         rcases hor with e | e
         ·
          rw [e] at hb; exact ON.out b hb
         ·
          rw [e] at hb; cases hb; have := Q1.out.2; omega)
        have nOW := Lib.hid hz
        clear G
        clear SF
        clear ZV
        clear OW
        clear BY
        clear Q1
        clear OB
        clear ON
        have G := nG
        have SF := nSF
        have ZV := nZV
        have OW := nOW
        have BY := nBY
        have Q1 := nQ1
        have OB := nOB
        have ON := nON
        clear nG nSF nZV nOW nBY nQ1 nOB nON
        clear hz g hor
        refine act_letter (fun T38 hT38 => ?_)
        replace d69 := (ev_at hT38 (by decide)).trans d69
        replace d12 := (ev_at hT38 (by decide)).trans d12
        clear d72 d74
        have d75 := ev_put hT38 (by omega)
        have szT38 := (sz_at hT38).trans szT36
        have HT38 := Lib.hid (show T36.put (some 75) (V2) = T38 from hT38)
        clear hT38 szT36
        refine wpAnyH_ready (rs := [7]) (by kernel_rfl) (by simp) ?_
        refine (AllReadyH.cons rfl (fun K hK => ?_) AllReadyH.nil)
        have OW2 := OW.out
        rw [HMS.out] at OW2
        obtain ⟨A3, c3, hV2, hl3, hb3⟩ := byt_of_own OW2
        have e75 := d75.trans hV2
        have e69 := d69.trans (val_eq f)
        refine wp_callG rfl rfl enter_readF (vs := #[.agg #[.int .i64 f.k, .int .i64 f.s, .int .i64 f.l, .int .i64 f.h, .int .i64 f.t, .slice f.A f.ps.length f.c], .slice A3 ms.length c3, .int .i64 0]) (by simp only [List.map_toArray, List.map_cons, List.map_nil, e69, e75]; rfl) ((CP9.out _ G.out A3 c3 hl3 hb3).mono ?_)
        rintro e x38 ⟨v, rfl, hv, hnf, g, hhi⟩
        have VO := Lib.hid (hhi.offn (F := fun i => i = z) (fun i e => by subst e; exact ZV.out.lt))
        refine ⟨_, rfl, hK.out _ _ (SF.out.grew g (by simp)) (fun _ => ?_)⟩
        clear hK K
        have fr0 := fr_of g (F := fun _ => False)
        have nG := Lib.hid (grew_trans G.out g)
        have nSF := Lib.hid (SF.out.grew g (by simp))
        have nZV := Lib.hid (ZV.out.grew g (by simp))
        clear fr0
        clear G
        clear SF
        clear ZV
        have G := nG
        have SF := nSF
        have ZV := nZV
        clear nG nSF nZV
        have CV := Lib.hid (show v.In x38 ∧ v.nf = R2.v from ⟨hv, hnf⟩)
        clear hv hnf g hhi
        clear hV2 hl3 hb3 e75 e69 OW2
        refine act_letter (fun T40 hT40 => ?_)
        replace d12 := (ev_at hT40 (by decide)).trans d12
        clear d69 d75
        have d76 := ev_put hT40 (by omega)
        have szT40 := (sz_at hT40).trans szT38
        have HT40 := Lib.hid (show T38.put (some 76) (.tuple #[v.val, .int .i64 (R2.n : Int), .int .i64 R2.e]) = T40 from hT40)
        clear hT40 szT38
        refine wpAnyH_take (i := 8) (v := .tuple #[v.val, .int .i64 (R2.n : Int), .int .i64 R2.e]) rfl (by kernel_rfl) (by kernel_rfl) (by kernel_rfl) (fun _ _ _ h => h) (.inl ⟨rfl, fun w g => run_moveV rfl d76 w⟩) SF.out ?_
        refine act_letter (fun T41 hT41 => ?_)
        replace d12 := (ev_at hT41 (by decide)).trans d12
        clear d76
        have d68 := ev_put hT41 (by omega)
        have szT41 := (sz_at hT41).trans szT40
        have HT41 := Lib.hid (show T40.put (some 68) (.tuple #[v.val, .int .i64 (R2.n : Int), .int .i64 R2.e]) = T41 from hT41)
        clear hT41 szT40
        refine wpAnyH_take (i := 9) (v := v.val) rfl (by kernel_rfl) (by kernel_rfl) (by kernel_rfl) (fun _ _ _ h => h) (.inl ⟨rfl, fun w g => run_ext30 rfl d68 w⟩) SF.out ?_
        refine act_letter (fun T42 hT42 => ?_)
        replace d12 := (ev_at hT42 (by decide)).trans d12
        replace d68 := (ev_at hT42 (by decide)).trans d68
        have d77 := ev_put hT42 (by omega)
        have szT42 := (sz_at hT42).trans szT41
        have HT42 := Lib.hid (show T41.put (some 77) (v.val) = T42 from hT42)
        clear hT42 szT41
        refine wpAnyH_take (i := 10) (v := .int .i64 (R2.n : Int)) rfl (by kernel_rfl) (by kernel_rfl) (by kernel_rfl) (fun _ _ _ h => h) (.inl ⟨rfl, fun w g => run_ext31 rfl d68 w⟩) SF.out ?_
        refine act_letter (fun T43 hT43 => ?_)
        replace d12 := (ev_at hT43 (by decide)).trans d12
        replace d68 := (ev_at hT43 (by decide)).trans d68
        replace d77 := (ev_at hT43 (by decide)).trans d77
        have d78 := ev_put hT43 (by omega)
        have szT43 := (sz_at hT43).trans szT42
        have HT43 := Lib.hid (show T42.put (some 78) (.int .i64 (R2.n : Int)) = T43 from hT43)
        clear hT43 szT42
        refine wpAnyH_take (i := 11) (v := .int .i64 R2.e) rfl (by kernel_rfl) (by kernel_rfl) (by kernel_rfl) (fun _ _ _ h => h) (.inl ⟨rfl, fun w g => run_ext32 rfl d68 w⟩) SF.out ?_
        refine act_letter (fun T44 hT44 => ?_)
        replace d12 := (ev_at hT44 (by decide)).trans d12
        replace d68 := (ev_at hT44 (by decide)).trans d68
        replace d77 := (ev_at hT44 (by decide)).trans d77
        replace d78 := (ev_at hT44 (by decide)).trans d78
        have d79 := ev_put hT44 (by omega)
        have szT44 := (sz_at hT44).trans szT43
        have HT44 := Lib.hid (show T43.put (some 79) (.int .i64 R2.e) = T44 from hT44)
        clear hT44 szT43
        refine wpAnyH_ready (rs := [13]) (by kernel_rfl) (by simp) ?_
        refine AllReadyH.cons rfl (fun K hK => ?_) AllReadyH.nil
        have nSF := Lib.hid (show Whole (putV x38 z v) q f.cells 24 from SF.out.fr (fr_put3 _ _ _ _ _) (fun e => Whole.ne SF.out ZV.out (by decide) e))
        have nCV := Lib.hid (show v.In (putV x38 z v) ∧ v.nf = R2.v from ⟨In.fr2 CV.out.1 (fr_put3 _ _ _ _ _) VO.out, CV.out.2⟩)
        have nG := Lib.hid (show Grew W6 (putV x38 z v) none from grew_put3 G.out ZL.out _ _ _)
        have nZV := Lib.hid (show Whole (putV x38 z v) z v.cells 35 from ZV.out.put3 _ _ _)
        refine wp_skipG rfl (w' := putV x38 z v) (run_storeVa rfl d12 d77 ZV.out) (hK.out _ _ nSF.out (fun _ => ?_))
        clear hK K
        clear SF
        clear CV
        clear G
        clear ZV
        have SF := nSF
        have CV := nCV
        have G := nG
        have ZV := nZV
        clear nSF nCV nG nZV
        refine act_letter (fun T45 hT45 => ?_)
        replace d12 : T45.eval (.tmp 12) = .pointer (some ⟨z, 0, none⟩) := by rw [← hT45]; exact d12
        replace d68 : T45.eval (.tmp 68) = .tuple #[v.val, .int .i64 (R2.n : Int), .int .i64 R2.e] := by rw [← hT45]; exact d68
        replace d77 : T45.eval (.tmp 77) = v.val := by rw [← hT45]; exact d77
        replace d78 : T45.eval (.tmp 78) = .int .i64 (R2.n : Int) := by rw [← hT45]; exact d78
        replace d79 : T45.eval (.tmp 79) = .int .i64 R2.e := by rw [← hT45]; exact d79
        have szT45 : T45.tmps.size = 109 := by rw [← hT45]; exact szT44
        have HT45 := Lib.hid (show T44 = T45 from hT45)
        clear hT45 szT44
        refine wpAnyH_take (i := 14) (v := .int .i64 (R2.n : Int)) rfl (by kernel_rfl) (by kernel_rfl) (by kernel_rfl) (fun _ _ _ h => h) (.inl ⟨rfl, fun w g => run_assign rfl d78 w⟩) SF.out ?_
        refine act_letter (fun T46 hT46 => ?_)
        replace d78 := (ev_at hT46 (by decide)).trans d78
        replace d79 := (ev_at hT46 (by decide)).trans d79
        clear d12 d68 d77
        have d13 := ev_put hT46 (by omega)
        have szT46 := (sz_at hT46).trans szT45
        have HT46 := Lib.hid (show T45.put (some 13) (.int .i64 (R2.n : Int)) = T46 from hT46)
        clear hT46 szT45
        refine wpAnyH_take (i := 15) (v := .int .i64 R2.e) rfl (by kernel_rfl) (by kernel_rfl) (by kernel_rfl) (fun _ _ _ h => h) (.inl ⟨rfl, fun w g => run_assign rfl d79 w⟩) SF.out ?_
        refine act_letter (fun T47 hT47 => ?_)
        replace d78 := (ev_at hT47 (by decide)).trans d78
        replace d79 := (ev_at hT47 (by decide)).trans d79
        replace d13 := (ev_at hT47 (by decide)).trans d13
        have d14 := ev_put hT47 (by omega)
        have szT47 := (sz_at hT47).trans szT46
        have HT47 := Lib.hid (show T46.put (some 14) (.int .i64 R2.e) = T47 from hT47)
        clear hT47 szT46
        refine wpAnyH_done (by kernel_rfl) ?_ _
        refine ⟨v, z, V0, V1, .slice (some ⟨q1, 0, none⟩) 1 1, V2, ?_, CV.out.1, CV.out.2, ZV.out, G.out⟩
        rw [← HT47.out, ← HT46.out, ← HT45.out, ← HT44.out, ← HT43.out, ← HT42.out, ← HT41.out, ← HT40.out, ← HT38.out, ← HT36.out, ← HT10.out, ← HT8.out, ← HT6.out, ← HT4.out, ← HT3.out, ← HT2.out, ← HT1.out]
        try simp only [Act.put, List.setIfInBounds_toArray, List.set_cons_zero, List.set_cons_succ]
      ·
       skip
       refine wp_newVq rfl rfl (fun z x47 hz g hzl => hK.out _ _ (SF.out.grew g (by simp)) (fun _ => ?_))
       clear hK K
       have fr0 := fr_of g (F := fun _ => False)
       have nG := Lib.hid (grew_trans G.out g)
       have nSF := Lib.hid (SF.out.grew g (by simp))
       have nOW := Lib.hid (own_fr OW.out fr0 (fun _ _ h => h))
       clear fr0
       have ZL := Lib.hid (show W6.heap.size ≤ z from Nat.le_trans G.out.size hzl)
       clear G
       clear SF
       clear OW
       have G := nG
       have SF := nSF
       have OW := nOW
       clear nG nSF nOW
       have ZV := Lib.hid hz
       clear hz g hzl
       refine act_letter (fun T49 hT49 => ?_)
       replace d69 := (ev_at hT49 (by decide)).trans d69
       replace d73 := (ev_at hT49 (by decide)).trans d73
       replace d72 := (ev_at hT49 (by decide)).trans d72
       have d12 := ev_put hT49 (by omega)
       have szT49 := (sz_at hT49).trans szT8
       have HT49 := Lib.hid (show T8.put (some 12) (.pointer (some ⟨z, 0, none⟩)) = T49 from hT49)
       clear hT49 szT8
       refine wpAnyH_ready (rs := [5]) (by kernel_rfl) (by simp) ?_
       refine (AllReadyH.cons rfl (fun K hK => ?_) AllReadyH.nil)
       refine wp_new1 rfl rfl cb d73 (fun q1 x49 hz g hzl hzs => hK.out _ _ (SF.out.grew g (by simp)) (fun _ => ?_))
       clear hK K
       have fr0 := fr_of g (F := fun _ => False)
       have nG := Lib.hid (grew_trans G.out g)
       have nSF := Lib.hid (SF.out.grew g (by simp))
       have nZV := Lib.hid (ZV.out.grew g (by simp))
       have nOW := Lib.hid (own_fr OW.out fr0 (fun _ _ h => h))
       clear fr0
       have Q1 := Lib.hid (show W6.heap.size ≤ q1 ∧ q1 < _ from ⟨Nat.le_trans G.out.size hzl, hzs⟩)
       have ON := Lib.hid (show ∀ b, V1.ownBlock = some b → b ≠ q1 from fun b hb e => by have := own_lt OW.out b hb; omega)
       clear G
       clear SF
       clear ZV
       clear OW
       have G := nG
       have SF := nSF
       have ZV := nZV
       have OW := nOW
       clear nG nSF nZV nOW
       have BY := Lib.hid hz
       clear hz g hzl hzs
       refine act_letter (fun T51 hT51 => ?_)
       replace d69 := (ev_at hT51 (by decide)).trans d69
       replace d72 := (ev_at hT51 (by decide)).trans d72
       replace d12 := (ev_at hT51 (by decide)).trans d12
       clear d73
       have d74 := ev_put hT51 (by omega)
       have szT51 := (sz_at hT51).trans szT49
       have HT51 := Lib.hid (show T49.put (some 74) (.slice (some ⟨q1, 0, none⟩) 1 1) = T51 from hT51)
       clear hT51 szT49
       refine wpAnyH_ready (rs := [6]) (by kernel_rfl) (by simp) ?_
       refine (AllReadyH.cons rfl (fun K hK => ?_) AllReadyH.nil)
       refine wp_appB rfl rfl OW.out d72 (BY.out) 1 d74 (by have := HX.out; simp; omega) (fun V2 x51 hz g hor => hK.out _ _ (SF.out.fr (Fr.of_grew' g (F := fun i => V1.ownBlock = some i) (fun i e => e)) (own_ne OW.out SF.out (by decide))) (fun _ => ?_))
       clear hK K
       have fr0 := Fr.of_grew' g (F := fun i => V1.ownBlock = some i) (fun i e => e)
       have nG := Lib.hid (grew_fr G.out fr0 (fun i e => OB.out i e))
       have nSF := Lib.hid (SF.out.fr fr0 (own_ne OW.out SF.out (by decide)))
       have nZV := Lib.hid (ZV.out.fr fr0 (own_ne OW.out ZV.out (by decide)))
       have nBY := Lib.hid (BY.out.fr fr0 (fun i hi e => ON.out i e hi))
       have nQ1 := Lib.hid (show W6.heap.size ≤ q1 ∧ q1 < _ from ⟨Q1.out.1, Nat.lt_of_lt_of_le Q1.out.2 fr0.size⟩)
       clear fr0
       have nOB := Lib.hid (show ∀ b, V2.ownBlock = some b → W6.heap.size ≤ b from fun b hb => by
        rcases hor with e | e
        ·
         rw [e] at hb; exact OB.out b hb
        ·
         rw [e] at hb; cases hb; exact G.out.size)
       have nON := Lib.hid (show ∀ b, V2.ownBlock = some b → b ≠ q1 from fun b hb => by
        rcases hor with e | e
        ·
         rw [e] at hb; exact ON.out b hb
        ·
         rw [e] at hb; cases hb; have := Q1.out.2; omega)
       have nOW := Lib.hid hz
       clear G
       clear SF
       clear ZV
       clear OW
       clear BY
       clear Q1
       clear OB
       clear ON
       have G := nG
       have SF := nSF
       have ZV := nZV
       have OW := nOW
       have BY := nBY
       have Q1 := nQ1
       have OB := nOB
       have ON := nON
       clear nG nSF nZV nOW nBY nQ1 nOB nON
       clear hz g hor
       refine act_letter (fun T53 hT53 => ?_)
       replace d69 := (ev_at hT53 (by decide)).trans d69
       replace d12 := (ev_at hT53 (by decide)).trans d12
       clear d72 d74
       have d75 := ev_put hT53 (by omega)
       have szT53 := (sz_at hT53).trans szT51
       have HT53 := Lib.hid (show T51.put (some 75) (V2) = T53 from hT53)
       clear hT53 szT51
       refine wpAnyH_ready (rs := [7]) (by kernel_rfl) (by simp) ?_
       refine (AllReadyH.cons rfl (fun K hK => ?_) AllReadyH.nil)
       have OW2 := OW.out
       rw [HMS.out] at OW2
       obtain ⟨A3, c3, hV2, hl3, hb3⟩ := byt_of_own OW2
       have e75 := d75.trans hV2
       have e69 := d69.trans (val_eq f)
       refine wp_callG rfl rfl enter_readF (vs := #[.agg #[.int .i64 f.k, .int .i64 f.s, .int .i64 f.l, .int .i64 f.h, .int .i64 f.t, .slice f.A f.ps.length f.c], .slice A3 ms.length c3, .int .i64 0]) (by simp only [List.map_toArray, List.map_cons, List.map_nil, e69, e75]; rfl) ((CP9.out _ G.out A3 c3 hl3 hb3).mono ?_)
       rintro e x53 ⟨v, rfl, hv, hnf, g, hhi⟩
       have VO := Lib.hid (hhi.offn (F := fun i => i = z) (fun i e => by subst e; exact ZV.out.lt))
       refine ⟨_, rfl, hK.out _ _ (SF.out.grew g (by simp)) (fun _ => ?_)⟩
       clear hK K
       have fr0 := fr_of g (F := fun _ => False)
       have nG := Lib.hid (grew_trans G.out g)
       have nSF := Lib.hid (SF.out.grew g (by simp))
       have nZV := Lib.hid (ZV.out.grew g (by simp))
       clear fr0
       clear G
       clear SF
       clear ZV
       have G := nG
       have SF := nSF
       have ZV := nZV
       clear nG nSF nZV
       have CV := Lib.hid (show v.In x53 ∧ v.nf = R2.v from ⟨hv, hnf⟩)
       clear hv hnf g hhi
       clear hV2 hl3 hb3 e75 e69 OW2
       refine act_letter (fun T55 hT55 => ?_)
       replace d12 := (ev_at hT55 (by decide)).trans d12
       clear d69 d75
       have d76 := ev_put hT55 (by omega)
       have szT55 := (sz_at hT55).trans szT53
       have HT55 := Lib.hid (show T53.put (some 76) (.tuple #[v.val, .int .i64 (R2.n : Int), .int .i64 R2.e]) = T55 from hT55)
       clear hT55 szT53
       refine wpAnyH_take (i := 8) (v := .tuple #[v.val, .int .i64 (R2.n : Int), .int .i64 R2.e]) rfl (by kernel_rfl) (by kernel_rfl) (by kernel_rfl) (fun _ _ _ h => h) (.inl ⟨rfl, fun w g => run_moveV rfl d76 w⟩) SF.out ?_
       refine act_letter (fun T56 hT56 => ?_)
       replace d12 := (ev_at hT56 (by decide)).trans d12
       clear d76
       have d68 := ev_put hT56 (by omega)
       have szT56 := (sz_at hT56).trans szT55
       have HT56 := Lib.hid (show T55.put (some 68) (.tuple #[v.val, .int .i64 (R2.n : Int), .int .i64 R2.e]) = T56 from hT56)
       clear hT56 szT55
       refine wpAnyH_take (i := 9) (v := v.val) rfl (by kernel_rfl) (by kernel_rfl) (by kernel_rfl) (fun _ _ _ h => h) (.inl ⟨rfl, fun w g => run_ext30 rfl d68 w⟩) SF.out ?_
       refine act_letter (fun T57 hT57 => ?_)
       replace d12 := (ev_at hT57 (by decide)).trans d12
       replace d68 := (ev_at hT57 (by decide)).trans d68
       have d77 := ev_put hT57 (by omega)
       have szT57 := (sz_at hT57).trans szT56
       have HT57 := Lib.hid (show T56.put (some 77) (v.val) = T57 from hT57)
       clear hT57 szT56
       refine wpAnyH_take (i := 10) (v := .int .i64 (R2.n : Int)) rfl (by kernel_rfl) (by kernel_rfl) (by kernel_rfl) (fun _ _ _ h => h) (.inl ⟨rfl, fun w g => run_ext31 rfl d68 w⟩) SF.out ?_
       refine act_letter (fun T58 hT58 => ?_)
       replace d12 := (ev_at hT58 (by decide)).trans d12
       replace d68 := (ev_at hT58 (by decide)).trans d68
       replace d77 := (ev_at hT58 (by decide)).trans d77
       have d78 := ev_put hT58 (by omega)
       have szT58 := (sz_at hT58).trans szT57
       have HT58 := Lib.hid (show T57.put (some 78) (.int .i64 (R2.n : Int)) = T58 from hT58)
       clear hT58 szT57
       refine wpAnyH_take (i := 11) (v := .int .i64 R2.e) rfl (by kernel_rfl) (by kernel_rfl) (by kernel_rfl) (fun _ _ _ h => h) (.inl ⟨rfl, fun w g => run_ext32 rfl d68 w⟩) SF.out ?_
       refine act_letter (fun T59 hT59 => ?_)
       replace d12 := (ev_at hT59 (by decide)).trans d12
       replace d68 := (ev_at hT59 (by decide)).trans d68
       replace d77 := (ev_at hT59 (by decide)).trans d77
       replace d78 := (ev_at hT59 (by decide)).trans d78
       have d79 := ev_put hT59 (by omega)
       have szT59 := (sz_at hT59).trans szT58
       have HT59 := Lib.hid (show T58.put (some 79) (.int .i64 R2.e) = T59 from hT59)
       clear hT59 szT58
       refine wpAnyH_ready (rs := [13]) (by kernel_rfl) (by simp) ?_
       refine AllReadyH.cons rfl (fun K hK => ?_) AllReadyH.nil
       have nSF := Lib.hid (show Whole (putV x53 z v) q f.cells 24 from SF.out.fr (fr_put3 _ _ _ _ _) (fun e => Whole.ne SF.out ZV.out (by decide) e))
       have nCV := Lib.hid (show v.In (putV x53 z v) ∧ v.nf = R2.v from ⟨In.fr2 CV.out.1 (fr_put3 _ _ _ _ _) VO.out, CV.out.2⟩)
       have nG := Lib.hid (show Grew W6 (putV x53 z v) none from grew_put3 G.out ZL.out _ _ _)
       have nZV := Lib.hid (show Whole (putV x53 z v) z v.cells 35 from ZV.out.put3 _ _ _)
       refine wp_skipG rfl (w' := putV x53 z v) (run_storeVa rfl d12 d77 ZV.out) (hK.out _ _ nSF.out (fun _ => ?_))
       clear hK K
       clear SF
       clear CV
       clear G
       clear ZV
       have SF := nSF
       have CV := nCV
       have G := nG
       have ZV := nZV
       clear nSF nCV nG nZV
       refine act_letter (fun T60 hT60 => ?_)
       replace d12 : T60.eval (.tmp 12) = .pointer (some ⟨z, 0, none⟩) := by rw [← hT60]; exact d12
       replace d68 : T60.eval (.tmp 68) = .tuple #[v.val, .int .i64 (R2.n : Int), .int .i64 R2.e] := by rw [← hT60]; exact d68
       replace d77 : T60.eval (.tmp 77) = v.val := by rw [← hT60]; exact d77
       replace d78 : T60.eval (.tmp 78) = .int .i64 (R2.n : Int) := by rw [← hT60]; exact d78
       replace d79 : T60.eval (.tmp 79) = .int .i64 R2.e := by rw [← hT60]; exact d79
       have szT60 : T60.tmps.size = 109 := by rw [← hT60]; exact szT59
       have HT60 := Lib.hid (show T59 = T60 from hT60)
       clear hT60 szT59
       refine wpAnyH_take (i := 14) (v := .int .i64 (R2.n : Int)) rfl (by kernel_rfl) (by kernel_rfl) (by kernel_rfl) (fun _ _ _ h => h) (.inl ⟨rfl, fun w g => run_assign rfl d78 w⟩) SF.out ?_
       refine act_letter (fun T61 hT61 => ?_)
       replace d78 := (ev_at hT61 (by decide)).trans d78
       replace d79 := (ev_at hT61 (by decide)).trans d79
       clear d12 d68 d77
       have d13 := ev_put hT61 (by omega)
       have szT61 := (sz_at hT61).trans szT60
       have HT61 := Lib.hid (show T60.put (some 13) (.int .i64 (R2.n : Int)) = T61 from hT61)
       clear hT61 szT60
       refine wpAnyH_take (i := 15) (v := .int .i64 R2.e) rfl (by kernel_rfl) (by kernel_rfl) (by kernel_rfl) (fun _ _ _ h => h) (.inl ⟨rfl, fun w g => run_assign rfl d79 w⟩) SF.out ?_
       refine act_letter (fun T62 hT62 => ?_)
       replace d78 := (ev_at hT62 (by decide)).trans d78
       replace d79 := (ev_at hT62 (by decide)).trans d79
       replace d13 := (ev_at hT62 (by decide)).trans d13
       have d14 := ev_put hT62 (by omega)
       have szT62 := (sz_at hT62).trans szT61
       have HT62 := Lib.hid (show T61.put (some 14) (.int .i64 R2.e) = T62 from hT62)
       clear hT62 szT61
       refine wpAnyH_done (by kernel_rfl) ?_ _
       refine ⟨v, z, V0, V1, .slice (some ⟨q1, 0, none⟩) 1 1, V2, ?_, CV.out.1, CV.out.2, ZV.out, G.out⟩
       rw [← HT62.out, ← HT61.out, ← HT60.out, ← HT59.out, ← HT58.out, ← HT57.out, ← HT56.out, ← HT55.out, ← HT53.out, ← HT51.out, ← HT49.out, ← HT8.out, ← HT6.out, ← HT4.out, ← HT3.out, ← HT2.out, ← HT1.out]
       try simp only [Act.put, List.setIfInBounds_toArray, List.set_cons_zero, List.set_cons_succ]
     ·
      skip
      refine wp_new1 rfl rfl cb d73 (fun q1 x62 hz g hzl hzs => hK.out _ _ (SF.out.grew g (by simp)) (fun _ => ?_))
      clear hK K
      have fr0 := fr_of g (F := fun _ => False)
      have nG := Lib.hid (grew_trans G.out g)
      have nSF := Lib.hid (SF.out.grew g (by simp))
      have nOW := Lib.hid (own_fr OW.out fr0 (fun _ _ h => h))
      clear fr0
      have Q1 := Lib.hid (show W6.heap.size ≤ q1 ∧ q1 < _ from ⟨Nat.le_trans G.out.size hzl, hzs⟩)
      have ON := Lib.hid (show ∀ b, V0.ownBlock = some b → b ≠ q1 from fun b hb e => by have := own_lt OW.out b hb; omega)
      clear G
      clear SF
      clear OW
      have G := nG
      have SF := nSF
      have OW := nOW
      clear nG nSF nOW
      have BY := Lib.hid hz
      clear hz g hzl hzs
      refine act_letter (fun T64 hT64 => ?_)
      replace d69 := (ev_at hT64 (by decide)).trans d69
      replace d71 := (ev_at hT64 (by decide)).trans d71
      replace d70 := (ev_at hT64 (by decide)).trans d70
      clear d73
      have d74 := ev_put hT64 (by omega)
      have szT64 := (sz_at hT64).trans szT6
      have HT64 := Lib.hid (show T6.put (some 74) (.slice (some ⟨q1, 0, none⟩) 1 1) = T64 from hT64)
      clear hT64 szT6
      refine wpAnyH_ready (rs := [3, 12]) (by kernel_rfl) (by simp) ?_
      refine (AllReadyH.cons rfl (fun K hK => ?_) (AllReadyH.cons rfl (fun K hK => ?_) AllReadyH.nil))
      ·
       skip
       refine wp_appB rfl rfl OW.out d70 ((HBX.out.grew G.out (fun _ h => by cases h)).byf) c d71 (by have := HX.out; omega) (fun V1 x64 hz g hor => hK.out _ _ (SF.out.fr (Fr.of_grew' g (F := fun i => V0.ownBlock = some i) (fun i e => e)) (own_ne OW.out SF.out (by decide))) (fun _ => ?_))
       clear hK K
       have fr0 := Fr.of_grew' g (F := fun i => V0.ownBlock = some i) (fun i e => e)
       have nG := Lib.hid (grew_fr G.out fr0 (fun i e => OB.out i e))
       have nSF := Lib.hid (SF.out.fr fr0 (own_ne OW.out SF.out (by decide)))
       have nBY := Lib.hid (BY.out.fr fr0 (fun i hi e => ON.out i e hi))
       have nQ1 := Lib.hid (show W6.heap.size ≤ q1 ∧ q1 < _ from ⟨Q1.out.1, Nat.lt_of_lt_of_le Q1.out.2 fr0.size⟩)
       clear fr0
       have nOB := Lib.hid (show ∀ b, V1.ownBlock = some b → W6.heap.size ≤ b from fun b hb => by
        rcases hor with e | e
        ·
         rw [e] at hb; exact OB.out b hb
        ·
         rw [e] at hb; cases hb; exact G.out.size)
       have nON := Lib.hid (show ∀ b, V1.ownBlock = some b → b ≠ q1 from fun b hb => by
        rcases hor with e | e
        ·
         rw [e] at hb; exact ON.out b hb
        ·
         rw [e] at hb; cases hb; have := Q1.out.2; omega)
       have nOW := Lib.hid hz
       clear G
       clear SF
       clear OW
       clear BY
       clear Q1
       clear OB
       clear ON
       have G := nG
       have SF := nSF
       have OW := nOW
       have BY := nBY
       have Q1 := nQ1
       have OB := nOB
       have ON := nON
       clear nG nSF nOW nBY nQ1 nOB nON
       clear hz g hor
       refine act_letter (fun T66 hT66 => ?_)
       replace d69 := (ev_at hT66 (by decide)).trans d69
       replace d74 := (ev_at hT66 (by decide)).trans d74
       clear d71 d70
       have d72 := ev_put hT66 (by omega)
       have szT66 := (sz_at hT66).trans szT64
       have HT66 := Lib.hid (show T64.put (some 72) (V1) = T66 from hT66)
       clear hT66 szT64
       refine wpAnyH_ready (rs := [6, 12]) (by kernel_rfl) (by simp) ?_
       refine (AllReadyH.cons rfl (fun K hK => ?_) (AllReadyH.cons rfl (fun K hK => ?_) AllReadyH.nil))
       ·
        skip
        refine wp_appB rfl rfl OW.out d72 (BY.out) 1 d74 (by have := HX.out; simp; omega) (fun V2 x66 hz g hor => hK.out _ _ (SF.out.fr (Fr.of_grew' g (F := fun i => V1.ownBlock = some i) (fun i e => e)) (own_ne OW.out SF.out (by decide))) (fun _ => ?_))
        clear hK K
        have fr0 := Fr.of_grew' g (F := fun i => V1.ownBlock = some i) (fun i e => e)
        have nG := Lib.hid (grew_fr G.out fr0 (fun i e => OB.out i e))
        have nSF := Lib.hid (SF.out.fr fr0 (own_ne OW.out SF.out (by decide)))
        have nBY := Lib.hid (BY.out.fr fr0 (fun i hi e => ON.out i e hi))
        have nQ1 := Lib.hid (show W6.heap.size ≤ q1 ∧ q1 < _ from ⟨Q1.out.1, Nat.lt_of_lt_of_le Q1.out.2 fr0.size⟩)
        clear fr0
        have nOB := Lib.hid (show ∀ b, V2.ownBlock = some b → W6.heap.size ≤ b from fun b hb => by
         rcases hor with e | e
         ·
          rw [e] at hb; exact OB.out b hb
         ·
          rw [e] at hb; cases hb; exact G.out.size)
        have nON := Lib.hid (show ∀ b, V2.ownBlock = some b → b ≠ q1 from fun b hb => by
         rcases hor with e | e
         ·
          rw [e] at hb; exact ON.out b hb
         ·
          rw [e] at hb; cases hb; have := Q1.out.2; omega)
        have nOW := Lib.hid hz
        clear G
        clear SF
        clear OW
        clear BY
        clear Q1
        clear OB
        clear ON
        have G := nG
        have SF := nSF
        have OW := nOW
        have BY := nBY
        have Q1 := nQ1
        have OB := nOB
        have ON := nON
        clear nG nSF nOW nBY nQ1 nOB nON
        clear hz g hor
        refine act_letter (fun T68 hT68 => ?_)
        replace d69 := (ev_at hT68 (by decide)).trans d69
        clear d74 d72
        have d75 := ev_put hT68 (by omega)
        have szT68 := (sz_at hT68).trans szT66
        have HT68 := Lib.hid (show T66.put (some 75) (V2) = T68 from hT68)
        clear hT68 szT66
        refine wpAnyH_ready (rs := [7, 12]) (by kernel_rfl) (by simp) ?_
        refine (AllReadyH.cons rfl (fun K hK => ?_) (AllReadyH.cons rfl (fun K hK => ?_) AllReadyH.nil))
        ·
         skip
         have OW2 := OW.out
         rw [HMS.out] at OW2
         obtain ⟨A3, c3, hV2, hl3, hb3⟩ := byt_of_own OW2
         have e75 := d75.trans hV2
         have e69 := d69.trans (val_eq f)
         refine wp_callG rfl rfl enter_readF (vs := #[.agg #[.int .i64 f.k, .int .i64 f.s, .int .i64 f.l, .int .i64 f.h, .int .i64 f.t, .slice f.A f.ps.length f.c], .slice A3 ms.length c3, .int .i64 0]) (by simp only [List.map_toArray, List.map_cons, List.map_nil, e69, e75]; rfl) ((CP9.out _ G.out A3 c3 hl3 hb3).mono ?_)
         rintro e x68 ⟨v, rfl, hv, hnf, g, hhi⟩
         refine ⟨_, rfl, hK.out _ _ (SF.out.grew g (by simp)) (fun _ => ?_)⟩
         clear hK K
         have fr0 := fr_of g (F := fun _ => False)
         have nG := Lib.hid (grew_trans G.out g)
         have nSF := Lib.hid (SF.out.grew g (by simp))
         clear fr0
         clear G
         clear SF
         have G := nG
         have SF := nSF
         clear nG nSF
         have CV := Lib.hid (show v.In x68 ∧ v.nf = R2.v from ⟨hv, hnf⟩)
         clear hv hnf g hhi
         clear hV2 hl3 hb3 e75 e69 OW2
         refine act_letter (fun T70 hT70 => ?_)
         clear d69 d75
         have d76 := ev_put hT70 (by omega)
         have szT70 := (sz_at hT70).trans szT68
         have HT70 := Lib.hid (show T68.put (some 76) (.tuple #[v.val, .int .i64 (R2.n : Int), .int .i64 R2.e]) = T70 from hT70)
         clear hT70 szT68
         refine wpAnyH_take (i := 8) (v := .tuple #[v.val, .int .i64 (R2.n : Int), .int .i64 R2.e]) rfl (by kernel_rfl) (by kernel_rfl) (by kernel_rfl) (fun _ _ _ h => h) (.inl ⟨rfl, fun w g => run_moveV rfl d76 w⟩) SF.out ?_
         refine act_letter (fun T71 hT71 => ?_)
         clear d76
         have d68 := ev_put hT71 (by omega)
         have szT71 := (sz_at hT71).trans szT70
         have HT71 := Lib.hid (show T70.put (some 68) (.tuple #[v.val, .int .i64 (R2.n : Int), .int .i64 R2.e]) = T71 from hT71)
         clear hT71 szT70
         refine wpAnyH_take (i := 9) (v := v.val) rfl (by kernel_rfl) (by kernel_rfl) (by kernel_rfl) (fun _ _ _ h => h) (.inl ⟨rfl, fun w g => run_ext30 rfl d68 w⟩) SF.out ?_
         refine act_letter (fun T72 hT72 => ?_)
         replace d68 := (ev_at hT72 (by decide)).trans d68
         have d77 := ev_put hT72 (by omega)
         have szT72 := (sz_at hT72).trans szT71
         have HT72 := Lib.hid (show T71.put (some 77) (v.val) = T72 from hT72)
         clear hT72 szT71
         refine wpAnyH_take (i := 10) (v := .int .i64 (R2.n : Int)) rfl (by kernel_rfl) (by kernel_rfl) (by kernel_rfl) (fun _ _ _ h => h) (.inl ⟨rfl, fun w g => run_ext31 rfl d68 w⟩) SF.out ?_
         refine act_letter (fun T73 hT73 => ?_)
         replace d68 := (ev_at hT73 (by decide)).trans d68
         replace d77 := (ev_at hT73 (by decide)).trans d77
         have d78 := ev_put hT73 (by omega)
         have szT73 := (sz_at hT73).trans szT72
         have HT73 := Lib.hid (show T72.put (some 78) (.int .i64 (R2.n : Int)) = T73 from hT73)
         clear hT73 szT72
         refine wpAnyH_take (i := 11) (v := .int .i64 R2.e) rfl (by kernel_rfl) (by kernel_rfl) (by kernel_rfl) (fun _ _ _ h => h) (.inl ⟨rfl, fun w g => run_ext32 rfl d68 w⟩) SF.out ?_
         refine act_letter (fun T74 hT74 => ?_)
         replace d68 := (ev_at hT74 (by decide)).trans d68
         replace d77 := (ev_at hT74 (by decide)).trans d77
         replace d78 := (ev_at hT74 (by decide)).trans d78
         have d79 := ev_put hT74 (by omega)
         have szT74 := (sz_at hT74).trans szT73
         have HT74 := Lib.hid (show T73.put (some 79) (.int .i64 R2.e) = T74 from hT74)
         clear hT74 szT73
         refine wpAnyH_ready (rs := [12]) (by kernel_rfl) (by simp) ?_
         refine (AllReadyH.cons rfl (fun K hK => ?_) AllReadyH.nil)
         refine wp_newVq rfl rfl (fun z x74 hz g hzl => hK.out _ _ (SF.out.grew g (by simp)) (fun _ => ?_))
         clear hK K
         have fr0 := fr_of g (F := fun _ => False)
         have nG := Lib.hid (grew_trans G.out g)
         have nSF := Lib.hid (SF.out.grew g (by simp))
         have nCV := Lib.hid (show v.In _ ∧ v.nf = R2.v from ⟨CV.out.1.grew g, CV.out.2⟩)
         clear fr0
         have ZL := Lib.hid (show W6.heap.size ≤ z from Nat.le_trans G.out.size hzl)
         have VO := Lib.hid (CV.out.1.offn (F := fun i => i = z) (fun i e => by subst e; exact hzl))
         clear G
         clear SF
         clear CV
         have G := nG
         have SF := nSF
         have CV := nCV
         clear nG nSF nCV
         have ZV := Lib.hid hz
         clear hz g hzl
         refine act_letter (fun T76 hT76 => ?_)
         replace d77 := (ev_at hT76 (by decide)).trans d77
         replace d78 := (ev_at hT76 (by decide)).trans d78
         replace d79 := (ev_at hT76 (by decide)).trans d79
         clear d68
         have d12 := ev_put hT76 (by omega)
         have szT76 := (sz_at hT76).trans szT74
         have HT76 := Lib.hid (show T74.put (some 12) (.pointer (some ⟨z, 0, none⟩)) = T76 from hT76)
         clear hT76 szT74
         refine wpAnyH_ready (rs := [13]) (by kernel_rfl) (by simp) ?_
         refine AllReadyH.cons rfl (fun K hK => ?_) AllReadyH.nil
         have nSF := Lib.hid (show Whole (putV x74 z v) q f.cells 24 from SF.out.fr (fr_put3 _ _ _ _ _) (fun e => Whole.ne SF.out ZV.out (by decide) e))
         have nCV := Lib.hid (show v.In (putV x74 z v) ∧ v.nf = R2.v from ⟨In.fr2 CV.out.1 (fr_put3 _ _ _ _ _) VO.out, CV.out.2⟩)
         have nG := Lib.hid (show Grew W6 (putV x74 z v) none from grew_put3 G.out ZL.out _ _ _)
         have nZV := Lib.hid (show Whole (putV x74 z v) z v.cells 35 from ZV.out.put3 _ _ _)
         refine wp_skipG rfl (w' := putV x74 z v) (run_storeVa rfl d12 d77 ZV.out) (hK.out _ _ nSF.out (fun _ => ?_))
         clear hK K
         clear SF
         clear CV
         clear G
         clear ZV
         have SF := nSF
         have CV := nCV
         have G := nG
         have ZV := nZV
         clear nSF nCV nG nZV
         refine act_letter (fun T77 hT77 => ?_)
         replace d77 : T77.eval (.tmp 77) = v.val := by rw [← hT77]; exact d77
         replace d78 : T77.eval (.tmp 78) = .int .i64 (R2.n : Int) := by rw [← hT77]; exact d78
         replace d79 : T77.eval (.tmp 79) = .int .i64 R2.e := by rw [← hT77]; exact d79
         replace d12 : T77.eval (.tmp 12) = .pointer (some ⟨z, 0, none⟩) := by rw [← hT77]; exact d12
         have szT77 : T77.tmps.size = 109 := by rw [← hT77]; exact szT76
         have HT77 := Lib.hid (show T76 = T77 from hT77)
         clear hT77 szT76
         refine wpAnyH_take (i := 14) (v := .int .i64 (R2.n : Int)) rfl (by kernel_rfl) (by kernel_rfl) (by kernel_rfl) (fun _ _ _ h => h) (.inl ⟨rfl, fun w g => run_assign rfl d78 w⟩) SF.out ?_
         refine act_letter (fun T78 hT78 => ?_)
         replace d78 := (ev_at hT78 (by decide)).trans d78
         replace d79 := (ev_at hT78 (by decide)).trans d79
         clear d77 d12
         have d13 := ev_put hT78 (by omega)
         have szT78 := (sz_at hT78).trans szT77
         have HT78 := Lib.hid (show T77.put (some 13) (.int .i64 (R2.n : Int)) = T78 from hT78)
         clear hT78 szT77
         refine wpAnyH_take (i := 15) (v := .int .i64 R2.e) rfl (by kernel_rfl) (by kernel_rfl) (by kernel_rfl) (fun _ _ _ h => h) (.inl ⟨rfl, fun w g => run_assign rfl d79 w⟩) SF.out ?_
         refine act_letter (fun T79 hT79 => ?_)
         replace d78 := (ev_at hT79 (by decide)).trans d78
         replace d79 := (ev_at hT79 (by decide)).trans d79
         replace d13 := (ev_at hT79 (by decide)).trans d13
         have d14 := ev_put hT79 (by omega)
         have szT79 := (sz_at hT79).trans szT78
         have HT79 := Lib.hid (show T78.put (some 14) (.int .i64 R2.e) = T79 from hT79)
         clear hT79 szT78
         refine wpAnyH_done (by kernel_rfl) ?_ _
         refine ⟨v, z, V0, V1, .slice (some ⟨q1, 0, none⟩) 1 1, V2, ?_, CV.out.1, CV.out.2, ZV.out, G.out⟩
         rw [← HT79.out, ← HT78.out, ← HT77.out, ← HT76.out, ← HT74.out, ← HT73.out, ← HT72.out, ← HT71.out, ← HT70.out, ← HT68.out, ← HT66.out, ← HT64.out, ← HT6.out, ← HT4.out, ← HT3.out, ← HT2.out, ← HT1.out]
         try simp only [Act.put, List.setIfInBounds_toArray, List.set_cons_zero, List.set_cons_succ]
        ·
         skip
         refine wp_newVq rfl rfl (fun z x79 hz g hzl => hK.out _ _ (SF.out.grew g (by simp)) (fun _ => ?_))
         clear hK K
         have fr0 := fr_of g (F := fun _ => False)
         have nG := Lib.hid (grew_trans G.out g)
         have nSF := Lib.hid (SF.out.grew g (by simp))
         have nOW := Lib.hid (own_fr OW.out fr0 (fun _ _ h => h))
         have nBY := Lib.hid (BY.out.fr fr0 (fun _ _ h => h))
         have nQ1 := Lib.hid (show W6.heap.size ≤ q1 ∧ q1 < _ from ⟨Q1.out.1, Nat.lt_of_lt_of_le Q1.out.2 g.size⟩)
         clear fr0
         have ZL := Lib.hid (show W6.heap.size ≤ z from Nat.le_trans G.out.size hzl)
         clear G
         clear SF
         clear OW
         clear BY
         clear Q1
         have G := nG
         have SF := nSF
         have OW := nOW
         have BY := nBY
         have Q1 := nQ1
         clear nG nSF nOW nBY nQ1
         have ZV := Lib.hid hz
         clear hz g hzl
         refine act_letter (fun T81 hT81 => ?_)
         replace d69 := (ev_at hT81 (by decide)).trans d69
         replace d75 := (ev_at hT81 (by decide)).trans d75
         have d12 := ev_put hT81 (by omega)
         have szT81 := (sz_at hT81).trans szT68
         have HT81 := Lib.hid (show T68.put (some 12) (.pointer (some ⟨z, 0, none⟩)) = T81 from hT81)
         clear hT81 szT68
         refine wpAnyH_ready (rs := [7]) (by kernel_rfl) (by simp) ?_
         refine (AllReadyH.cons rfl (fun K hK => ?_) AllReadyH.nil)
         have OW2 := OW.out
         rw [HMS.out] at OW2
         obtain ⟨A3, c3, hV2, hl3, hb3⟩ := byt_of_own OW2
         have e75 := d75.trans hV2
         have e69 := d69.trans (val_eq f)
         refine wp_callG rfl rfl enter_readF (vs := #[.agg #[.int .i64 f.k, .int .i64 f.s, .int .i64 f.l, .int .i64 f.h, .int .i64 f.t, .slice f.A f.ps.length f.c], .slice A3 ms.length c3, .int .i64 0]) (by simp only [List.map_toArray, List.map_cons, List.map_nil, e69, e75]; rfl) ((CP9.out _ G.out A3 c3 hl3 hb3).mono ?_)
         rintro e x81 ⟨v, rfl, hv, hnf, g, hhi⟩
         have VO := Lib.hid (hhi.offn (F := fun i => i = z) (fun i e => by subst e; exact ZV.out.lt))
         refine ⟨_, rfl, hK.out _ _ (SF.out.grew g (by simp)) (fun _ => ?_)⟩
         clear hK K
         have fr0 := fr_of g (F := fun _ => False)
         have nG := Lib.hid (grew_trans G.out g)
         have nSF := Lib.hid (SF.out.grew g (by simp))
         have nZV := Lib.hid (ZV.out.grew g (by simp))
         clear fr0
         clear G
         clear SF
         clear ZV
         have G := nG
         have SF := nSF
         have ZV := nZV
         clear nG nSF nZV
         have CV := Lib.hid (show v.In x81 ∧ v.nf = R2.v from ⟨hv, hnf⟩)
         clear hv hnf g hhi
         clear hV2 hl3 hb3 e75 e69 OW2
         refine act_letter (fun T83 hT83 => ?_)
         replace d12 := (ev_at hT83 (by decide)).trans d12
         clear d69 d75
         have d76 := ev_put hT83 (by omega)
         have szT83 := (sz_at hT83).trans szT81
         have HT83 := Lib.hid (show T81.put (some 76) (.tuple #[v.val, .int .i64 (R2.n : Int), .int .i64 R2.e]) = T83 from hT83)
         clear hT83 szT81
         refine wpAnyH_take (i := 8) (v := .tuple #[v.val, .int .i64 (R2.n : Int), .int .i64 R2.e]) rfl (by kernel_rfl) (by kernel_rfl) (by kernel_rfl) (fun _ _ _ h => h) (.inl ⟨rfl, fun w g => run_moveV rfl d76 w⟩) SF.out ?_
         refine act_letter (fun T84 hT84 => ?_)
         replace d12 := (ev_at hT84 (by decide)).trans d12
         clear d76
         have d68 := ev_put hT84 (by omega)
         have szT84 := (sz_at hT84).trans szT83
         have HT84 := Lib.hid (show T83.put (some 68) (.tuple #[v.val, .int .i64 (R2.n : Int), .int .i64 R2.e]) = T84 from hT84)
         clear hT84 szT83
         refine wpAnyH_take (i := 9) (v := v.val) rfl (by kernel_rfl) (by kernel_rfl) (by kernel_rfl) (fun _ _ _ h => h) (.inl ⟨rfl, fun w g => run_ext30 rfl d68 w⟩) SF.out ?_
         refine act_letter (fun T85 hT85 => ?_)
         replace d12 := (ev_at hT85 (by decide)).trans d12
         replace d68 := (ev_at hT85 (by decide)).trans d68
         have d77 := ev_put hT85 (by omega)
         have szT85 := (sz_at hT85).trans szT84
         have HT85 := Lib.hid (show T84.put (some 77) (v.val) = T85 from hT85)
         clear hT85 szT84
         refine wpAnyH_take (i := 10) (v := .int .i64 (R2.n : Int)) rfl (by kernel_rfl) (by kernel_rfl) (by kernel_rfl) (fun _ _ _ h => h) (.inl ⟨rfl, fun w g => run_ext31 rfl d68 w⟩) SF.out ?_
         refine act_letter (fun T86 hT86 => ?_)
         replace d12 := (ev_at hT86 (by decide)).trans d12
         replace d68 := (ev_at hT86 (by decide)).trans d68
         replace d77 := (ev_at hT86 (by decide)).trans d77
         have d78 := ev_put hT86 (by omega)
         have szT86 := (sz_at hT86).trans szT85
         have HT86 := Lib.hid (show T85.put (some 78) (.int .i64 (R2.n : Int)) = T86 from hT86)
         clear hT86 szT85
         refine wpAnyH_take (i := 11) (v := .int .i64 R2.e) rfl (by kernel_rfl) (by kernel_rfl) (by kernel_rfl) (fun _ _ _ h => h) (.inl ⟨rfl, fun w g => run_ext32 rfl d68 w⟩) SF.out ?_
         refine act_letter (fun T87 hT87 => ?_)
         replace d12 := (ev_at hT87 (by decide)).trans d12
         replace d68 := (ev_at hT87 (by decide)).trans d68
         replace d77 := (ev_at hT87 (by decide)).trans d77
         replace d78 := (ev_at hT87 (by decide)).trans d78
         have d79 := ev_put hT87 (by omega)
         have szT87 := (sz_at hT87).trans szT86
         have HT87 := Lib.hid (show T86.put (some 79) (.int .i64 R2.e) = T87 from hT87)
         clear hT87 szT86
         refine wpAnyH_ready (rs := [13]) (by kernel_rfl) (by simp) ?_
         refine AllReadyH.cons rfl (fun K hK => ?_) AllReadyH.nil
         have nSF := Lib.hid (show Whole (putV x81 z v) q f.cells 24 from SF.out.fr (fr_put3 _ _ _ _ _) (fun e => Whole.ne SF.out ZV.out (by decide) e))
         have nCV := Lib.hid (show v.In (putV x81 z v) ∧ v.nf = R2.v from ⟨In.fr2 CV.out.1 (fr_put3 _ _ _ _ _) VO.out, CV.out.2⟩)
         have nG := Lib.hid (show Grew W6 (putV x81 z v) none from grew_put3 G.out ZL.out _ _ _)
         have nZV := Lib.hid (show Whole (putV x81 z v) z v.cells 35 from ZV.out.put3 _ _ _)
         refine wp_skipG rfl (w' := putV x81 z v) (run_storeVa rfl d12 d77 ZV.out) (hK.out _ _ nSF.out (fun _ => ?_))
         clear hK K
         clear SF
         clear CV
         clear G
         clear ZV
         have SF := nSF
         have CV := nCV
         have G := nG
         have ZV := nZV
         clear nSF nCV nG nZV
         refine act_letter (fun T88 hT88 => ?_)
         replace d12 : T88.eval (.tmp 12) = .pointer (some ⟨z, 0, none⟩) := by rw [← hT88]; exact d12
         replace d68 : T88.eval (.tmp 68) = .tuple #[v.val, .int .i64 (R2.n : Int), .int .i64 R2.e] := by rw [← hT88]; exact d68
         replace d77 : T88.eval (.tmp 77) = v.val := by rw [← hT88]; exact d77
         replace d78 : T88.eval (.tmp 78) = .int .i64 (R2.n : Int) := by rw [← hT88]; exact d78
         replace d79 : T88.eval (.tmp 79) = .int .i64 R2.e := by rw [← hT88]; exact d79
         have szT88 : T88.tmps.size = 109 := by rw [← hT88]; exact szT87
         have HT88 := Lib.hid (show T87 = T88 from hT88)
         clear hT88 szT87
         refine wpAnyH_take (i := 14) (v := .int .i64 (R2.n : Int)) rfl (by kernel_rfl) (by kernel_rfl) (by kernel_rfl) (fun _ _ _ h => h) (.inl ⟨rfl, fun w g => run_assign rfl d78 w⟩) SF.out ?_
         refine act_letter (fun T89 hT89 => ?_)
         replace d78 := (ev_at hT89 (by decide)).trans d78
         replace d79 := (ev_at hT89 (by decide)).trans d79
         clear d12 d68 d77
         have d13 := ev_put hT89 (by omega)
         have szT89 := (sz_at hT89).trans szT88
         have HT89 := Lib.hid (show T88.put (some 13) (.int .i64 (R2.n : Int)) = T89 from hT89)
         clear hT89 szT88
         refine wpAnyH_take (i := 15) (v := .int .i64 R2.e) rfl (by kernel_rfl) (by kernel_rfl) (by kernel_rfl) (fun _ _ _ h => h) (.inl ⟨rfl, fun w g => run_assign rfl d79 w⟩) SF.out ?_
         refine act_letter (fun T90 hT90 => ?_)
         replace d78 := (ev_at hT90 (by decide)).trans d78
         replace d79 := (ev_at hT90 (by decide)).trans d79
         replace d13 := (ev_at hT90 (by decide)).trans d13
         have d14 := ev_put hT90 (by omega)
         have szT90 := (sz_at hT90).trans szT89
         have HT90 := Lib.hid (show T89.put (some 14) (.int .i64 R2.e) = T90 from hT90)
         clear hT90 szT89
         refine wpAnyH_done (by kernel_rfl) ?_ _
         refine ⟨v, z, V0, V1, .slice (some ⟨q1, 0, none⟩) 1 1, V2, ?_, CV.out.1, CV.out.2, ZV.out, G.out⟩
         rw [← HT90.out, ← HT89.out, ← HT88.out, ← HT87.out, ← HT86.out, ← HT85.out, ← HT84.out, ← HT83.out, ← HT81.out, ← HT68.out, ← HT66.out, ← HT64.out, ← HT6.out, ← HT4.out, ← HT3.out, ← HT2.out, ← HT1.out]
         try simp only [Act.put, List.setIfInBounds_toArray, List.set_cons_zero, List.set_cons_succ]
       ·
        skip
        refine wp_newVq rfl rfl (fun z x90 hz g hzl => hK.out _ _ (SF.out.grew g (by simp)) (fun _ => ?_))
        clear hK K
        have fr0 := fr_of g (F := fun _ => False)
        have nG := Lib.hid (grew_trans G.out g)
        have nSF := Lib.hid (SF.out.grew g (by simp))
        have nOW := Lib.hid (own_fr OW.out fr0 (fun _ _ h => h))
        have nBY := Lib.hid (BY.out.fr fr0 (fun _ _ h => h))
        have nQ1 := Lib.hid (show W6.heap.size ≤ q1 ∧ q1 < _ from ⟨Q1.out.1, Nat.lt_of_lt_of_le Q1.out.2 g.size⟩)
        clear fr0
        have ZL := Lib.hid (show W6.heap.size ≤ z from Nat.le_trans G.out.size hzl)
        clear G
        clear SF
        clear OW
        clear BY
        clear Q1
        have G := nG
        have SF := nSF
        have OW := nOW
        have BY := nBY
        have Q1 := nQ1
        clear nG nSF nOW nBY nQ1
        have ZV := Lib.hid hz
        clear hz g hzl
        refine act_letter (fun T92 hT92 => ?_)
        replace d69 := (ev_at hT92 (by decide)).trans d69
        replace d74 := (ev_at hT92 (by decide)).trans d74
        replace d72 := (ev_at hT92 (by decide)).trans d72
        have d12 := ev_put hT92 (by omega)
        have szT92 := (sz_at hT92).trans szT66
        have HT92 := Lib.hid (show T66.put (some 12) (.pointer (some ⟨z, 0, none⟩)) = T92 from hT92)
        clear hT92 szT66
        refine wpAnyH_ready (rs := [6]) (by kernel_rfl) (by simp) ?_
        refine (AllReadyH.cons rfl (fun K hK => ?_) AllReadyH.nil)
        refine wp_appB rfl rfl OW.out d72 (BY.out) 1 d74 (by have := HX.out; simp; omega) (fun V2 x92 hz g hor => hK.out _ _ (SF.out.fr (Fr.of_grew' g (F := fun i => V1.ownBlock = some i) (fun i e => e)) (own_ne OW.out SF.out (by decide))) (fun _ => ?_))
        clear hK K
        have fr0 := Fr.of_grew' g (F := fun i => V1.ownBlock = some i) (fun i e => e)
        have nG := Lib.hid (grew_fr G.out fr0 (fun i e => OB.out i e))
        have nSF := Lib.hid (SF.out.fr fr0 (own_ne OW.out SF.out (by decide)))
        have nZV := Lib.hid (ZV.out.fr fr0 (own_ne OW.out ZV.out (by decide)))
        have nBY := Lib.hid (BY.out.fr fr0 (fun i hi e => ON.out i e hi))
        have nQ1 := Lib.hid (show W6.heap.size ≤ q1 ∧ q1 < _ from ⟨Q1.out.1, Nat.lt_of_lt_of_le Q1.out.2 fr0.size⟩)
        clear fr0
        have nOB := Lib.hid (show ∀ b, V2.ownBlock = some b → W6.heap.size ≤ b from fun b hb => by
         rcases hor with e | e
         ·
          rw [e] at hb; exact OB.out b hb
         ·
          rw [e] at hb; cases hb; exact G.out.size)
        have nON := Lib.hid (show ∀ b, V2.ownBlock = some b → b ≠ q1 from fun b hb => by
         rcases hor with e | e
         ·
          rw [e] at hb; exact ON.out b hb
         ·
          rw [e] at hb; cases hb; have := Q1.out.2; omega)
        have nOW := Lib.hid hz
        clear G
        clear SF
        clear ZV
        clear OW
        clear BY
        clear Q1
        clear OB
        clear ON
        have G := nG
        have SF := nSF
        have ZV := nZV
        have OW := nOW
        have BY := nBY
        have Q1 := nQ1
        have OB := nOB
        have ON := nON
        clear nG nSF nZV nOW nBY nQ1 nOB nON
        clear hz g hor
        refine act_letter (fun T94 hT94 => ?_)
        replace d69 := (ev_at hT94 (by decide)).trans d69
        replace d12 := (ev_at hT94 (by decide)).trans d12
        clear d74 d72
        have d75 := ev_put hT94 (by omega)
        have szT94 := (sz_at hT94).trans szT92
        have HT94 := Lib.hid (show T92.put (some 75) (V2) = T94 from hT94)
        clear hT94 szT92
        refine wpAnyH_ready (rs := [7]) (by kernel_rfl) (by simp) ?_
        refine (AllReadyH.cons rfl (fun K hK => ?_) AllReadyH.nil)
        have OW2 := OW.out
        rw [HMS.out] at OW2
        obtain ⟨A3, c3, hV2, hl3, hb3⟩ := byt_of_own OW2
        have e75 := d75.trans hV2
        have e69 := d69.trans (val_eq f)
        refine wp_callG rfl rfl enter_readF (vs := #[.agg #[.int .i64 f.k, .int .i64 f.s, .int .i64 f.l, .int .i64 f.h, .int .i64 f.t, .slice f.A f.ps.length f.c], .slice A3 ms.length c3, .int .i64 0]) (by simp only [List.map_toArray, List.map_cons, List.map_nil, e69, e75]; rfl) ((CP9.out _ G.out A3 c3 hl3 hb3).mono ?_)
        rintro e x94 ⟨v, rfl, hv, hnf, g, hhi⟩
        have VO := Lib.hid (hhi.offn (F := fun i => i = z) (fun i e => by subst e; exact ZV.out.lt))
        refine ⟨_, rfl, hK.out _ _ (SF.out.grew g (by simp)) (fun _ => ?_)⟩
        clear hK K
        have fr0 := fr_of g (F := fun _ => False)
        have nG := Lib.hid (grew_trans G.out g)
        have nSF := Lib.hid (SF.out.grew g (by simp))
        have nZV := Lib.hid (ZV.out.grew g (by simp))
        clear fr0
        clear G
        clear SF
        clear ZV
        have G := nG
        have SF := nSF
        have ZV := nZV
        clear nG nSF nZV
        have CV := Lib.hid (show v.In x94 ∧ v.nf = R2.v from ⟨hv, hnf⟩)
        clear hv hnf g hhi
        clear hV2 hl3 hb3 e75 e69 OW2
        refine act_letter (fun T96 hT96 => ?_)
        replace d12 := (ev_at hT96 (by decide)).trans d12
        clear d69 d75
        have d76 := ev_put hT96 (by omega)
        have szT96 := (sz_at hT96).trans szT94
        have HT96 := Lib.hid (show T94.put (some 76) (.tuple #[v.val, .int .i64 (R2.n : Int), .int .i64 R2.e]) = T96 from hT96)
        clear hT96 szT94
        refine wpAnyH_take (i := 8) (v := .tuple #[v.val, .int .i64 (R2.n : Int), .int .i64 R2.e]) rfl (by kernel_rfl) (by kernel_rfl) (by kernel_rfl) (fun _ _ _ h => h) (.inl ⟨rfl, fun w g => run_moveV rfl d76 w⟩) SF.out ?_
        refine act_letter (fun T97 hT97 => ?_)
        replace d12 := (ev_at hT97 (by decide)).trans d12
        clear d76
        have d68 := ev_put hT97 (by omega)
        have szT97 := (sz_at hT97).trans szT96
        have HT97 := Lib.hid (show T96.put (some 68) (.tuple #[v.val, .int .i64 (R2.n : Int), .int .i64 R2.e]) = T97 from hT97)
        clear hT97 szT96
        refine wpAnyH_take (i := 9) (v := v.val) rfl (by kernel_rfl) (by kernel_rfl) (by kernel_rfl) (fun _ _ _ h => h) (.inl ⟨rfl, fun w g => run_ext30 rfl d68 w⟩) SF.out ?_
        refine act_letter (fun T98 hT98 => ?_)
        replace d12 := (ev_at hT98 (by decide)).trans d12
        replace d68 := (ev_at hT98 (by decide)).trans d68
        have d77 := ev_put hT98 (by omega)
        have szT98 := (sz_at hT98).trans szT97
        have HT98 := Lib.hid (show T97.put (some 77) (v.val) = T98 from hT98)
        clear hT98 szT97
        refine wpAnyH_take (i := 10) (v := .int .i64 (R2.n : Int)) rfl (by kernel_rfl) (by kernel_rfl) (by kernel_rfl) (fun _ _ _ h => h) (.inl ⟨rfl, fun w g => run_ext31 rfl d68 w⟩) SF.out ?_
        refine act_letter (fun T99 hT99 => ?_)
        replace d12 := (ev_at hT99 (by decide)).trans d12
        replace d68 := (ev_at hT99 (by decide)).trans d68
        replace d77 := (ev_at hT99 (by decide)).trans d77
        have d78 := ev_put hT99 (by omega)
        have szT99 := (sz_at hT99).trans szT98
        have HT99 := Lib.hid (show T98.put (some 78) (.int .i64 (R2.n : Int)) = T99 from hT99)
        clear hT99 szT98
        refine wpAnyH_take (i := 11) (v := .int .i64 R2.e) rfl (by kernel_rfl) (by kernel_rfl) (by kernel_rfl) (fun _ _ _ h => h) (.inl ⟨rfl, fun w g => run_ext32 rfl d68 w⟩) SF.out ?_
        refine act_letter (fun T100 hT100 => ?_)
        replace d12 := (ev_at hT100 (by decide)).trans d12
        replace d68 := (ev_at hT100 (by decide)).trans d68
        replace d77 := (ev_at hT100 (by decide)).trans d77
        replace d78 := (ev_at hT100 (by decide)).trans d78
        have d79 := ev_put hT100 (by omega)
        have szT100 := (sz_at hT100).trans szT99
        have HT100 := Lib.hid (show T99.put (some 79) (.int .i64 R2.e) = T100 from hT100)
        clear hT100 szT99
        refine wpAnyH_ready (rs := [13]) (by kernel_rfl) (by simp) ?_
        refine AllReadyH.cons rfl (fun K hK => ?_) AllReadyH.nil
        have nSF := Lib.hid (show Whole (putV x94 z v) q f.cells 24 from SF.out.fr (fr_put3 _ _ _ _ _) (fun e => Whole.ne SF.out ZV.out (by decide) e))
        have nCV := Lib.hid (show v.In (putV x94 z v) ∧ v.nf = R2.v from ⟨In.fr2 CV.out.1 (fr_put3 _ _ _ _ _) VO.out, CV.out.2⟩)
        have nG := Lib.hid (show Grew W6 (putV x94 z v) none from grew_put3 G.out ZL.out _ _ _)
        have nZV := Lib.hid (show Whole (putV x94 z v) z v.cells 35 from ZV.out.put3 _ _ _)
        refine wp_skipG rfl (w' := putV x94 z v) (run_storeVa rfl d12 d77 ZV.out) (hK.out _ _ nSF.out (fun _ => ?_))
        clear hK K
        clear SF
        clear CV
        clear G
        clear ZV
        have SF := nSF
        have CV := nCV
        have G := nG
        have ZV := nZV
        clear nSF nCV nG nZV
        refine act_letter (fun T101 hT101 => ?_)
        replace d12 : T101.eval (.tmp 12) = .pointer (some ⟨z, 0, none⟩) := by rw [← hT101]; exact d12
        replace d68 : T101.eval (.tmp 68) = .tuple #[v.val, .int .i64 (R2.n : Int), .int .i64 R2.e] := by rw [← hT101]; exact d68
        replace d77 : T101.eval (.tmp 77) = v.val := by rw [← hT101]; exact d77
        replace d78 : T101.eval (.tmp 78) = .int .i64 (R2.n : Int) := by rw [← hT101]; exact d78
        replace d79 : T101.eval (.tmp 79) = .int .i64 R2.e := by rw [← hT101]; exact d79
        have szT101 : T101.tmps.size = 109 := by rw [← hT101]; exact szT100
        have HT101 := Lib.hid (show T100 = T101 from hT101)
        clear hT101 szT100
        refine wpAnyH_take (i := 14) (v := .int .i64 (R2.n : Int)) rfl (by kernel_rfl) (by kernel_rfl) (by kernel_rfl) (fun _ _ _ h => h) (.inl ⟨rfl, fun w g => run_assign rfl d78 w⟩) SF.out ?_
        refine act_letter (fun T102 hT102 => ?_)
        replace d78 := (ev_at hT102 (by decide)).trans d78
        replace d79 := (ev_at hT102 (by decide)).trans d79
        clear d12 d68 d77
        have d13 := ev_put hT102 (by omega)
        have szT102 := (sz_at hT102).trans szT101
        have HT102 := Lib.hid (show T101.put (some 13) (.int .i64 (R2.n : Int)) = T102 from hT102)
        clear hT102 szT101
        refine wpAnyH_take (i := 15) (v := .int .i64 R2.e) rfl (by kernel_rfl) (by kernel_rfl) (by kernel_rfl) (fun _ _ _ h => h) (.inl ⟨rfl, fun w g => run_assign rfl d79 w⟩) SF.out ?_
        refine act_letter (fun T103 hT103 => ?_)
        replace d78 := (ev_at hT103 (by decide)).trans d78
        replace d79 := (ev_at hT103 (by decide)).trans d79
        replace d13 := (ev_at hT103 (by decide)).trans d13
        have d14 := ev_put hT103 (by omega)
        have szT103 := (sz_at hT103).trans szT102
        have HT103 := Lib.hid (show T102.put (some 14) (.int .i64 R2.e) = T103 from hT103)
        clear hT103 szT102
        refine wpAnyH_done (by kernel_rfl) ?_ _
        refine ⟨v, z, V0, V1, .slice (some ⟨q1, 0, none⟩) 1 1, V2, ?_, CV.out.1, CV.out.2, ZV.out, G.out⟩
        rw [← HT103.out, ← HT102.out, ← HT101.out, ← HT100.out, ← HT99.out, ← HT98.out, ← HT97.out, ← HT96.out, ← HT94.out, ← HT92.out, ← HT66.out, ← HT64.out, ← HT6.out, ← HT4.out, ← HT3.out, ← HT2.out, ← HT1.out]
        try simp only [Act.put, List.setIfInBounds_toArray, List.set_cons_zero, List.set_cons_succ]
      ·
       skip
       refine wp_newVq rfl rfl (fun z x103 hz g hzl => hK.out _ _ (SF.out.grew g (by simp)) (fun _ => ?_))
       clear hK K
       have fr0 := fr_of g (F := fun _ => False)
       have nG := Lib.hid (grew_trans G.out g)
       have nSF := Lib.hid (SF.out.grew g (by simp))
       have nOW := Lib.hid (own_fr OW.out fr0 (fun _ _ h => h))
       have nBY := Lib.hid (BY.out.fr fr0 (fun _ _ h => h))
       have nQ1 := Lib.hid (show W6.heap.size ≤ q1 ∧ q1 < _ from ⟨Q1.out.1, Nat.lt_of_lt_of_le Q1.out.2 g.size⟩)
       clear fr0
       have ZL := Lib.hid (show W6.heap.size ≤ z from Nat.le_trans G.out.size hzl)
       clear G
       clear SF
       clear OW
       clear BY
       clear Q1
       have G := nG
       have SF := nSF
       have OW := nOW
       have BY := nBY
       have Q1 := nQ1
       clear nG nSF nOW nBY nQ1
       have ZV := Lib.hid hz
       clear hz g hzl
       refine act_letter (fun T105 hT105 => ?_)
       replace d69 := (ev_at hT105 (by decide)).trans d69
       replace d71 := (ev_at hT105 (by decide)).trans d71
       replace d70 := (ev_at hT105 (by decide)).trans d70
       replace d74 := (ev_at hT105 (by decide)).trans d74
       have d12 := ev_put hT105 (by omega)
       have szT105 := (sz_at hT105).trans szT64
       have HT105 := Lib.hid (show T64.put (some 12) (.pointer (some ⟨z, 0, none⟩)) = T105 from hT105)
       clear hT105 szT64
       refine wpAnyH_ready (rs := [3]) (by kernel_rfl) (by simp) ?_
       refine (AllReadyH.cons rfl (fun K hK => ?_) AllReadyH.nil)
       refine wp_appB rfl rfl OW.out d70 ((HBX.out.grew G.out (fun _ h => by cases h)).byf) c d71 (by have := HX.out; omega) (fun V1 x105 hz g hor => hK.out _ _ (SF.out.fr (Fr.of_grew' g (F := fun i => V0.ownBlock = some i) (fun i e => e)) (own_ne OW.out SF.out (by decide))) (fun _ => ?_))
       clear hK K
       have fr0 := Fr.of_grew' g (F := fun i => V0.ownBlock = some i) (fun i e => e)
       have nG := Lib.hid (grew_fr G.out fr0 (fun i e => OB.out i e))
       have nSF := Lib.hid (SF.out.fr fr0 (own_ne OW.out SF.out (by decide)))
       have nZV := Lib.hid (ZV.out.fr fr0 (own_ne OW.out ZV.out (by decide)))
       have nBY := Lib.hid (BY.out.fr fr0 (fun i hi e => ON.out i e hi))
       have nQ1 := Lib.hid (show W6.heap.size ≤ q1 ∧ q1 < _ from ⟨Q1.out.1, Nat.lt_of_lt_of_le Q1.out.2 fr0.size⟩)
       clear fr0
       have nOB := Lib.hid (show ∀ b, V1.ownBlock = some b → W6.heap.size ≤ b from fun b hb => by
        rcases hor with e | e
        ·
         rw [e] at hb; exact OB.out b hb
        ·
         rw [e] at hb; cases hb; exact G.out.size)
       have nON := Lib.hid (show ∀ b, V1.ownBlock = some b → b ≠ q1 from fun b hb => by
        rcases hor with e | e
        ·
         rw [e] at hb; exact ON.out b hb
        ·
         rw [e] at hb; cases hb; have := Q1.out.2; omega)
       have nOW := Lib.hid hz
       clear G
       clear SF
       clear ZV
       clear OW
       clear BY
       clear Q1
       clear OB
       clear ON
       have G := nG
       have SF := nSF
       have ZV := nZV
       have OW := nOW
       have BY := nBY
       have Q1 := nQ1
       have OB := nOB
       have ON := nON
       clear nG nSF nZV nOW nBY nQ1 nOB nON
       clear hz g hor
       refine act_letter (fun T107 hT107 => ?_)
       replace d69 := (ev_at hT107 (by decide)).trans d69
       replace d74 := (ev_at hT107 (by decide)).trans d74
       replace d12 := (ev_at hT107 (by decide)).trans d12
       clear d71 d70
       have d72 := ev_put hT107 (by omega)
       have szT107 := (sz_at hT107).trans szT105
       have HT107 := Lib.hid (show T105.put (some 72) (V1) = T107 from hT107)
       clear hT107 szT105
       refine wpAnyH_ready (rs := [6]) (by kernel_rfl) (by simp) ?_
       refine (AllReadyH.cons rfl (fun K hK => ?_) AllReadyH.nil)
       refine wp_appB rfl rfl OW.out d72 (BY.out) 1 d74 (by have := HX.out; simp; omega) (fun V2 x107 hz g hor => hK.out _ _ (SF.out.fr (Fr.of_grew' g (F := fun i => V1.ownBlock = some i) (fun i e => e)) (own_ne OW.out SF.out (by decide))) (fun _ => ?_))
       clear hK K
       have fr0 := Fr.of_grew' g (F := fun i => V1.ownBlock = some i) (fun i e => e)
       have nG := Lib.hid (grew_fr G.out fr0 (fun i e => OB.out i e))
       have nSF := Lib.hid (SF.out.fr fr0 (own_ne OW.out SF.out (by decide)))
       have nZV := Lib.hid (ZV.out.fr fr0 (own_ne OW.out ZV.out (by decide)))
       have nBY := Lib.hid (BY.out.fr fr0 (fun i hi e => ON.out i e hi))
       have nQ1 := Lib.hid (show W6.heap.size ≤ q1 ∧ q1 < _ from ⟨Q1.out.1, Nat.lt_of_lt_of_le Q1.out.2 fr0.size⟩)
       clear fr0
       have nOB := Lib.hid (show ∀ b, V2.ownBlock = some b → W6.heap.size ≤ b from fun b hb => by
        rcases hor with e | e
        ·
         rw [e] at hb; exact OB.out b hb
        ·
         rw [e] at hb; cases hb; exact G.out.size)
       have nON := Lib.hid (show ∀ b, V2.ownBlock = some b → b ≠ q1 from fun b hb => by
        rcases hor with e | e
        ·
         rw [e] at hb; exact ON.out b hb
        ·
         rw [e] at hb; cases hb; have := Q1.out.2; omega)
       have nOW := Lib.hid hz
       clear G
       clear SF
       clear ZV
       clear OW
       clear BY
       clear Q1
       clear OB
       clear ON
       have G := nG
       have SF := nSF
       have ZV := nZV
       have OW := nOW
       have BY := nBY
       have Q1 := nQ1
       have OB := nOB
       have ON := nON
       clear nG nSF nZV nOW nBY nQ1 nOB nON
       clear hz g hor
       refine act_letter (fun T109 hT109 => ?_)
       replace d69 := (ev_at hT109 (by decide)).trans d69
       replace d12 := (ev_at hT109 (by decide)).trans d12
       clear d74 d72
       have d75 := ev_put hT109 (by omega)
       have szT109 := (sz_at hT109).trans szT107
       have HT109 := Lib.hid (show T107.put (some 75) (V2) = T109 from hT109)
       clear hT109 szT107
       refine wpAnyH_ready (rs := [7]) (by kernel_rfl) (by simp) ?_
       refine (AllReadyH.cons rfl (fun K hK => ?_) AllReadyH.nil)
       have OW2 := OW.out
       rw [HMS.out] at OW2
       obtain ⟨A3, c3, hV2, hl3, hb3⟩ := byt_of_own OW2
       have e75 := d75.trans hV2
       have e69 := d69.trans (val_eq f)
       refine wp_callG rfl rfl enter_readF (vs := #[.agg #[.int .i64 f.k, .int .i64 f.s, .int .i64 f.l, .int .i64 f.h, .int .i64 f.t, .slice f.A f.ps.length f.c], .slice A3 ms.length c3, .int .i64 0]) (by simp only [List.map_toArray, List.map_cons, List.map_nil, e69, e75]; rfl) ((CP9.out _ G.out A3 c3 hl3 hb3).mono ?_)
       rintro e x109 ⟨v, rfl, hv, hnf, g, hhi⟩
       have VO := Lib.hid (hhi.offn (F := fun i => i = z) (fun i e => by subst e; exact ZV.out.lt))
       refine ⟨_, rfl, hK.out _ _ (SF.out.grew g (by simp)) (fun _ => ?_)⟩
       clear hK K
       have fr0 := fr_of g (F := fun _ => False)
       have nG := Lib.hid (grew_trans G.out g)
       have nSF := Lib.hid (SF.out.grew g (by simp))
       have nZV := Lib.hid (ZV.out.grew g (by simp))
       clear fr0
       clear G
       clear SF
       clear ZV
       have G := nG
       have SF := nSF
       have ZV := nZV
       clear nG nSF nZV
       have CV := Lib.hid (show v.In x109 ∧ v.nf = R2.v from ⟨hv, hnf⟩)
       clear hv hnf g hhi
       clear hV2 hl3 hb3 e75 e69 OW2
       refine act_letter (fun T111 hT111 => ?_)
       replace d12 := (ev_at hT111 (by decide)).trans d12
       clear d69 d75
       have d76 := ev_put hT111 (by omega)
       have szT111 := (sz_at hT111).trans szT109
       have HT111 := Lib.hid (show T109.put (some 76) (.tuple #[v.val, .int .i64 (R2.n : Int), .int .i64 R2.e]) = T111 from hT111)
       clear hT111 szT109
       refine wpAnyH_take (i := 8) (v := .tuple #[v.val, .int .i64 (R2.n : Int), .int .i64 R2.e]) rfl (by kernel_rfl) (by kernel_rfl) (by kernel_rfl) (fun _ _ _ h => h) (.inl ⟨rfl, fun w g => run_moveV rfl d76 w⟩) SF.out ?_
       refine act_letter (fun T112 hT112 => ?_)
       replace d12 := (ev_at hT112 (by decide)).trans d12
       clear d76
       have d68 := ev_put hT112 (by omega)
       have szT112 := (sz_at hT112).trans szT111
       have HT112 := Lib.hid (show T111.put (some 68) (.tuple #[v.val, .int .i64 (R2.n : Int), .int .i64 R2.e]) = T112 from hT112)
       clear hT112 szT111
       refine wpAnyH_take (i := 9) (v := v.val) rfl (by kernel_rfl) (by kernel_rfl) (by kernel_rfl) (fun _ _ _ h => h) (.inl ⟨rfl, fun w g => run_ext30 rfl d68 w⟩) SF.out ?_
       refine act_letter (fun T113 hT113 => ?_)
       replace d12 := (ev_at hT113 (by decide)).trans d12
       replace d68 := (ev_at hT113 (by decide)).trans d68
       have d77 := ev_put hT113 (by omega)
       have szT113 := (sz_at hT113).trans szT112
       have HT113 := Lib.hid (show T112.put (some 77) (v.val) = T113 from hT113)
       clear hT113 szT112
       refine wpAnyH_take (i := 10) (v := .int .i64 (R2.n : Int)) rfl (by kernel_rfl) (by kernel_rfl) (by kernel_rfl) (fun _ _ _ h => h) (.inl ⟨rfl, fun w g => run_ext31 rfl d68 w⟩) SF.out ?_
       refine act_letter (fun T114 hT114 => ?_)
       replace d12 := (ev_at hT114 (by decide)).trans d12
       replace d68 := (ev_at hT114 (by decide)).trans d68
       replace d77 := (ev_at hT114 (by decide)).trans d77
       have d78 := ev_put hT114 (by omega)
       have szT114 := (sz_at hT114).trans szT113
       have HT114 := Lib.hid (show T113.put (some 78) (.int .i64 (R2.n : Int)) = T114 from hT114)
       clear hT114 szT113
       refine wpAnyH_take (i := 11) (v := .int .i64 R2.e) rfl (by kernel_rfl) (by kernel_rfl) (by kernel_rfl) (fun _ _ _ h => h) (.inl ⟨rfl, fun w g => run_ext32 rfl d68 w⟩) SF.out ?_
       refine act_letter (fun T115 hT115 => ?_)
       replace d12 := (ev_at hT115 (by decide)).trans d12
       replace d68 := (ev_at hT115 (by decide)).trans d68
       replace d77 := (ev_at hT115 (by decide)).trans d77
       replace d78 := (ev_at hT115 (by decide)).trans d78
       have d79 := ev_put hT115 (by omega)
       have szT115 := (sz_at hT115).trans szT114
       have HT115 := Lib.hid (show T114.put (some 79) (.int .i64 R2.e) = T115 from hT115)
       clear hT115 szT114
       refine wpAnyH_ready (rs := [13]) (by kernel_rfl) (by simp) ?_
       refine AllReadyH.cons rfl (fun K hK => ?_) AllReadyH.nil
       have nSF := Lib.hid (show Whole (putV x109 z v) q f.cells 24 from SF.out.fr (fr_put3 _ _ _ _ _) (fun e => Whole.ne SF.out ZV.out (by decide) e))
       have nCV := Lib.hid (show v.In (putV x109 z v) ∧ v.nf = R2.v from ⟨In.fr2 CV.out.1 (fr_put3 _ _ _ _ _) VO.out, CV.out.2⟩)
       have nG := Lib.hid (show Grew W6 (putV x109 z v) none from grew_put3 G.out ZL.out _ _ _)
       have nZV := Lib.hid (show Whole (putV x109 z v) z v.cells 35 from ZV.out.put3 _ _ _)
       refine wp_skipG rfl (w' := putV x109 z v) (run_storeVa rfl d12 d77 ZV.out) (hK.out _ _ nSF.out (fun _ => ?_))
       clear hK K
       clear SF
       clear CV
       clear G
       clear ZV
       have SF := nSF
       have CV := nCV
       have G := nG
       have ZV := nZV
       clear nSF nCV nG nZV
       refine act_letter (fun T116 hT116 => ?_)
       replace d12 : T116.eval (.tmp 12) = .pointer (some ⟨z, 0, none⟩) := by rw [← hT116]; exact d12
       replace d68 : T116.eval (.tmp 68) = .tuple #[v.val, .int .i64 (R2.n : Int), .int .i64 R2.e] := by rw [← hT116]; exact d68
       replace d77 : T116.eval (.tmp 77) = v.val := by rw [← hT116]; exact d77
       replace d78 : T116.eval (.tmp 78) = .int .i64 (R2.n : Int) := by rw [← hT116]; exact d78
       replace d79 : T116.eval (.tmp 79) = .int .i64 R2.e := by rw [← hT116]; exact d79
       have szT116 : T116.tmps.size = 109 := by rw [← hT116]; exact szT115
       have HT116 := Lib.hid (show T115 = T116 from hT116)
       clear hT116 szT115
       refine wpAnyH_take (i := 14) (v := .int .i64 (R2.n : Int)) rfl (by kernel_rfl) (by kernel_rfl) (by kernel_rfl) (fun _ _ _ h => h) (.inl ⟨rfl, fun w g => run_assign rfl d78 w⟩) SF.out ?_
       refine act_letter (fun T117 hT117 => ?_)
       replace d78 := (ev_at hT117 (by decide)).trans d78
       replace d79 := (ev_at hT117 (by decide)).trans d79
       clear d12 d68 d77
       have d13 := ev_put hT117 (by omega)
       have szT117 := (sz_at hT117).trans szT116
       have HT117 := Lib.hid (show T116.put (some 13) (.int .i64 (R2.n : Int)) = T117 from hT117)
       clear hT117 szT116
       refine wpAnyH_take (i := 15) (v := .int .i64 R2.e) rfl (by kernel_rfl) (by kernel_rfl) (by kernel_rfl) (fun _ _ _ h => h) (.inl ⟨rfl, fun w g => run_assign rfl d79 w⟩) SF.out ?_
       refine act_letter (fun T118 hT118 => ?_)
       replace d78 := (ev_at hT118 (by decide)).trans d78
       replace d79 := (ev_at hT118 (by decide)).trans d79
       replace d13 := (ev_at hT118 (by decide)).trans d13
       have d14 := ev_put hT118 (by omega)
       have szT118 := (sz_at hT118).trans szT117
       have HT118 := Lib.hid (show T117.put (some 14) (.int .i64 R2.e) = T118 from hT118)
       clear hT118 szT117
       refine wpAnyH_done (by kernel_rfl) ?_ _
       refine ⟨v, z, V0, V1, .slice (some ⟨q1, 0, none⟩) 1 1, V2, ?_, CV.out.1, CV.out.2, ZV.out, G.out⟩
       rw [← HT118.out, ← HT117.out, ← HT116.out, ← HT115.out, ← HT114.out, ← HT113.out, ← HT112.out, ← HT111.out, ← HT109.out, ← HT107.out, ← HT105.out, ← HT64.out, ← HT6.out, ← HT4.out, ← HT3.out, ← HT2.out, ← HT1.out]
       try simp only [Act.put, List.setIfInBounds_toArray, List.set_cons_zero, List.set_cons_succ]
     ·
      skip
      refine wp_newVq rfl rfl (fun z x118 hz g hzl => hK.out _ _ (SF.out.grew g (by simp)) (fun _ => ?_))
      clear hK K
      have fr0 := fr_of g (F := fun _ => False)
      have nG := Lib.hid (grew_trans G.out g)
      have nSF := Lib.hid (SF.out.grew g (by simp))
      have nOW := Lib.hid (own_fr OW.out fr0 (fun _ _ h => h))
      clear fr0
      have ZL := Lib.hid (show W6.heap.size ≤ z from Nat.le_trans G.out.size hzl)
      clear G
      clear SF
      clear OW
      have G := nG
      have SF := nSF
      have OW := nOW
      clear nG nSF nOW
      have ZV := Lib.hid hz
      clear hz g hzl
      refine act_letter (fun T120 hT120 => ?_)
      replace d69 := (ev_at hT120 (by decide)).trans d69
      replace d71 := (ev_at hT120 (by decide)).trans d71
      replace d73 := (ev_at hT120 (by decide)).trans d73
      replace d70 := (ev_at hT120 (by decide)).trans d70
      have d12 := ev_put hT120 (by omega)
      have szT120 := (sz_at hT120).trans szT6
      have HT120 := Lib.hid (show T6.put (some 12) (.pointer (some ⟨z, 0, none⟩)) = T120 from hT120)
      clear hT120 szT6
      refine wpAnyH_ready (rs := [3, 5]) (by kernel_rfl) (by simp) ?_
      refine (AllReadyH.cons rfl (fun K hK => ?_) (AllReadyH.cons rfl (fun K hK => ?_) AllReadyH.nil))
      ·
       skip
       refine wp_appB rfl rfl OW.out d70 ((HBX.out.grew G.out (fun _ h => by cases h)).byf) c d71 (by have := HX.out; omega) (fun V1 x120 hz g hor => hK.out _ _ (SF.out.fr (Fr.of_grew' g (F := fun i => V0.ownBlock = some i) (fun i e => e)) (own_ne OW.out SF.out (by decide))) (fun _ => ?_))
       clear hK K
       have fr0 := Fr.of_grew' g (F := fun i => V0.ownBlock = some i) (fun i e => e)
       have nG := Lib.hid (grew_fr G.out fr0 (fun i e => OB.out i e))
       have nSF := Lib.hid (SF.out.fr fr0 (own_ne OW.out SF.out (by decide)))
       have nZV := Lib.hid (ZV.out.fr fr0 (own_ne OW.out ZV.out (by decide)))
       clear fr0
       have nOB := Lib.hid (show ∀ b, V1.ownBlock = some b → W6.heap.size ≤ b from fun b hb => by
        rcases hor with e | e
        ·
         rw [e] at hb; exact OB.out b hb
        ·
         rw [e] at hb; cases hb; exact G.out.size)
       have nOW := Lib.hid hz
       clear G
       clear SF
       clear ZV
       clear OW
       clear OB
       have G := nG
       have SF := nSF
       have ZV := nZV
       have OW := nOW
       have OB := nOB
       clear nG nSF nZV nOW nOB
       clear hz g hor
       refine act_letter (fun T122 hT122 => ?_)
       replace d69 := (ev_at hT122 (by decide)).trans d69
       replace d73 := (ev_at hT122 (by decide)).trans d73
       replace d12 := (ev_at hT122 (by decide)).trans d12
       clear d71 d70
       have d72 := ev_put hT122 (by omega)
       have szT122 := (sz_at hT122).trans szT120
       have HT122 := Lib.hid (show T120.put (some 72) (V1) = T122 from hT122)
       clear hT122 szT120
       refine wpAnyH_ready (rs := [5]) (by kernel_rfl) (by simp) ?_
       refine (AllReadyH.cons rfl (fun K hK => ?_) AllReadyH.nil)
       refine wp_new1 rfl rfl cb d73 (fun q1 x122 hz g hzl hzs => hK.out _ _ (SF.out.grew g (by simp)) (fun _ => ?_))
       clear hK K
       have fr0 := fr_of g (F := fun _ => False)
       have nG := Lib.hid (grew_trans G.out g)
       have nSF := Lib.hid (SF.out.grew g (by simp))
       have nZV := Lib.hid (ZV.out.grew g (by simp))
       have nOW := Lib.hid (own_fr OW.out fr0 (fun _ _ h => h))
       clear fr0
       have Q1 := Lib.hid (show W6.heap.size ≤ q1 ∧ q1 < _ from ⟨Nat.le_trans G.out.size hzl, hzs⟩)
       have ON := Lib.hid (show ∀ b, V1.ownBlock = some b → b ≠ q1 from fun b hb e => by have := own_lt OW.out b hb; omega)
       clear G
       clear SF
       clear ZV
       clear OW
       have G := nG
       have SF := nSF
       have ZV := nZV
       have OW := nOW
       clear nG nSF nZV nOW
       have BY := Lib.hid hz
       clear hz g hzl hzs
       refine act_letter (fun T124 hT124 => ?_)
       replace d69 := (ev_at hT124 (by decide)).trans d69
       replace d12 := (ev_at hT124 (by decide)).trans d12
       replace d72 := (ev_at hT124 (by decide)).trans d72
       clear d73
       have d74 := ev_put hT124 (by omega)
       have szT124 := (sz_at hT124).trans szT122
       have HT124 := Lib.hid (show T122.put (some 74) (.slice (some ⟨q1, 0, none⟩) 1 1) = T124 from hT124)
       clear hT124 szT122
       refine wpAnyH_ready (rs := [6]) (by kernel_rfl) (by simp) ?_
       refine (AllReadyH.cons rfl (fun K hK => ?_) AllReadyH.nil)
       refine wp_appB rfl rfl OW.out d72 (BY.out) 1 d74 (by have := HX.out; simp; omega) (fun V2 x124 hz g hor => hK.out _ _ (SF.out.fr (Fr.of_grew' g (F := fun i => V1.ownBlock = some i) (fun i e => e)) (own_ne OW.out SF.out (by decide))) (fun _ => ?_))
       clear hK K
       have fr0 := Fr.of_grew' g (F := fun i => V1.ownBlock = some i) (fun i e => e)
       have nG := Lib.hid (grew_fr G.out fr0 (fun i e => OB.out i e))
       have nSF := Lib.hid (SF.out.fr fr0 (own_ne OW.out SF.out (by decide)))
       have nZV := Lib.hid (ZV.out.fr fr0 (own_ne OW.out ZV.out (by decide)))
       have nBY := Lib.hid (BY.out.fr fr0 (fun i hi e => ON.out i e hi))
       have nQ1 := Lib.hid (show W6.heap.size ≤ q1 ∧ q1 < _ from ⟨Q1.out.1, Nat.lt_of_lt_of_le Q1.out.2 fr0.size⟩)
       clear fr0
       have nOB := Lib.hid (show ∀ b, V2.ownBlock = some b → W6.heap.size ≤ b from fun b hb => by
        rcases hor with e | e
        ·
         rw [e] at hb; exact OB.out b hb
        ·
         rw [e] at hb; cases hb; exact G.out.size)
       have nON := Lib.hid (show ∀ b, V2.ownBlock = some b → b ≠ q1 from fun b hb => by
        rcases hor with e | e
        ·
         rw [e] at hb; exact ON.out b hb
        ·
         rw [e] at hb; cases hb; have := Q1.out.2; omega)
       have nOW := Lib.hid hz
       clear G
       clear SF
       clear ZV
       clear OW
       clear BY
       clear Q1
       clear OB
       clear ON
       have G := nG
       have SF := nSF
       have ZV := nZV
       have OW := nOW
       have BY := nBY
       have Q1 := nQ1
       have OB := nOB
       have ON := nON
       clear nG nSF nZV nOW nBY nQ1 nOB nON
       clear hz g hor
       refine act_letter (fun T126 hT126 => ?_)
       replace d69 := (ev_at hT126 (by decide)).trans d69
       replace d12 := (ev_at hT126 (by decide)).trans d12
       clear d72 d74
       have d75 := ev_put hT126 (by omega)
       have szT126 := (sz_at hT126).trans szT124
       have HT126 := Lib.hid (show T124.put (some 75) (V2) = T126 from hT126)
       clear hT126 szT124
       refine wpAnyH_ready (rs := [7]) (by kernel_rfl) (by simp) ?_
       refine (AllReadyH.cons rfl (fun K hK => ?_) AllReadyH.nil)
       have OW2 := OW.out
       rw [HMS.out] at OW2
       obtain ⟨A3, c3, hV2, hl3, hb3⟩ := byt_of_own OW2
       have e75 := d75.trans hV2
       have e69 := d69.trans (val_eq f)
       refine wp_callG rfl rfl enter_readF (vs := #[.agg #[.int .i64 f.k, .int .i64 f.s, .int .i64 f.l, .int .i64 f.h, .int .i64 f.t, .slice f.A f.ps.length f.c], .slice A3 ms.length c3, .int .i64 0]) (by simp only [List.map_toArray, List.map_cons, List.map_nil, e69, e75]; rfl) ((CP9.out _ G.out A3 c3 hl3 hb3).mono ?_)
       rintro e x126 ⟨v, rfl, hv, hnf, g, hhi⟩
       have VO := Lib.hid (hhi.offn (F := fun i => i = z) (fun i e => by subst e; exact ZV.out.lt))
       refine ⟨_, rfl, hK.out _ _ (SF.out.grew g (by simp)) (fun _ => ?_)⟩
       clear hK K
       have fr0 := fr_of g (F := fun _ => False)
       have nG := Lib.hid (grew_trans G.out g)
       have nSF := Lib.hid (SF.out.grew g (by simp))
       have nZV := Lib.hid (ZV.out.grew g (by simp))
       clear fr0
       clear G
       clear SF
       clear ZV
       have G := nG
       have SF := nSF
       have ZV := nZV
       clear nG nSF nZV
       have CV := Lib.hid (show v.In x126 ∧ v.nf = R2.v from ⟨hv, hnf⟩)
       clear hv hnf g hhi
       clear hV2 hl3 hb3 e75 e69 OW2
       refine act_letter (fun T128 hT128 => ?_)
       replace d12 := (ev_at hT128 (by decide)).trans d12
       clear d69 d75
       have d76 := ev_put hT128 (by omega)
       have szT128 := (sz_at hT128).trans szT126
       have HT128 := Lib.hid (show T126.put (some 76) (.tuple #[v.val, .int .i64 (R2.n : Int), .int .i64 R2.e]) = T128 from hT128)
       clear hT128 szT126
       refine wpAnyH_take (i := 8) (v := .tuple #[v.val, .int .i64 (R2.n : Int), .int .i64 R2.e]) rfl (by kernel_rfl) (by kernel_rfl) (by kernel_rfl) (fun _ _ _ h => h) (.inl ⟨rfl, fun w g => run_moveV rfl d76 w⟩) SF.out ?_
       refine act_letter (fun T129 hT129 => ?_)
       replace d12 := (ev_at hT129 (by decide)).trans d12
       clear d76
       have d68 := ev_put hT129 (by omega)
       have szT129 := (sz_at hT129).trans szT128
       have HT129 := Lib.hid (show T128.put (some 68) (.tuple #[v.val, .int .i64 (R2.n : Int), .int .i64 R2.e]) = T129 from hT129)
       clear hT129 szT128
       refine wpAnyH_take (i := 9) (v := v.val) rfl (by kernel_rfl) (by kernel_rfl) (by kernel_rfl) (fun _ _ _ h => h) (.inl ⟨rfl, fun w g => run_ext30 rfl d68 w⟩) SF.out ?_
       refine act_letter (fun T130 hT130 => ?_)
       replace d12 := (ev_at hT130 (by decide)).trans d12
       replace d68 := (ev_at hT130 (by decide)).trans d68
       have d77 := ev_put hT130 (by omega)
       have szT130 := (sz_at hT130).trans szT129
       have HT130 := Lib.hid (show T129.put (some 77) (v.val) = T130 from hT130)
       clear hT130 szT129
       refine wpAnyH_take (i := 10) (v := .int .i64 (R2.n : Int)) rfl (by kernel_rfl) (by kernel_rfl) (by kernel_rfl) (fun _ _ _ h => h) (.inl ⟨rfl, fun w g => run_ext31 rfl d68 w⟩) SF.out ?_
       refine act_letter (fun T131 hT131 => ?_)
       replace d12 := (ev_at hT131 (by decide)).trans d12
       replace d68 := (ev_at hT131 (by decide)).trans d68
       replace d77 := (ev_at hT131 (by decide)).trans d77
       have d78 := ev_put hT131 (by omega)
       have szT131 := (sz_at hT131).trans szT130
       have HT131 := Lib.hid (show T130.put (some 78) (.int .i64 (R2.n : Int)) = T131 from hT131)
       clear hT131 szT130
       refine wpAnyH_take (i := 11) (v := .int .i64 R2.e) rfl (by kernel_rfl) (by kernel_rfl) (by kernel_rfl) (fun _ _ _ h => h) (.inl ⟨rfl, fun w g => run_ext32 rfl d68 w⟩) SF.out ?_
       refine act_letter (fun T132 hT132 => ?_)
       replace d12 := (ev_at hT132 (by decide)).trans d12
       replace d68 := (ev_at hT132 (by decide)).trans d68
       replace d77 := (ev_at hT132 (by decide)).trans d77
       replace d78 := (ev_at hT132 (by decide)).trans d78
       have d79 := ev_put hT132 (by omega)
       have szT132 := (sz_at hT132).trans szT131
       have HT132 := Lib.hid (show T131.put (some 79) (.int .i64 R2.e) = T132 from hT132)
       clear hT132 szT131
       refine wpAnyH_ready (rs := [13]) (by kernel_rfl) (by simp) ?_
       refine AllReadyH.cons rfl (fun K hK => ?_) AllReadyH.nil
       have nSF := Lib.hid (show Whole (putV x126 z v) q f.cells 24 from SF.out.fr (fr_put3 _ _ _ _ _) (fun e => Whole.ne SF.out ZV.out (by decide) e))
       have nCV := Lib.hid (show v.In (putV x126 z v) ∧ v.nf = R2.v from ⟨In.fr2 CV.out.1 (fr_put3 _ _ _ _ _) VO.out, CV.out.2⟩)
       have nG := Lib.hid (show Grew W6 (putV x126 z v) none from grew_put3 G.out ZL.out _ _ _)
       have nZV := Lib.hid (show Whole (putV x126 z v) z v.cells 35 from ZV.out.put3 _ _ _)
       refine wp_skipG rfl (w' := putV x126 z v) (run_storeVa rfl d12 d77 ZV.out) (hK.out _ _ nSF.out (fun _ => ?_))
       clear hK K
       clear SF
       clear CV
       clear G
       clear ZV
       have SF := nSF
       have CV := nCV
       have G := nG
       have ZV := nZV
       clear nSF nCV nG nZV
       refine act_letter (fun T133 hT133 => ?_)
       replace d12 : T133.eval (.tmp 12) = .pointer (some ⟨z, 0, none⟩) := by rw [← hT133]; exact d12
       replace d68 : T133.eval (.tmp 68) = .tuple #[v.val, .int .i64 (R2.n : Int), .int .i64 R2.e] := by rw [← hT133]; exact d68
       replace d77 : T133.eval (.tmp 77) = v.val := by rw [← hT133]; exact d77
       replace d78 : T133.eval (.tmp 78) = .int .i64 (R2.n : Int) := by rw [← hT133]; exact d78
       replace d79 : T133.eval (.tmp 79) = .int .i64 R2.e := by rw [← hT133]; exact d79
       have szT133 : T133.tmps.size = 109 := by rw [← hT133]; exact szT132
       have HT133 := Lib.hid (show T132 = T133 from hT133)
       clear hT133 szT132
       refine wpAnyH_take (i := 14) (v := .int .i64 (R2.n : Int)) rfl (by kernel_rfl) (by kernel_rfl) (by kernel_rfl) (fun _ _ _ h => h) (.inl ⟨rfl, fun w g => run_assign rfl d78 w⟩) SF.out ?_
       refine act_letter (fun T134 hT134 => ?_)
       replace d78 := (ev_at hT134 (by decide)).trans d78
       replace d79 := (ev_at hT134 (by decide)).trans d79
       clear d12 d68 d77
       have d13 := ev_put hT134 (by omega)
       have szT134 := (sz_at hT134).trans szT133
       have HT134 := Lib.hid (show T133.put (some 13) (.int .i64 (R2.n : Int)) = T134 from hT134)
       clear hT134 szT133
       refine wpAnyH_take (i := 15) (v := .int .i64 R2.e) rfl (by kernel_rfl) (by kernel_rfl) (by kernel_rfl) (fun _ _ _ h => h) (.inl ⟨rfl, fun w g => run_assign rfl d79 w⟩) SF.out ?_
       refine act_letter (fun T135 hT135 => ?_)
       replace d78 := (ev_at hT135 (by decide)).trans d78
       replace d79 := (ev_at hT135 (by decide)).trans d79
       replace d13 := (ev_at hT135 (by decide)).trans d13
       have d14 := ev_put hT135 (by omega)
       have szT135 := (sz_at hT135).trans szT134
       have HT135 := Lib.hid (show T134.put (some 14) (.int .i64 R2.e) = T135 from hT135)
       clear hT135 szT134
       refine wpAnyH_done (by kernel_rfl) ?_ _
       refine ⟨v, z, V0, V1, .slice (some ⟨q1, 0, none⟩) 1 1, V2, ?_, CV.out.1, CV.out.2, ZV.out, G.out⟩
       rw [← HT135.out, ← HT134.out, ← HT133.out, ← HT132.out, ← HT131.out, ← HT130.out, ← HT129.out, ← HT128.out, ← HT126.out, ← HT124.out, ← HT122.out, ← HT120.out, ← HT6.out, ← HT4.out, ← HT3.out, ← HT2.out, ← HT1.out]
       try simp only [Act.put, List.setIfInBounds_toArray, List.set_cons_zero, List.set_cons_succ]
      ·
       skip
       refine wp_new1 rfl rfl cb d73 (fun q1 x135 hz g hzl hzs => hK.out _ _ (SF.out.grew g (by simp)) (fun _ => ?_))
       clear hK K
       have fr0 := fr_of g (F := fun _ => False)
       have nG := Lib.hid (grew_trans G.out g)
       have nSF := Lib.hid (SF.out.grew g (by simp))
       have nZV := Lib.hid (ZV.out.grew g (by simp))
       have nOW := Lib.hid (own_fr OW.out fr0 (fun _ _ h => h))
       clear fr0
       have Q1 := Lib.hid (show W6.heap.size ≤ q1 ∧ q1 < _ from ⟨Nat.le_trans G.out.size hzl, hzs⟩)
       have ON := Lib.hid (show ∀ b, V0.ownBlock = some b → b ≠ q1 from fun b hb e => by have := own_lt OW.out b hb; omega)
       clear G
       clear SF
       clear ZV
       clear OW
       have G := nG
       have SF := nSF
       have ZV := nZV
       have OW := nOW
       clear nG nSF nZV nOW
       have BY := Lib.hid hz
       clear hz g hzl hzs
       refine act_letter (fun T137 hT137 => ?_)
       replace d69 := (ev_at hT137 (by decide)).trans d69
       replace d71 := (ev_at hT137 (by decide)).trans d71
       replace d70 := (ev_at hT137 (by decide)).trans d70
       replace d12 := (ev_at hT137 (by decide)).trans d12
       clear d73
       have d74 := ev_put hT137 (by omega)
       have szT137 := (sz_at hT137).trans szT120
       have HT137 := Lib.hid (show T120.put (some 74) (.slice (some ⟨q1, 0, none⟩) 1 1) = T137 from hT137)
       clear hT137 szT120
       refine wpAnyH_ready (rs := [3]) (by kernel_rfl) (by simp) ?_
       refine (AllReadyH.cons rfl (fun K hK => ?_) AllReadyH.nil)
       refine wp_appB rfl rfl OW.out d70 ((HBX.out.grew G.out (fun _ h => by cases h)).byf) c d71 (by have := HX.out; omega) (fun V1 x137 hz g hor => hK.out _ _ (SF.out.fr (Fr.of_grew' g (F := fun i => V0.ownBlock = some i) (fun i e => e)) (own_ne OW.out SF.out (by decide))) (fun _ => ?_))
       clear hK K
       have fr0 := Fr.of_grew' g (F := fun i => V0.ownBlock = some i) (fun i e => e)
       have nG := Lib.hid (grew_fr G.out fr0 (fun i e => OB.out i e))
       have nSF := Lib.hid (SF.out.fr fr0 (own_ne OW.out SF.out (by decide)))
       have nZV := Lib.hid (ZV.out.fr fr0 (own_ne OW.out ZV.out (by decide)))
       have nBY := Lib.hid (BY.out.fr fr0 (fun i hi e => ON.out i e hi))
       have nQ1 := Lib.hid (show W6.heap.size ≤ q1 ∧ q1 < _ from ⟨Q1.out.1, Nat.lt_of_lt_of_le Q1.out.2 fr0.size⟩)
       clear fr0
       have nOB := Lib.hid (show ∀ b, V1.ownBlock = some b → W6.heap.size ≤ b from fun b hb => by
        rcases hor with e | e
        ·
         rw [e] at hb; exact OB.out b hb
        ·
         rw [e] at hb; cases hb; exact G.out.size)
       have nON := Lib.hid (show ∀ b, V1.ownBlock = some b → b ≠ q1 from fun b hb => by
        rcases hor with e | e
        ·
         rw [e] at hb; exact ON.out b hb
        ·
         rw [e] at hb; cases hb; have := Q1.out.2; omega)
       have nOW := Lib.hid hz
       clear G
       clear SF
       clear ZV
       clear OW
       clear BY
       clear Q1
       clear OB
       clear ON
       have G := nG
       have SF := nSF
       have ZV := nZV
       have OW := nOW
       have BY := nBY
       have Q1 := nQ1
       have OB := nOB
       have ON := nON
       clear nG nSF nZV nOW nBY nQ1 nOB nON
       clear hz g hor
       refine act_letter (fun T139 hT139 => ?_)
       replace d69 := (ev_at hT139 (by decide)).trans d69
       replace d12 := (ev_at hT139 (by decide)).trans d12
       replace d74 := (ev_at hT139 (by decide)).trans d74
       clear d71 d70
       have d72 := ev_put hT139 (by omega)
       have szT139 := (sz_at hT139).trans szT137
       have HT139 := Lib.hid (show T137.put (some 72) (V1) = T139 from hT139)
       clear hT139 szT137
       refine wpAnyH_ready (rs := [6]) (by kernel_rfl) (by simp) ?_
       refine (AllReadyH.cons rfl (fun K hK => ?_) AllReadyH.nil)
       refine wp_appB rfl rfl OW.out d72 (BY.out) 1 d74 (by have := HX.out; simp; omega) (fun V2 x139 hz g hor => hK.out _ _ (SF.out.fr (Fr.of_grew' g (F := fun i => V1.ownBlock = some i) (fun i e => e)) (own_ne OW.out SF.out (by decide))) (fun _ => ?_))
       clear hK K
       have fr0 := Fr.of_grew' g (F := fun i => V1.ownBlock = some i) (fun i e => e)
       have nG := Lib.hid (grew_fr G.out fr0 (fun i e => OB.out i e))
       have nSF := Lib.hid (SF.out.fr fr0 (own_ne OW.out SF.out (by decide)))
       have nZV := Lib.hid (ZV.out.fr fr0 (own_ne OW.out ZV.out (by decide)))
       have nBY := Lib.hid (BY.out.fr fr0 (fun i hi e => ON.out i e hi))
       have nQ1 := Lib.hid (show W6.heap.size ≤ q1 ∧ q1 < _ from ⟨Q1.out.1, Nat.lt_of_lt_of_le Q1.out.2 fr0.size⟩)
       clear fr0
       have nOB := Lib.hid (show ∀ b, V2.ownBlock = some b → W6.heap.size ≤ b from fun b hb => by
        rcases hor with e | e
        ·
         rw [e] at hb; exact OB.out b hb
        ·
         rw [e] at hb; cases hb; exact G.out.size)
       have nON := Lib.hid (show ∀ b, V2.ownBlock = some b → b ≠ q1 from fun b hb => by
        rcases hor with e | e
        ·
         rw [e] at hb; exact ON.out b hb
        ·
         rw [e] at hb; cases hb; have := Q1.out.2; omega)
       have nOW := Lib.hid hz
       clear G
       clear SF
       clear ZV
       clear OW
       clear BY
       clear Q1
       clear OB
       clear ON
       have G := nG
       have SF := nSF
       have ZV := nZV
       have OW := nOW
       have BY := nBY
       have Q1 := nQ1
       have OB := nOB
       have ON := nON
       clear nG nSF nZV nOW nBY nQ1 nOB nON
       clear hz g hor
       refine act_letter (fun T141 hT141 => ?_)
       replace d69 := (ev_at hT141 (by decide)).trans d69
       replace d12 := (ev_at hT141 (by decide)).trans d12
       clear d74 d72
       have d75 := ev_put hT141 (by omega)
       have szT141 := (sz_at hT141).trans szT139
       have HT141 := Lib.hid (show T139.put (some 75) (V2) = T141 from hT141)
       clear hT141 szT139
       refine wpAnyH_ready (rs := [7]) (by kernel_rfl) (by simp) ?_
       refine (AllReadyH.cons rfl (fun K hK => ?_) AllReadyH.nil)
       have OW2 := OW.out
       rw [HMS.out] at OW2
       obtain ⟨A3, c3, hV2, hl3, hb3⟩ := byt_of_own OW2
       have e75 := d75.trans hV2
       have e69 := d69.trans (val_eq f)
       refine wp_callG rfl rfl enter_readF (vs := #[.agg #[.int .i64 f.k, .int .i64 f.s, .int .i64 f.l, .int .i64 f.h, .int .i64 f.t, .slice f.A f.ps.length f.c], .slice A3 ms.length c3, .int .i64 0]) (by simp only [List.map_toArray, List.map_cons, List.map_nil, e69, e75]; rfl) ((CP9.out _ G.out A3 c3 hl3 hb3).mono ?_)
       rintro e x141 ⟨v, rfl, hv, hnf, g, hhi⟩
       have VO := Lib.hid (hhi.offn (F := fun i => i = z) (fun i e => by subst e; exact ZV.out.lt))
       refine ⟨_, rfl, hK.out _ _ (SF.out.grew g (by simp)) (fun _ => ?_)⟩
       clear hK K
       have fr0 := fr_of g (F := fun _ => False)
       have nG := Lib.hid (grew_trans G.out g)
       have nSF := Lib.hid (SF.out.grew g (by simp))
       have nZV := Lib.hid (ZV.out.grew g (by simp))
       clear fr0
       clear G
       clear SF
       clear ZV
       have G := nG
       have SF := nSF
       have ZV := nZV
       clear nG nSF nZV
       have CV := Lib.hid (show v.In x141 ∧ v.nf = R2.v from ⟨hv, hnf⟩)
       clear hv hnf g hhi
       clear hV2 hl3 hb3 e75 e69 OW2
       refine act_letter (fun T143 hT143 => ?_)
       replace d12 := (ev_at hT143 (by decide)).trans d12
       clear d69 d75
       have d76 := ev_put hT143 (by omega)
       have szT143 := (sz_at hT143).trans szT141
       have HT143 := Lib.hid (show T141.put (some 76) (.tuple #[v.val, .int .i64 (R2.n : Int), .int .i64 R2.e]) = T143 from hT143)
       clear hT143 szT141
       refine wpAnyH_take (i := 8) (v := .tuple #[v.val, .int .i64 (R2.n : Int), .int .i64 R2.e]) rfl (by kernel_rfl) (by kernel_rfl) (by kernel_rfl) (fun _ _ _ h => h) (.inl ⟨rfl, fun w g => run_moveV rfl d76 w⟩) SF.out ?_
       refine act_letter (fun T144 hT144 => ?_)
       replace d12 := (ev_at hT144 (by decide)).trans d12
       clear d76
       have d68 := ev_put hT144 (by omega)
       have szT144 := (sz_at hT144).trans szT143
       have HT144 := Lib.hid (show T143.put (some 68) (.tuple #[v.val, .int .i64 (R2.n : Int), .int .i64 R2.e]) = T144 from hT144)
       clear hT144 szT143
       refine wpAnyH_take (i := 9) (v := v.val) rfl (by kernel_rfl) (by kernel_rfl) (by kernel_rfl) (fun _ _ _ h => h) (.inl ⟨rfl, fun w g => run_ext30 rfl d68 w⟩) SF.out ?_
       refine act_letter (fun T145 hT145 => ?_)
       replace d12 := (ev_at hT145 (by decide)).trans d12
       replace d68 := (ev_at hT145 (by decide)).trans d68
       have d77 := ev_put hT145 (by omega)
       have szT145 := (sz_at hT145).trans szT144
       have HT145 := Lib.hid (show T144.put (some 77) (v.val) = T145 from hT145)
       clear hT145 szT144
       refine wpAnyH_take (i := 10) (v := .int .i64 (R2.n : Int)) rfl (by kernel_rfl) (by kernel_rfl) (by kernel_rfl) (fun _ _ _ h => h) (.inl ⟨rfl, fun w g => run_ext31 rfl d68 w⟩) SF.out ?_
       refine act_letter (fun T146 hT146 => ?_)
       replace d12 := (ev_at hT146 (by decide)).trans d12
       replace d68 := (ev_at hT146 (by decide)).trans d68
       replace d77 := (ev_at hT146 (by decide)).trans d77
       have d78 := ev_put hT146 (by omega)
       have szT146 := (sz_at hT146).trans szT145
       have HT146 := Lib.hid (show T145.put (some 78) (.int .i64 (R2.n : Int)) = T146 from hT146)
       clear hT146 szT145
       refine wpAnyH_take (i := 11) (v := .int .i64 R2.e) rfl (by kernel_rfl) (by kernel_rfl) (by kernel_rfl) (fun _ _ _ h => h) (.inl ⟨rfl, fun w g => run_ext32 rfl d68 w⟩) SF.out ?_
       refine act_letter (fun T147 hT147 => ?_)
       replace d12 := (ev_at hT147 (by decide)).trans d12
       replace d68 := (ev_at hT147 (by decide)).trans d68
       replace d77 := (ev_at hT147 (by decide)).trans d77
       replace d78 := (ev_at hT147 (by decide)).trans d78
       have d79 := ev_put hT147 (by omega)
       have szT147 := (sz_at hT147).trans szT146
       have HT147 := Lib.hid (show T146.put (some 79) (.int .i64 R2.e) = T147 from hT147)
       clear hT147 szT146
       refine wpAnyH_ready (rs := [13]) (by kernel_rfl) (by simp) ?_
       refine AllReadyH.cons rfl (fun K hK => ?_) AllReadyH.nil
       have nSF := Lib.hid (show Whole (putV x141 z v) q f.cells 24 from SF.out.fr (fr_put3 _ _ _ _ _) (fun e => Whole.ne SF.out ZV.out (by decide) e))
       have nCV := Lib.hid (show v.In (putV x141 z v) ∧ v.nf = R2.v from ⟨In.fr2 CV.out.1 (fr_put3 _ _ _ _ _) VO.out, CV.out.2⟩)
       have nG := Lib.hid (show Grew W6 (putV x141 z v) none from grew_put3 G.out ZL.out _ _ _)
       have nZV := Lib.hid (show Whole (putV x141 z v) z v.cells 35 from ZV.out.put3 _ _ _)
       refine wp_skipG rfl (w' := putV x141 z v) (run_storeVa rfl d12 d77 ZV.out) (hK.out _ _ nSF.out (fun _ => ?_))
       clear hK K
       clear SF
       clear CV
       clear G
       clear ZV
       have SF := nSF
       have CV := nCV
       have G := nG
       have ZV := nZV
       clear nSF nCV nG nZV
       refine act_letter (fun T148 hT148 => ?_)
       replace d12 : T148.eval (.tmp 12) = .pointer (some ⟨z, 0, none⟩) := by rw [← hT148]; exact d12
       replace d68 : T148.eval (.tmp 68) = .tuple #[v.val, .int .i64 (R2.n : Int), .int .i64 R2.e] := by rw [← hT148]; exact d68
       replace d77 : T148.eval (.tmp 77) = v.val := by rw [← hT148]; exact d77
       replace d78 : T148.eval (.tmp 78) = .int .i64 (R2.n : Int) := by rw [← hT148]; exact d78
       replace d79 : T148.eval (.tmp 79) = .int .i64 R2.e := by rw [← hT148]; exact d79
       have szT148 : T148.tmps.size = 109 := by rw [← hT148]; exact szT147
       have HT148 := Lib.hid (show T147 = T148 from hT148)
       clear hT148 szT147
       refine wpAnyH_take (i := 14) (v := .int .i64 (R2.n : Int)) rfl (by kernel_rfl) (by kernel_rfl) (by kernel_rfl) (fun _ _ _ h => h) (.inl ⟨rfl, fun w g => run_assign rfl d78 w⟩) SF.out ?_
       refine act_letter (fun T149 hT149 => ?_)
       replace d78 := (ev_at hT149 (by decide)).trans d78
       replace d79 := (ev_at hT149 (by decide)).trans d79
       clear d12 d68 d77
       have d13 := ev_put hT149 (by omega)
       have szT149 := (sz_at hT149).trans szT148
       have HT149 := Lib.hid (show T148.put (some 13) (.int .i64 (R2.n : Int)) = T149 from hT149)
       clear hT149 szT148
       refine wpAnyH_take (i := 15) (v := .int .i64 R2.e) rfl (by kernel_rfl) (by kernel_rfl) (by kernel_rfl) (fun _ _ _ h => h) (.inl ⟨rfl, fun w g => run_assign rfl d79 w⟩) SF.out ?_
       refine act_letter (fun T150 hT150 => ?_)
       replace d78 := (ev_at hT150 (by decide)).trans d78
       replace d79 := (ev_at hT150 (by decide)).trans d79
       replace d13 := (ev_at hT150 (by decide)).trans d13
       have d14 := ev_put hT150 (by omega)
       have szT150 := (sz_at hT150).trans szT149
       have HT150 := Lib.hid (show T149.put (some 14) (.int .i64 R2.e) = T150 from hT150)
       clear hT150 szT149
       refine wpAnyH_done (by kernel_rfl) ?_ _
       refine ⟨v, z, V0, V1, .slice (some ⟨q1, 0, none⟩) 1 1, V2, ?_, CV.out.1, CV.out.2, ZV.out, G.out⟩
       rw [← HT150.out, ← HT149.out, ← HT148.out, ← HT147.out, ← HT146.out, ← HT145.out, ← HT144.out, ← HT143.out, ← HT141.out, ← HT139.out, ← HT137.out, ← HT120.out, ← HT6.out, ← HT4.out, ← HT3.out, ← HT2.out, ← HT1.out]
       try simp only [Act.put, List.setIfInBounds_toArray, List.set_cons_zero, List.set_cons_succ]
    ·
     skip
     refine wp_new1 rfl rfl cb d73 (fun q1 x150 hz g hzl hzs => hK.out _ _ (SF.out.grew g (by simp)) (fun _ => ?_))
     clear hK K
     have fr0 := fr_of g (F := fun _ => False)
     have nG := Lib.hid (grew_trans G.out g)
     have nSF := Lib.hid (SF.out.grew g (by simp))
     clear fr0
     have Q1 := Lib.hid (show W6.heap.size ≤ q1 ∧ q1 < _ from ⟨Nat.le_trans G.out.size hzl, hzs⟩)
     clear G
     clear SF
     have G := nG
     have SF := nSF
     clear nG nSF
     have BY := Lib.hid hz
     clear hz g hzl hzs
     refine act_letter (fun T152 hT152 => ?_)
     replace d69 := (ev_at hT152 (by decide)).trans d69
     replace d71 := (ev_at hT152 (by decide)).trans d71
     clear d1 d2 d3 d73
     have d74 := ev_put hT152 (by omega)
     have szT152 := (sz_at hT152).trans szT4
     have HT152 := Lib.hid (show T4.put (some 74) (.slice (some ⟨q1, 0, none⟩) 1 1) = T152 from hT152)
     clear hT152 szT4
     refine wpAnyH_ready (rs := [1, 12]) (by kernel_rfl) (by simp) ?_
     refine (AllReadyH.cons rfl (fun K hK => ?_) (AllReadyH.cons rfl (fun K hK => ?_) AllReadyH.nil))
     ·
      skip
      refine wp_new0 rfl rfl (fun V0 x152 hz g hzl => hK.out _ _ (SF.out.grew g (by simp)) (fun _ => ?_))
      clear hK K
      have fr0 := fr_of g (F := fun _ => False)
      have nG := Lib.hid (grew_trans G.out g)
      have nSF := Lib.hid (SF.out.grew g (by simp))
      have nBY := Lib.hid (BY.out.fr fr0 (fun _ _ h => h))
      have nQ1 := Lib.hid (show W6.heap.size ≤ q1 ∧ q1 < _ from ⟨Q1.out.1, Nat.lt_of_lt_of_le Q1.out.2 g.size⟩)
      clear fr0
      have OB := Lib.hid (show ∀ b, V0.ownBlock = some b → W6.heap.size ≤ b from fun b hb => Nat.le_trans G.out.size (hzl b hb))
      have ON := Lib.hid (show ∀ b, V0.ownBlock = some b → b ≠ q1 from fun b hb e => by have := hzl b hb; have := Q1.out.2; omega)
      clear G
      clear SF
      clear BY
      clear Q1
      have G := nG
      have SF := nSF
      have BY := nBY
      have Q1 := nQ1
      clear nG nSF nBY nQ1
      have OW := Lib.hid hz
      clear hz g hzl
      refine act_letter (fun T154 hT154 => ?_)
      replace d69 := (ev_at hT154 (by decide)).trans d69
      replace d71 := (ev_at hT154 (by decide)).trans d71
      replace d74 := (ev_at hT154 (by decide)).trans d74
      have d70 := ev_put hT154 (by omega)
      have szT154 := (sz_at hT154).trans szT152
      have HT154 := Lib.hid (show T152.put (some 70) (V0) = T154 from hT154)
      clear hT154 szT152
      refine wpAnyH_ready (rs := [3, 12]) (by kernel_rfl) (by simp) ?_
      refine (AllReadyH.cons rfl (fun K hK => ?_) (AllReadyH.cons rfl (fun K hK => ?_) AllReadyH.nil))
      ·
       skip
       refine wp_appB rfl rfl OW.out d70 ((HBX.out.grew G.out (fun _ h => by cases h)).byf) c d71 (by have := HX.out; omega) (fun V1 x154 hz g hor => hK.out _ _ (SF.out.fr (Fr.of_grew' g (F := fun i => V0.ownBlock = some i) (fun i e => e)) (own_ne OW.out SF.out (by decide))) (fun _ => ?_))
       clear hK K
       have fr0 := Fr.of_grew' g (F := fun i => V0.ownBlock = some i) (fun i e => e)
       have nG := Lib.hid (grew_fr G.out fr0 (fun i e => OB.out i e))
       have nSF := Lib.hid (SF.out.fr fr0 (own_ne OW.out SF.out (by decide)))
       have nBY := Lib.hid (BY.out.fr fr0 (fun i hi e => ON.out i e hi))
       have nQ1 := Lib.hid (show W6.heap.size ≤ q1 ∧ q1 < _ from ⟨Q1.out.1, Nat.lt_of_lt_of_le Q1.out.2 fr0.size⟩)
       clear fr0
       have nOB := Lib.hid (show ∀ b, V1.ownBlock = some b → W6.heap.size ≤ b from fun b hb => by
        rcases hor with e | e
        ·
         rw [e] at hb; exact OB.out b hb
        ·
         rw [e] at hb; cases hb; exact G.out.size)
       have nON := Lib.hid (show ∀ b, V1.ownBlock = some b → b ≠ q1 from fun b hb => by
        rcases hor with e | e
        ·
         rw [e] at hb; exact ON.out b hb
        ·
         rw [e] at hb; cases hb; have := Q1.out.2; omega)
       have nOW := Lib.hid hz
       clear G
       clear SF
       clear OW
       clear BY
       clear Q1
       clear OB
       clear ON
       have G := nG
       have SF := nSF
       have OW := nOW
       have BY := nBY
       have Q1 := nQ1
       have OB := nOB
       have ON := nON
       clear nG nSF nOW nBY nQ1 nOB nON
       clear hz g hor
       refine act_letter (fun T156 hT156 => ?_)
       replace d69 := (ev_at hT156 (by decide)).trans d69
       replace d74 := (ev_at hT156 (by decide)).trans d74
       clear d71 d70
       have d72 := ev_put hT156 (by omega)
       have szT156 := (sz_at hT156).trans szT154
       have HT156 := Lib.hid (show T154.put (some 72) (V1) = T156 from hT156)
       clear hT156 szT154
       refine wpAnyH_ready (rs := [6, 12]) (by kernel_rfl) (by simp) ?_
       refine (AllReadyH.cons rfl (fun K hK => ?_) (AllReadyH.cons rfl (fun K hK => ?_) AllReadyH.nil))
       ·
        skip
        refine wp_appB rfl rfl OW.out d72 (BY.out) 1 d74 (by have := HX.out; simp; omega) (fun V2 x156 hz g hor => hK.out _ _ (SF.out.fr (Fr.of_grew' g (F := fun i => V1.ownBlock = some i) (fun i e => e)) (own_ne OW.out SF.out (by decide))) (fun _ => ?_))
        clear hK K
        have fr0 := Fr.of_grew' g (F := fun i => V1.ownBlock = some i) (fun i e => e)
        have nG := Lib.hid (grew_fr G.out fr0 (fun i e => OB.out i e))
        have nSF := Lib.hid (SF.out.fr fr0 (own_ne OW.out SF.out (by decide)))
        have nBY := Lib.hid (BY.out.fr fr0 (fun i hi e => ON.out i e hi))
        have nQ1 := Lib.hid (show W6.heap.size ≤ q1 ∧ q1 < _ from ⟨Q1.out.1, Nat.lt_of_lt_of_le Q1.out.2 fr0.size⟩)
        clear fr0
        have nOB := Lib.hid (show ∀ b, V2.ownBlock = some b → W6.heap.size ≤ b from fun b hb => by
         rcases hor with e | e
         ·
          rw [e] at hb; exact OB.out b hb
         ·
          rw [e] at hb; cases hb; exact G.out.size)
        have nON := Lib.hid (show ∀ b, V2.ownBlock = some b → b ≠ q1 from fun b hb => by
         rcases hor with e | e
         ·
          rw [e] at hb; exact ON.out b hb
         ·
          rw [e] at hb; cases hb; have := Q1.out.2; omega)
        have nOW := Lib.hid hz
        clear G
        clear SF
        clear OW
        clear BY
        clear Q1
        clear OB
        clear ON
        have G := nG
        have SF := nSF
        have OW := nOW
        have BY := nBY
        have Q1 := nQ1
        have OB := nOB
        have ON := nON
        clear nG nSF nOW nBY nQ1 nOB nON
        clear hz g hor
        refine act_letter (fun T158 hT158 => ?_)
        replace d69 := (ev_at hT158 (by decide)).trans d69
        clear d74 d72
        have d75 := ev_put hT158 (by omega)
        have szT158 := (sz_at hT158).trans szT156
        have HT158 := Lib.hid (show T156.put (some 75) (V2) = T158 from hT158)
        clear hT158 szT156
        refine wpAnyH_ready (rs := [7, 12]) (by kernel_rfl) (by simp) ?_
        refine (AllReadyH.cons rfl (fun K hK => ?_) (AllReadyH.cons rfl (fun K hK => ?_) AllReadyH.nil))
        ·
         skip
         have OW2 := OW.out
         rw [HMS.out] at OW2
         obtain ⟨A3, c3, hV2, hl3, hb3⟩ := byt_of_own OW2
         have e75 := d75.trans hV2
         have e69 := d69.trans (val_eq f)
         refine wp_callG rfl rfl enter_readF (vs := #[.agg #[.int .i64 f.k, .int .i64 f.s, .int .i64 f.l, .int .i64 f.h, .int .i64 f.t, .slice f.A f.ps.length f.c], .slice A3 ms.length c3, .int .i64 0]) (by simp only [List.map_toArray, List.map_cons, List.map_nil, e69, e75]; rfl) ((CP9.out _ G.out A3 c3 hl3 hb3).mono ?_)
         rintro e x158 ⟨v, rfl, hv, hnf, g, hhi⟩
         refine ⟨_, rfl, hK.out _ _ (SF.out.grew g (by simp)) (fun _ => ?_)⟩
         clear hK K
         have fr0 := fr_of g (F := fun _ => False)
         have nG := Lib.hid (grew_trans G.out g)
         have nSF := Lib.hid (SF.out.grew g (by simp))
         clear fr0
         clear G
         clear SF
         have G := nG
         have SF := nSF
         clear nG nSF
         have CV := Lib.hid (show v.In x158 ∧ v.nf = R2.v from ⟨hv, hnf⟩)
         clear hv hnf g hhi
         clear hV2 hl3 hb3 e75 e69 OW2
         refine act_letter (fun T160 hT160 => ?_)
         clear d69 d75
         have d76 := ev_put hT160 (by omega)
         have szT160 := (sz_at hT160).trans szT158
         have HT160 := Lib.hid (show T158.put (some 76) (.tuple #[v.val, .int .i64 (R2.n : Int), .int .i64 R2.e]) = T160 from hT160)
         clear hT160 szT158
         refine wpAnyH_take (i := 8) (v := .tuple #[v.val, .int .i64 (R2.n : Int), .int .i64 R2.e]) rfl (by kernel_rfl) (by kernel_rfl) (by kernel_rfl) (fun _ _ _ h => h) (.inl ⟨rfl, fun w g => run_moveV rfl d76 w⟩) SF.out ?_
         refine act_letter (fun T161 hT161 => ?_)
         clear d76
         have d68 := ev_put hT161 (by omega)
         have szT161 := (sz_at hT161).trans szT160
         have HT161 := Lib.hid (show T160.put (some 68) (.tuple #[v.val, .int .i64 (R2.n : Int), .int .i64 R2.e]) = T161 from hT161)
         clear hT161 szT160
         refine wpAnyH_take (i := 9) (v := v.val) rfl (by kernel_rfl) (by kernel_rfl) (by kernel_rfl) (fun _ _ _ h => h) (.inl ⟨rfl, fun w g => run_ext30 rfl d68 w⟩) SF.out ?_
         refine act_letter (fun T162 hT162 => ?_)
         replace d68 := (ev_at hT162 (by decide)).trans d68
         have d77 := ev_put hT162 (by omega)
         have szT162 := (sz_at hT162).trans szT161
         have HT162 := Lib.hid (show T161.put (some 77) (v.val) = T162 from hT162)
         clear hT162 szT161
         refine wpAnyH_take (i := 10) (v := .int .i64 (R2.n : Int)) rfl (by kernel_rfl) (by kernel_rfl) (by kernel_rfl) (fun _ _ _ h => h) (.inl ⟨rfl, fun w g => run_ext31 rfl d68 w⟩) SF.out ?_
         refine act_letter (fun T163 hT163 => ?_)
         replace d68 := (ev_at hT163 (by decide)).trans d68
         replace d77 := (ev_at hT163 (by decide)).trans d77
         have d78 := ev_put hT163 (by omega)
         have szT163 := (sz_at hT163).trans szT162
         have HT163 := Lib.hid (show T162.put (some 78) (.int .i64 (R2.n : Int)) = T163 from hT163)
         clear hT163 szT162
         refine wpAnyH_take (i := 11) (v := .int .i64 R2.e) rfl (by kernel_rfl) (by kernel_rfl) (by kernel_rfl) (fun _ _ _ h => h) (.inl ⟨rfl, fun w g => run_ext32 rfl d68 w⟩) SF.out ?_
         refine act_letter (fun T164 hT164 => ?_)
         replace d68 := (ev_at hT164 (by decide)).trans d68
         replace d77 := (ev_at hT164 (by decide)).trans d77
         replace d78 := (ev_at hT164 (by decide)).trans d78
         have d79 := ev_put hT164 (by omega)
         have szT164 := (sz_at hT164).trans szT163
         have HT164 := Lib.hid (show T163.put (some 79) (.int .i64 R2.e) = T164 from hT164)
         clear hT164 szT163
         refine wpAnyH_ready (rs := [12]) (by kernel_rfl) (by simp) ?_
         refine (AllReadyH.cons rfl (fun K hK => ?_) AllReadyH.nil)
         refine wp_newVq rfl rfl (fun z x164 hz g hzl => hK.out _ _ (SF.out.grew g (by simp)) (fun _ => ?_))
         clear hK K
         have fr0 := fr_of g (F := fun _ => False)
         have nG := Lib.hid (grew_trans G.out g)
         have nSF := Lib.hid (SF.out.grew g (by simp))
         have nCV := Lib.hid (show v.In _ ∧ v.nf = R2.v from ⟨CV.out.1.grew g, CV.out.2⟩)
         clear fr0
         have ZL := Lib.hid (show W6.heap.size ≤ z from Nat.le_trans G.out.size hzl)
         have VO := Lib.hid (CV.out.1.offn (F := fun i => i = z) (fun i e => by subst e; exact hzl))
         clear G
         clear SF
         clear CV
         have G := nG
         have SF := nSF
         have CV := nCV
         clear nG nSF nCV
         have ZV := Lib.hid hz
         clear hz g hzl
         refine act_letter (fun T166 hT166 => ?_)
         replace d77 := (ev_at hT166 (by decide)).trans d77
         replace d78 := (ev_at hT166 (by decide)).trans d78
         replace d79 := (ev_at hT166 (by decide)).trans d79
         clear d68
         have d12 := ev_put hT166 (by omega)
         have szT166 := (sz_at hT166).trans szT164
         have HT166 := Lib.hid (show T164.put (some 12) (.pointer (some ⟨z, 0, none⟩)) = T166 from hT166)
         clear hT166 szT164
         refine wpAnyH_ready (rs := [13]) (by kernel_rfl) (by simp) ?_
         refine AllReadyH.cons rfl (fun K hK => ?_) AllReadyH.nil
         have nSF := Lib.hid (show Whole (putV x164 z v) q f.cells 24 from SF.out.fr (fr_put3 _ _ _ _ _) (fun e => Whole.ne SF.out ZV.out (by decide) e))
         have nCV := Lib.hid (show v.In (putV x164 z v) ∧ v.nf = R2.v from ⟨In.fr2 CV.out.1 (fr_put3 _ _ _ _ _) VO.out, CV.out.2⟩)
         have nG := Lib.hid (show Grew W6 (putV x164 z v) none from grew_put3 G.out ZL.out _ _ _)
         have nZV := Lib.hid (show Whole (putV x164 z v) z v.cells 35 from ZV.out.put3 _ _ _)
         refine wp_skipG rfl (w' := putV x164 z v) (run_storeVa rfl d12 d77 ZV.out) (hK.out _ _ nSF.out (fun _ => ?_))
         clear hK K
         clear SF
         clear CV
         clear G
         clear ZV
         have SF := nSF
         have CV := nCV
         have G := nG
         have ZV := nZV
         clear nSF nCV nG nZV
         refine act_letter (fun T167 hT167 => ?_)
         replace d77 : T167.eval (.tmp 77) = v.val := by rw [← hT167]; exact d77
         replace d78 : T167.eval (.tmp 78) = .int .i64 (R2.n : Int) := by rw [← hT167]; exact d78
         replace d79 : T167.eval (.tmp 79) = .int .i64 R2.e := by rw [← hT167]; exact d79
         replace d12 : T167.eval (.tmp 12) = .pointer (some ⟨z, 0, none⟩) := by rw [← hT167]; exact d12
         have szT167 : T167.tmps.size = 109 := by rw [← hT167]; exact szT166
         have HT167 := Lib.hid (show T166 = T167 from hT167)
         clear hT167 szT166
         refine wpAnyH_take (i := 14) (v := .int .i64 (R2.n : Int)) rfl (by kernel_rfl) (by kernel_rfl) (by kernel_rfl) (fun _ _ _ h => h) (.inl ⟨rfl, fun w g => run_assign rfl d78 w⟩) SF.out ?_
         refine act_letter (fun T168 hT168 => ?_)
         replace d78 := (ev_at hT168 (by decide)).trans d78
         replace d79 := (ev_at hT168 (by decide)).trans d79
         clear d77 d12
         have d13 := ev_put hT168 (by omega)
         have szT168 := (sz_at hT168).trans szT167
         have HT168 := Lib.hid (show T167.put (some 13) (.int .i64 (R2.n : Int)) = T168 from hT168)
         clear hT168 szT167
         refine wpAnyH_take (i := 15) (v := .int .i64 R2.e) rfl (by kernel_rfl) (by kernel_rfl) (by kernel_rfl) (fun _ _ _ h => h) (.inl ⟨rfl, fun w g => run_assign rfl d79 w⟩) SF.out ?_
         refine act_letter (fun T169 hT169 => ?_)
         replace d78 := (ev_at hT169 (by decide)).trans d78
         replace d79 := (ev_at hT169 (by decide)).trans d79
         replace d13 := (ev_at hT169 (by decide)).trans d13
         have d14 := ev_put hT169 (by omega)
         have szT169 := (sz_at hT169).trans szT168
         have HT169 := Lib.hid (show T168.put (some 14) (.int .i64 R2.e) = T169 from hT169)
         clear hT169 szT168
         refine wpAnyH_done (by kernel_rfl) ?_ _
         refine ⟨v, z, V0, V1, .slice (some ⟨q1, 0, none⟩) 1 1, V2, ?_, CV.out.1, CV.out.2, ZV.out, G.out⟩
         rw [← HT169.out, ← HT168.out, ← HT167.out, ← HT166.out, ← HT164.out, ← HT163.out, ← HT162.out, ← HT161.out, ← HT160.out, ← HT158.out, ← HT156.out, ← HT154.out, ← HT152.out, ← HT4.out, ← HT3.out, ← HT2.out, ← HT1.out]
         try simp only [Act.put, List.setIfInBounds_toArray, List.set_cons_zero, List.set_cons_succ]
        ·
         skip
         refine wp_newVq rfl rfl (fun z x169 hz g hzl => hK.out _ _ (SF.out.grew g (by simp)) (fun _ => ?_))
         clear hK K
         have fr0 := fr_of g (F := fun _ => False)
         have nG := Lib.hid (grew_trans G.out g)
         have nSF := Lib.hid (SF.out.grew g (by simp))
         have nOW := Lib.hid (own_fr OW.out fr0 (fun _ _ h => h))
         have nBY := Lib.hid (BY.out.fr fr0 (fun _ _ h => h))
         have nQ1 := Lib.hid (show W6.heap.size ≤ q1 ∧ q1 < _ from ⟨Q1.out.1, Nat.lt_of_lt_of_le Q1.out.2 g.size⟩)
         clear fr0
         have ZL := Lib.hid (show W6.heap.size ≤ z from Nat.le_trans G.out.size hzl)
         clear G
         clear SF
         clear OW
         clear BY
         clear Q1
         have G := nG
         have SF := nSF
         have OW := nOW
         have BY := nBY
         have Q1 := nQ1
         clear nG nSF nOW nBY nQ1
         have ZV := Lib.hid hz
         clear hz g hzl
         refine act_letter (fun T171 hT171 => ?_)
         replace d69 := (ev_at hT171 (by decide)).trans d69
         replace d75 := (ev_at hT171 (by decide)).trans d75
         have d12 := ev_put hT171 (by omega)
         have szT171 := (sz_at hT171).trans szT158
         have HT171 := Lib.hid (show T158.put (some 12) (.pointer (some ⟨z, 0, none⟩)) = T171 from hT171)
         clear hT171 szT158
         refine wpAnyH_ready (rs := [7]) (by kernel_rfl) (by simp) ?_
         refine (AllReadyH.cons rfl (fun K hK => ?_) AllReadyH.nil)
         have OW2 := OW.out
         rw [HMS.out] at OW2
         obtain ⟨A3, c3, hV2, hl3, hb3⟩ := byt_of_own OW2
         have e75 := d75.trans hV2
         have e69 := d69.trans (val_eq f)
         refine wp_callG rfl rfl enter_readF (vs := #[.agg #[.int .i64 f.k, .int .i64 f.s, .int .i64 f.l, .int .i64 f.h, .int .i64 f.t, .slice f.A f.ps.length f.c], .slice A3 ms.length c3, .int .i64 0]) (by simp only [List.map_toArray, List.map_cons, List.map_nil, e69, e75]; rfl) ((CP9.out _ G.out A3 c3 hl3 hb3).mono ?_)
         rintro e x171 ⟨v, rfl, hv, hnf, g, hhi⟩
         have VO := Lib.hid (hhi.offn (F := fun i => i = z) (fun i e => by subst e; exact ZV.out.lt))
         refine ⟨_, rfl, hK.out _ _ (SF.out.grew g (by simp)) (fun _ => ?_)⟩
         clear hK K
         have fr0 := fr_of g (F := fun _ => False)
         have nG := Lib.hid (grew_trans G.out g)
         have nSF := Lib.hid (SF.out.grew g (by simp))
         have nZV := Lib.hid (ZV.out.grew g (by simp))
         clear fr0
         clear G
         clear SF
         clear ZV
         have G := nG
         have SF := nSF
         have ZV := nZV
         clear nG nSF nZV
         have CV := Lib.hid (show v.In x171 ∧ v.nf = R2.v from ⟨hv, hnf⟩)
         clear hv hnf g hhi
         clear hV2 hl3 hb3 e75 e69 OW2
         refine act_letter (fun T173 hT173 => ?_)
         replace d12 := (ev_at hT173 (by decide)).trans d12
         clear d69 d75
         have d76 := ev_put hT173 (by omega)
         have szT173 := (sz_at hT173).trans szT171
         have HT173 := Lib.hid (show T171.put (some 76) (.tuple #[v.val, .int .i64 (R2.n : Int), .int .i64 R2.e]) = T173 from hT173)
         clear hT173 szT171
         refine wpAnyH_take (i := 8) (v := .tuple #[v.val, .int .i64 (R2.n : Int), .int .i64 R2.e]) rfl (by kernel_rfl) (by kernel_rfl) (by kernel_rfl) (fun _ _ _ h => h) (.inl ⟨rfl, fun w g => run_moveV rfl d76 w⟩) SF.out ?_
         refine act_letter (fun T174 hT174 => ?_)
         replace d12 := (ev_at hT174 (by decide)).trans d12
         clear d76
         have d68 := ev_put hT174 (by omega)
         have szT174 := (sz_at hT174).trans szT173
         have HT174 := Lib.hid (show T173.put (some 68) (.tuple #[v.val, .int .i64 (R2.n : Int), .int .i64 R2.e]) = T174 from hT174)
         clear hT174 szT173
         refine wpAnyH_take (i := 9) (v := v.val) rfl (by kernel_rfl) (by kernel_rfl) (by kernel_rfl) (fun _ _ _ h => h) (.inl ⟨rfl, fun w g => run_ext30 rfl d68 w⟩) SF.out ?_
         refine act_letter (fun T175 hT175 => ?_)
         replace d12 := (ev_at hT175 (by decide)).trans d12
         replace d68 := (ev_at hT175 (by decide)).trans d68
         have d77 := ev_put hT175 (by omega)
         have szT175 := (sz_at hT175).trans szT174
         have HT175 := Lib.hid (show T174.put (some 77) (v.val) = T175 from hT175)
         clear hT175 szT174
         refine wpAnyH_take (i := 10) (v := .int .i64 (R2.n : Int)) rfl (by kernel_rfl) (by kernel_rfl) (by kernel_rfl) (fun _ _ _ h => h) (.inl ⟨rfl, fun w g => run_ext31 rfl d68 w⟩) SF.out ?_
         refine act_letter (fun T176 hT176 => ?_)
         replace d12 := (ev_at hT176 (by decide)).trans d12
         replace d68 := (ev_at hT176 (by decide)).trans d68
         replace d77 := (ev_at hT176 (by decide)).trans d77
         have d78 := ev_put hT176 (by omega)
         have szT176 := (sz_at hT176).trans szT175
         have HT176 := Lib.hid (show T175.put (some 78) (.int .i64 (R2.n : Int)) = T176 from hT176)
         clear hT176 szT175
         refine wpAnyH_take (i := 11) (v := .int .i64 R2.e) rfl (by kernel_rfl) (by kernel_rfl) (by kernel_rfl) (fun _ _ _ h => h) (.inl ⟨rfl, fun w g => run_ext32 rfl d68 w⟩) SF.out ?_
         refine act_letter (fun T177 hT177 => ?_)
         replace d12 := (ev_at hT177 (by decide)).trans d12
         replace d68 := (ev_at hT177 (by decide)).trans d68
         replace d77 := (ev_at hT177 (by decide)).trans d77
         replace d78 := (ev_at hT177 (by decide)).trans d78
         have d79 := ev_put hT177 (by omega)
         have szT177 := (sz_at hT177).trans szT176
         have HT177 := Lib.hid (show T176.put (some 79) (.int .i64 R2.e) = T177 from hT177)
         clear hT177 szT176
         refine wpAnyH_ready (rs := [13]) (by kernel_rfl) (by simp) ?_
         refine AllReadyH.cons rfl (fun K hK => ?_) AllReadyH.nil
         have nSF := Lib.hid (show Whole (putV x171 z v) q f.cells 24 from SF.out.fr (fr_put3 _ _ _ _ _) (fun e => Whole.ne SF.out ZV.out (by decide) e))
         have nCV := Lib.hid (show v.In (putV x171 z v) ∧ v.nf = R2.v from ⟨In.fr2 CV.out.1 (fr_put3 _ _ _ _ _) VO.out, CV.out.2⟩)
         have nG := Lib.hid (show Grew W6 (putV x171 z v) none from grew_put3 G.out ZL.out _ _ _)
         have nZV := Lib.hid (show Whole (putV x171 z v) z v.cells 35 from ZV.out.put3 _ _ _)
         refine wp_skipG rfl (w' := putV x171 z v) (run_storeVa rfl d12 d77 ZV.out) (hK.out _ _ nSF.out (fun _ => ?_))
         clear hK K
         clear SF
         clear CV
         clear G
         clear ZV
         have SF := nSF
         have CV := nCV
         have G := nG
         have ZV := nZV
         clear nSF nCV nG nZV
         refine act_letter (fun T178 hT178 => ?_)
         replace d12 : T178.eval (.tmp 12) = .pointer (some ⟨z, 0, none⟩) := by rw [← hT178]; exact d12
         replace d68 : T178.eval (.tmp 68) = .tuple #[v.val, .int .i64 (R2.n : Int), .int .i64 R2.e] := by rw [← hT178]; exact d68
         replace d77 : T178.eval (.tmp 77) = v.val := by rw [← hT178]; exact d77
         replace d78 : T178.eval (.tmp 78) = .int .i64 (R2.n : Int) := by rw [← hT178]; exact d78
         replace d79 : T178.eval (.tmp 79) = .int .i64 R2.e := by rw [← hT178]; exact d79
         have szT178 : T178.tmps.size = 109 := by rw [← hT178]; exact szT177
         have HT178 := Lib.hid (show T177 = T178 from hT178)
         clear hT178 szT177
         refine wpAnyH_take (i := 14) (v := .int .i64 (R2.n : Int)) rfl (by kernel_rfl) (by kernel_rfl) (by kernel_rfl) (fun _ _ _ h => h) (.inl ⟨rfl, fun w g => run_assign rfl d78 w⟩) SF.out ?_
         refine act_letter (fun T179 hT179 => ?_)
         replace d78 := (ev_at hT179 (by decide)).trans d78
         replace d79 := (ev_at hT179 (by decide)).trans d79
         clear d12 d68 d77
         have d13 := ev_put hT179 (by omega)
         have szT179 := (sz_at hT179).trans szT178
         have HT179 := Lib.hid (show T178.put (some 13) (.int .i64 (R2.n : Int)) = T179 from hT179)
         clear hT179 szT178
         refine wpAnyH_take (i := 15) (v := .int .i64 R2.e) rfl (by kernel_rfl) (by kernel_rfl) (by kernel_rfl) (fun _ _ _ h => h) (.inl ⟨rfl, fun w g => run_assign rfl d79 w⟩) SF.out ?_
         refine act_letter (fun T180 hT180 => ?_)
         replace d78 := (ev_at hT180 (by decide)).trans d78
         replace d79 := (ev_at hT180 (by decide)).trans d79
         replace d13 := (ev_at hT180 (by decide)).trans d13
         have d14 := ev_put hT180 (by omega)
         have szT180 := (sz_at hT180).trans szT179
         have HT180 := Lib.hid (show T179.put (some 14) (.int .i64 R2.e) = T180 from hT180)
         clear hT180 szT179
         refine wpAnyH_done (by kernel_rfl) ?_ _
         refine ⟨v, z, V0, V1, .slice (some ⟨q1, 0, none⟩) 1 1, V2, ?_, CV.out.1, CV.out.2, ZV.out, G.out⟩
         rw [← HT180.out, ← HT179.out, ← HT178.out, ← HT177.out, ← HT176.out, ← HT175.out, ← HT174.out, ← HT173.out, ← HT171.out, ← HT158.out, ← HT156.out, ← HT154.out, ← HT152.out, ← HT4.out, ← HT3.out, ← HT2.out, ← HT1.out]
         try simp only [Act.put, List.setIfInBounds_toArray, List.set_cons_zero, List.set_cons_succ]
       ·
        skip
        refine wp_newVq rfl rfl (fun z x180 hz g hzl => hK.out _ _ (SF.out.grew g (by simp)) (fun _ => ?_))
        clear hK K
        have fr0 := fr_of g (F := fun _ => False)
        have nG := Lib.hid (grew_trans G.out g)
        have nSF := Lib.hid (SF.out.grew g (by simp))
        have nOW := Lib.hid (own_fr OW.out fr0 (fun _ _ h => h))
        have nBY := Lib.hid (BY.out.fr fr0 (fun _ _ h => h))
        have nQ1 := Lib.hid (show W6.heap.size ≤ q1 ∧ q1 < _ from ⟨Q1.out.1, Nat.lt_of_lt_of_le Q1.out.2 g.size⟩)
        clear fr0
        have ZL := Lib.hid (show W6.heap.size ≤ z from Nat.le_trans G.out.size hzl)
        clear G
        clear SF
        clear OW
        clear BY
        clear Q1
        have G := nG
        have SF := nSF
        have OW := nOW
        have BY := nBY
        have Q1 := nQ1
        clear nG nSF nOW nBY nQ1
        have ZV := Lib.hid hz
        clear hz g hzl
        refine act_letter (fun T182 hT182 => ?_)
        replace d69 := (ev_at hT182 (by decide)).trans d69
        replace d74 := (ev_at hT182 (by decide)).trans d74
        replace d72 := (ev_at hT182 (by decide)).trans d72
        have d12 := ev_put hT182 (by omega)
        have szT182 := (sz_at hT182).trans szT156
        have HT182 := Lib.hid (show T156.put (some 12) (.pointer (some ⟨z, 0, none⟩)) = T182 from hT182)
        clear hT182 szT156
        refine wpAnyH_ready (rs := [6]) (by kernel_rfl) (by simp) ?_
        refine (AllReadyH.cons rfl (fun K hK => ?_) AllReadyH.nil)
        refine wp_appB rfl rfl OW.out d72 (BY.out) 1 d74 (by have := HX.out; simp; omega) (fun V2 x182 hz g hor => hK.out _ _ (SF.out.fr (Fr.of_grew' g (F := fun i => V1.ownBlock = some i) (fun i e => e)) (own_ne OW.out SF.out (by decide))) (fun _ => ?_))
        clear hK K
        have fr0 := Fr.of_grew' g (F := fun i => V1.ownBlock = some i) (fun i e => e)
        have nG := Lib.hid (grew_fr G.out fr0 (fun i e => OB.out i e))
        have nSF := Lib.hid (SF.out.fr fr0 (own_ne OW.out SF.out (by decide)))
        have nZV := Lib.hid (ZV.out.fr fr0 (own_ne OW.out ZV.out (by decide)))
        have nBY := Lib.hid (BY.out.fr fr0 (fun i hi e => ON.out i e hi))
        have nQ1 := Lib.hid (show W6.heap.size ≤ q1 ∧ q1 < _ from ⟨Q1.out.1, Nat.lt_of_lt_of_le Q1.out.2 fr0.size⟩)
        clear fr0
        have nOB := Lib.hid (show ∀ b, V2.ownBlock = some b → W6.heap.size ≤ b from fun b hb => by
         rcases hor with e | e
         ·
          rw [e] at hb; exact OB.out b hb
         ·
          rw [e] at hb; cases hb; exact G.out.size)
        have nON := Lib.hid (show ∀ b, V2.ownBlock = some b → b ≠ q1 from fun b hb => by
         rcases hor with e | e
         ·
          rw [e] at hb; exact ON.out b hb
         ·
          rw [e] at hb; cases hb; have := Q1.out.2; omega)
        have nOW := Lib.hid hz
        clear G
        clear SF
        clear ZV
        clear OW
        clear BY
        clear Q1
        clear OB
        clear ON
        have G := nG
        have SF := nSF
        have ZV := nZV
        have OW := nOW
        have BY := nBY
        have Q1 := nQ1
        have OB := nOB
        have ON := nON
        clear nG nSF nZV nOW nBY nQ1 nOB nON
        clear hz g hor
        refine act_letter (fun T184 hT184 => ?_)
        replace d69 := (ev_at hT184 (by decide)).trans d69
        replace d12 := (ev_at hT184 (by decide)).trans d12
        clear d74 d72
        have d75 := ev_put hT184 (by omega)
        have szT184 := (sz_at hT184).trans szT182
        have HT184 := Lib.hid (show T182.put (some 75) (V2) = T184 from hT184)
        clear hT184 szT182
        refine wpAnyH_ready (rs := [7]) (by kernel_rfl) (by simp) ?_
        refine (AllReadyH.cons rfl (fun K hK => ?_) AllReadyH.nil)
        have OW2 := OW.out
        rw [HMS.out] at OW2
        obtain ⟨A3, c3, hV2, hl3, hb3⟩ := byt_of_own OW2
        have e75 := d75.trans hV2
        have e69 := d69.trans (val_eq f)
        refine wp_callG rfl rfl enter_readF (vs := #[.agg #[.int .i64 f.k, .int .i64 f.s, .int .i64 f.l, .int .i64 f.h, .int .i64 f.t, .slice f.A f.ps.length f.c], .slice A3 ms.length c3, .int .i64 0]) (by simp only [List.map_toArray, List.map_cons, List.map_nil, e69, e75]; rfl) ((CP9.out _ G.out A3 c3 hl3 hb3).mono ?_)
        rintro e x184 ⟨v, rfl, hv, hnf, g, hhi⟩
        have VO := Lib.hid (hhi.offn (F := fun i => i = z) (fun i e => by subst e; exact ZV.out.lt))
        refine ⟨_, rfl, hK.out _ _ (SF.out.grew g (by simp)) (fun _ => ?_)⟩
        clear hK K
        have fr0 := fr_of g (F := fun _ => False)
        have nG := Lib.hid (grew_trans G.out g)
        have nSF := Lib.hid (SF.out.grew g (by simp))
        have nZV := Lib.hid (ZV.out.grew g (by simp))
        clear fr0
        clear G
        clear SF
        clear ZV
        have G := nG
        have SF := nSF
        have ZV := nZV
        clear nG nSF nZV
        have CV := Lib.hid (show v.In x184 ∧ v.nf = R2.v from ⟨hv, hnf⟩)
        clear hv hnf g hhi
        clear hV2 hl3 hb3 e75 e69 OW2
        refine act_letter (fun T186 hT186 => ?_)
        replace d12 := (ev_at hT186 (by decide)).trans d12
        clear d69 d75
        have d76 := ev_put hT186 (by omega)
        have szT186 := (sz_at hT186).trans szT184
        have HT186 := Lib.hid (show T184.put (some 76) (.tuple #[v.val, .int .i64 (R2.n : Int), .int .i64 R2.e]) = T186 from hT186)
        clear hT186 szT184
        refine wpAnyH_take (i := 8) (v := .tuple #[v.val, .int .i64 (R2.n : Int), .int .i64 R2.e]) rfl (by kernel_rfl) (by kernel_rfl) (by kernel_rfl) (fun _ _ _ h => h) (.inl ⟨rfl, fun w g => run_moveV rfl d76 w⟩) SF.out ?_
        refine act_letter (fun T187 hT187 => ?_)
        replace d12 := (ev_at hT187 (by decide)).trans d12
        clear d76
        have d68 := ev_put hT187 (by omega)
        have szT187 := (sz_at hT187).trans szT186
        have HT187 := Lib.hid (show T186.put (some 68) (.tuple #[v.val, .int .i64 (R2.n : Int), .int .i64 R2.e]) = T187 from hT187)
        clear hT187 szT186
        refine wpAnyH_take (i := 9) (v := v.val) rfl (by kernel_rfl) (by kernel_rfl) (by kernel_rfl) (fun _ _ _ h => h) (.inl ⟨rfl, fun w g => run_ext30 rfl d68 w⟩) SF.out ?_
        refine act_letter (fun T188 hT188 => ?_)
        replace d12 := (ev_at hT188 (by decide)).trans d12
        replace d68 := (ev_at hT188 (by decide)).trans d68
        have d77 := ev_put hT188 (by omega)
        have szT188 := (sz_at hT188).trans szT187
        have HT188 := Lib.hid (show T187.put (some 77) (v.val) = T188 from hT188)
        clear hT188 szT187
        refine wpAnyH_take (i := 10) (v := .int .i64 (R2.n : Int)) rfl (by kernel_rfl) (by kernel_rfl) (by kernel_rfl) (fun _ _ _ h => h) (.inl ⟨rfl, fun w g => run_ext31 rfl d68 w⟩) SF.out ?_
        refine act_letter (fun T189 hT189 => ?_)
        replace d12 := (ev_at hT189 (by decide)).trans d12
        replace d68 := (ev_at hT189 (by decide)).trans d68
        replace d77 := (ev_at hT189 (by decide)).trans d77
        have d78 := ev_put hT189 (by omega)
        have szT189 := (sz_at hT189).trans szT188
        have HT189 := Lib.hid (show T188.put (some 78) (.int .i64 (R2.n : Int)) = T189 from hT189)
        clear hT189 szT188
        refine wpAnyH_take (i := 11) (v := .int .i64 R2.e) rfl (by kernel_rfl) (by kernel_rfl) (by kernel_rfl) (fun _ _ _ h => h) (.inl ⟨rfl, fun w g => run_ext32 rfl d68 w⟩) SF.out ?_
        refine act_letter (fun T190 hT190 => ?_)
        replace d12 := (ev_at hT190 (by decide)).trans d12
        replace d68 := (ev_at hT190 (by decide)).trans d68
        replace d77 := (ev_at hT190 (by decide)).trans d77
        replace d78 := (ev_at hT190 (by decide)).trans d78
        have d79 := ev_put hT190 (by omega)
        have szT190 := (sz_at hT190).trans szT189
        have HT190 := Lib.hid (show T189.put (some 79) (.int .i64 R2.e) = T190 from hT190)
        clear hT190 szT189
        refine wpAnyH_ready (rs := [13]) (by kernel_rfl) (by simp) ?_
        refine AllReadyH.cons rfl (fun K hK => ?_) AllReadyH.nil
        have nSF := Lib.hid (show Whole (putV x184 z v) q f.cells 24 from SF.out.fr (fr_put3 _ _ _ _ _) (fun e => Whole.ne SF.out ZV.out (by decide) e))
        have nCV := Lib.hid (show v.In (putV x184 z v) ∧ v.nf = R2.v from ⟨In.fr2 CV.out.1 (fr_put3 _ _ _ _ _) VO.out, CV.out.2⟩)
        have nG := Lib.hid (show Grew W6 (putV x184 z v) none from grew_put3 G.out ZL.out _ _ _)
        have nZV := Lib.hid (show Whole (putV x184 z v) z v.cells 35 from ZV.out.put3 _ _ _)
        refine wp_skipG rfl (w' := putV x184 z v) (run_storeVa rfl d12 d77 ZV.out) (hK.out _ _ nSF.out (fun _ => ?_))
        clear hK K
        clear SF
        clear CV
        clear G
        clear ZV
        have SF := nSF
        have CV := nCV
        have G := nG
        have ZV := nZV
        clear nSF nCV nG nZV
        refine act_letter (fun T191 hT191 => ?_)
        replace d12 : T191.eval (.tmp 12) = .pointer (some ⟨z, 0, none⟩) := by rw [← hT191]; exact d12
        replace d68 : T191.eval (.tmp 68) = .tuple #[v.val, .int .i64 (R2.n : Int), .int .i64 R2.e] := by rw [← hT191]; exact d68
        replace d77 : T191.eval (.tmp 77) = v.val := by rw [← hT191]; exact d77
        replace d78 : T191.eval (.tmp 78) = .int .i64 (R2.n : Int) := by rw [← hT191]; exact d78
        replace d79 : T191.eval (.tmp 79) = .int .i64 R2.e := by rw [← hT191]; exact d79
        have szT191 : T191.tmps.size = 109 := by rw [← hT191]; exact szT190
        have HT191 := Lib.hid (show T190 = T191 from hT191)
        clear hT191 szT190
        refine wpAnyH_take (i := 14) (v := .int .i64 (R2.n : Int)) rfl (by kernel_rfl) (by kernel_rfl) (by kernel_rfl) (fun _ _ _ h => h) (.inl ⟨rfl, fun w g => run_assign rfl d78 w⟩) SF.out ?_
        refine act_letter (fun T192 hT192 => ?_)
        replace d78 := (ev_at hT192 (by decide)).trans d78
        replace d79 := (ev_at hT192 (by decide)).trans d79
        clear d12 d68 d77
        have d13 := ev_put hT192 (by omega)
        have szT192 := (sz_at hT192).trans szT191
        have HT192 := Lib.hid (show T191.put (some 13) (.int .i64 (R2.n : Int)) = T192 from hT192)
        clear hT192 szT191
        refine wpAnyH_take (i := 15) (v := .int .i64 R2.e) rfl (by kernel_rfl) (by kernel_rfl) (by kernel_rfl) (fun _ _ _ h => h) (.inl ⟨rfl, fun w g => run_assign rfl d79 w⟩) SF.out ?_
        refine act_letter (fun T193 hT193 => ?_)
        replace d78 := (ev_at hT193 (by decide)).trans d78
        replace d79 := (ev_at hT193 (by decide)).trans d79
        replace d13 := (ev_at hT193 (by decide)).trans d13
        have d14 := ev_put hT193 (by omega)
        have szT193 := (sz_at hT193).trans szT192
        have HT193 := Lib.hid (show T192.put (some 14) (.int .i64 R2.e) = T193 from hT193)
        clear hT193 szT192
        refine wpAnyH_done (by kernel_rfl) ?_ _
        refine ⟨v, z, V0, V1, .slice (some ⟨q1, 0, none⟩) 1 1, V2, ?_, CV.out.1, CV.out.2, ZV.out, G.out⟩
        rw [← HT193.out, ← HT192.out, ← HT191.out, ← HT190.out, ← HT189.out, ← HT188.out, ← HT187.out, ← HT186.out, ← HT184.out, ← HT182.out, ← HT156.out, ← HT154.out, ← HT152.out, ← HT4.out, ← HT3.out, ← HT2.out, ← HT1.out]
        try simp only [Act.put, List.setIfInBounds_toArray, List.set_cons_zero, List.set_cons_succ]
      ·
       skip
       refine wp_newVq rfl rfl (fun z x193 hz g hzl => hK.out _ _ (SF.out.grew g (by simp)) (fun _ => ?_))
       clear hK K
       have fr0 := fr_of g (F := fun _ => False)
       have nG := Lib.hid (grew_trans G.out g)
       have nSF := Lib.hid (SF.out.grew g (by simp))
       have nOW := Lib.hid (own_fr OW.out fr0 (fun _ _ h => h))
       have nBY := Lib.hid (BY.out.fr fr0 (fun _ _ h => h))
       have nQ1 := Lib.hid (show W6.heap.size ≤ q1 ∧ q1 < _ from ⟨Q1.out.1, Nat.lt_of_lt_of_le Q1.out.2 g.size⟩)
       clear fr0
       have ZL := Lib.hid (show W6.heap.size ≤ z from Nat.le_trans G.out.size hzl)
       clear G
       clear SF
       clear OW
       clear BY
       clear Q1
       have G := nG
       have SF := nSF
       have OW := nOW
       have BY := nBY
       have Q1 := nQ1
       clear nG nSF nOW nBY nQ1
       have ZV := Lib.hid hz
       clear hz g hzl
       refine act_letter (fun T195 hT195 => ?_)
       replace d69 := (ev_at hT195 (by decide)).trans d69
       replace d71 := (ev_at hT195 (by decide)).trans d71
       replace d74 := (ev_at hT195 (by decide)).trans d74
       replace d70 := (ev_at hT195 (by decide)).trans d70
       have d12 := ev_put hT195 (by omega)
       have szT195 := (sz_at hT195).trans szT154
       have HT195 := Lib.hid (show T154.put (some 12) (.pointer (some ⟨z, 0, none⟩)) = T195 from hT195)
       clear hT195 szT154
       refine wpAnyH_ready (rs := [3]) (by kernel_rfl) (by simp) ?_
       refine (AllReadyH.cons rfl (fun K hK => ?_) AllReadyH.nil)
       refine wp_appB rfl rfl OW.out d70 ((HBX.out.grew G.out (fun _ h => by cases h)).byf) c d71 (by have := HX.out; omega) (fun V1 x195 hz g hor => hK.out _ _ (SF.out.fr (Fr.of_grew' g (F := fun i => V0.ownBlock = some i) (fun i e => e)) (own_ne OW.out SF.out (by decide))) (fun _ => ?_))
       clear hK K
       have fr0 := Fr.of_grew' g (F := fun i => V0.ownBlock = some i) (fun i e => e)
       have nG := Lib.hid (grew_fr G.out fr0 (fun i e => OB.out i e))
       have nSF := Lib.hid (SF.out.fr fr0 (own_ne OW.out SF.out (by decide)))
       have nZV := Lib.hid (ZV.out.fr fr0 (own_ne OW.out ZV.out (by decide)))
       have nBY := Lib.hid (BY.out.fr fr0 (fun i hi e => ON.out i e hi))
       have nQ1 := Lib.hid (show W6.heap.size ≤ q1 ∧ q1 < _ from ⟨Q1.out.1, Nat.lt_of_lt_of_le Q1.out.2 fr0.size⟩)
       clear fr0
       have nOB := Lib.hid (show ∀ b, V1.ownBlock = some b → W6.heap.size ≤ b from fun b hb => by
        rcases hor with e | e
        ·
         rw [e] at hb; exact OB.out b hb
        ·
         rw [e] at hb; cases hb; exact G.out.size)
       have nON := Lib.hid (show ∀ b, V1.ownBlock = some b → b ≠ q1 from fun b hb => by
        rcases hor with e | e
        ·
         rw [e] at hb; exact ON.out b hb
        ·
         rw [e] at hb; cases hb; have := Q1.out.2; omega)
       have nOW := Lib.hid hz
       clear G
       clear SF
       clear ZV
       clear OW
       clear BY
       clear Q1
       clear OB
       clear ON
       have G := nG
       have SF := nSF
       have ZV := nZV
       have OW := nOW
       have BY := nBY
       have Q1 := nQ1
       have OB := nOB
       have ON := nON
       clear nG nSF nZV nOW nBY nQ1 nOB nON
       clear hz g hor
       refine act_letter (fun T197 hT197 => ?_)
       replace d69 := (ev_at hT197 (by decide)).trans d69
       replace d74 := (ev_at hT197 (by decide)).trans d74
       replace d12 := (ev_at hT197 (by decide)).trans d12
       clear d71 d70
       have d72 := ev_put hT197 (by omega)
       have szT197 := (sz_at hT197).trans szT195
       have HT197 := Lib.hid (show T195.put (some 72) (V1) = T197 from hT197)
       clear hT197 szT195
       refine wpAnyH_ready (rs := [6]) (by kernel_rfl) (by simp) ?_
       refine (AllReadyH.cons rfl (fun K hK => ?_) AllReadyH.nil)
       refine wp_appB rfl rfl OW.out d72 (BY.out) 1 d74 (by have := HX.out; simp; omega) (fun V2 x197 hz g hor => hK.out _ _ (SF.out.fr (Fr.of_grew' g (F := fun i => V1.ownBlock = some i) (fun i e => e)) (own_ne OW.out SF.out (by decide))) (fun _ => ?_))
       clear hK K
       have fr0 := Fr.of_grew' g (F := fun i => V1.ownBlock = some i) (fun i e => e)
       have nG := Lib.hid (grew_fr G.out fr0 (fun i e => OB.out i e))
       have nSF := Lib.hid (SF.out.fr fr0 (own_ne OW.out SF.out (by decide)))
       have nZV := Lib.hid (ZV.out.fr fr0 (own_ne OW.out ZV.out (by decide)))
       have nBY := Lib.hid (BY.out.fr fr0 (fun i hi e => ON.out i e hi))
       have nQ1 := Lib.hid (show W6.heap.size ≤ q1 ∧ q1 < _ from ⟨Q1.out.1, Nat.lt_of_lt_of_le Q1.out.2 fr0.size⟩)
       clear fr0
       have nOB := Lib.hid (show ∀ b, V2.ownBlock = some b → W6.heap.size ≤ b from fun b hb => by
        rcases hor with e | e
        ·
         rw [e] at hb; exact OB.out b hb
        ·
         rw [e] at hb; cases hb; exact G.out.size)
       have nON := Lib.hid (show ∀ b, V2.ownBlock = some b → b ≠ q1 from fun b hb => by
        rcases hor with e | e
        ·
         rw [e] at hb; exact ON.out b hb
        ·
         rw [e] at hb; cases hb; have := Q1.out.2; omega)
       have nOW := Lib.hid hz
       clear G
       clear SF
       clear ZV
       clear OW
       clear BY
       clear Q1
       clear OB
       clear ON
       have G := nG
       have SF := nSF
       have ZV := nZV
       have OW := nOW
       have BY := nBY
       have Q1 := nQ1
       have OB := nOB
       have ON := nON
       clear nG nSF nZV nOW nBY nQ1 nOB nON
       clear hz g hor
       refine act_letter (fun T199 hT199 => ?_)
       replace d69 := (ev_at hT199 (by decide)).trans d69
       replace d12 := (ev_at hT199 (by decide)).trans d12
       clear d74 d72
       have d75 := ev_put hT199 (by omega)
       have szT199 := (sz_at hT199).trans szT197
       have HT199 := Lib.hid (show T197.put (some 75) (V2) = T199 from hT199)
       clear hT199 szT197
       refine wpAnyH_ready (rs := [7]) (by kernel_rfl) (by simp) ?_
       refine (AllReadyH.cons rfl (fun K hK => ?_) AllReadyH.nil)
       have OW2 := OW.out
       rw [HMS.out] at OW2
       obtain ⟨A3, c3, hV2, hl3, hb3⟩ := byt_of_own OW2
       have e75 := d75.trans hV2
       have e69 := d69.trans (val_eq f)
       refine wp_callG rfl rfl enter_readF (vs := #[.agg #[.int .i64 f.k, .int .i64 f.s, .int .i64 f.l, .int .i64 f.h, .int .i64 f.t, .slice f.A f.ps.length f.c], .slice A3 ms.length c3, .int .i64 0]) (by simp only [List.map_toArray, List.map_cons, List.map_nil, e69, e75]; rfl) ((CP9.out _ G.out A3 c3 hl3 hb3).mono ?_)
       rintro e x199 ⟨v, rfl, hv, hnf, g, hhi⟩
       have VO := Lib.hid (hhi.offn (F := fun i => i = z) (fun i e => by subst e; exact ZV.out.lt))
       refine ⟨_, rfl, hK.out _ _ (SF.out.grew g (by simp)) (fun _ => ?_)⟩
       clear hK K
       have fr0 := fr_of g (F := fun _ => False)
       have nG := Lib.hid (grew_trans G.out g)
       have nSF := Lib.hid (SF.out.grew g (by simp))
       have nZV := Lib.hid (ZV.out.grew g (by simp))
       clear fr0
       clear G
       clear SF
       clear ZV
       have G := nG
       have SF := nSF
       have ZV := nZV
       clear nG nSF nZV
       have CV := Lib.hid (show v.In x199 ∧ v.nf = R2.v from ⟨hv, hnf⟩)
       clear hv hnf g hhi
       clear hV2 hl3 hb3 e75 e69 OW2
       refine act_letter (fun T201 hT201 => ?_)
       replace d12 := (ev_at hT201 (by decide)).trans d12
       clear d69 d75
       have d76 := ev_put hT201 (by omega)
       have szT201 := (sz_at hT201).trans szT199
       have HT201 := Lib.hid (show T199.put (some 76) (.tuple #[v.val, .int .i64 (R2.n : Int), .int .i64 R2.e]) = T201 from hT201)
       clear hT201 szT199
       refine wpAnyH_take (i := 8) (v := .tuple #[v.val, .int .i64 (R2.n : Int), .int .i64 R2.e]) rfl (by kernel_rfl) (by kernel_rfl) (by kernel_rfl) (fun _ _ _ h => h) (.inl ⟨rfl, fun w g => run_moveV rfl d76 w⟩) SF.out ?_
       refine act_letter (fun T202 hT202 => ?_)
       replace d12 := (ev_at hT202 (by decide)).trans d12
       clear d76
       have d68 := ev_put hT202 (by omega)
       have szT202 := (sz_at hT202).trans szT201
       have HT202 := Lib.hid (show T201.put (some 68) (.tuple #[v.val, .int .i64 (R2.n : Int), .int .i64 R2.e]) = T202 from hT202)
       clear hT202 szT201
       refine wpAnyH_take (i := 9) (v := v.val) rfl (by kernel_rfl) (by kernel_rfl) (by kernel_rfl) (fun _ _ _ h => h) (.inl ⟨rfl, fun w g => run_ext30 rfl d68 w⟩) SF.out ?_
       refine act_letter (fun T203 hT203 => ?_)
       replace d12 := (ev_at hT203 (by decide)).trans d12
       replace d68 := (ev_at hT203 (by decide)).trans d68
       have d77 := ev_put hT203 (by omega)
       have szT203 := (sz_at hT203).trans szT202
       have HT203 := Lib.hid (show T202.put (some 77) (v.val) = T203 from hT203)
       clear hT203 szT202
       refine wpAnyH_take (i := 10) (v := .int .i64 (R2.n : Int)) rfl (by kernel_rfl) (by kernel_rfl) (by kernel_rfl) (fun _ _ _ h => h) (.inl ⟨rfl, fun w g => run_ext31 rfl d68 w⟩) SF.out ?_
       refine act_letter (fun T204 hT204 => ?_)
       replace d12 := (ev_at hT204 (by decide)).trans d12
       replace d68 := (ev_at hT204 (by decide)).trans d68
       replace d77 := (ev_at hT204 (by decide)).trans d77
       have d78 := ev_put hT204 (by omega)
       have szT204 := (sz_at hT204).trans szT203
       have HT204 := Lib.hid (show T203.put (some 78) (.int .i64 (R2.n : Int)) = T204 from hT204)
       clear hT204 szT203
       refine wpAnyH_take (i := 11) (v := .int .i64 R2.e) rfl (by kernel_rfl) (by kernel_rfl) (by kernel_rfl) (fun _ _ _ h => h) (.inl ⟨rfl, fun w g => run_ext32 rfl d68 w⟩) SF.out ?_
       refine act_letter (fun T205 hT205 => ?_)
       replace d12 := (ev_at hT205 (by decide)).trans d12
       replace d68 := (ev_at hT205 (by decide)).trans d68
       replace d77 := (ev_at hT205 (by decide)).trans d77
       replace d78 := (ev_at hT205 (by decide)).trans d78
       have d79 := ev_put hT205 (by omega)
       have szT205 := (sz_at hT205).trans szT204
       have HT205 := Lib.hid (show T204.put (some 79) (.int .i64 R2.e) = T205 from hT205)
       clear hT205 szT204
       refine wpAnyH_ready (rs := [13]) (by kernel_rfl) (by simp) ?_
       refine AllReadyH.cons rfl (fun K hK => ?_) AllReadyH.nil
       have nSF := Lib.hid (show Whole (putV x199 z v) q f.cells 24 from SF.out.fr (fr_put3 _ _ _ _ _) (fun e => Whole.ne SF.out ZV.out (by decide) e))
       have nCV := Lib.hid (show v.In (putV x199 z v) ∧ v.nf = R2.v from ⟨In.fr2 CV.out.1 (fr_put3 _ _ _ _ _) VO.out, CV.out.2⟩)
       have nG := Lib.hid (show Grew W6 (putV x199 z v) none from grew_put3 G.out ZL.out _ _ _)
       have nZV := Lib.hid (show Whole (putV x199 z v) z v.cells 35 from ZV.out.put3 _ _ _)
       refine wp_skipG rfl (w' := putV x199 z v) (run_storeVa rfl d12 d77 ZV.out) (hK.out _ _ nSF.out (fun _ => ?_))
       clear hK K
       clear SF
       clear CV
       clear G
       clear ZV
       have SF := nSF
       have CV := nCV
       have G := nG
       have ZV := nZV
       clear nSF nCV nG nZV
       refine act_letter (fun T206 hT206 => ?_)
       replace d12 : T206.eval (.tmp 12) = .pointer (some ⟨z, 0, none⟩) := by rw [← hT206]; exact d12
       replace d68 : T206.eval (.tmp 68) = .tuple #[v.val, .int .i64 (R2.n : Int), .int .i64 R2.e] := by rw [← hT206]; exact d68
       replace d77 : T206.eval (.tmp 77) = v.val := by rw [← hT206]; exact d77
       replace d78 : T206.eval (.tmp 78) = .int .i64 (R2.n : Int) := by rw [← hT206]; exact d78
       replace d79 : T206.eval (.tmp 79) = .int .i64 R2.e := by rw [← hT206]; exact d79
       have szT206 : T206.tmps.size = 109 := by rw [← hT206]; exact szT205
       have HT206 := Lib.hid (show T205 = T206 from hT206)
       clear hT206 szT205
       refine wpAnyH_take (i := 14) (v := .int .i64 (R2.n : Int)) rfl (by kernel_rfl) (by kernel_rfl) (by kernel_rfl) (fun _ _ _ h => h) (.inl ⟨rfl, fun w g => run_assign rfl d78 w⟩) SF.out ?_
       refine act_letter (fun T207 hT207 => ?_)
       replace d78 := (ev_at hT207 (by decide)).trans d78
       replace d79 := (ev_at hT207 (by decide)).trans d79
       clear d12 d68 d77
       have d13 := ev_put hT207 (by omega)
       have szT207 := (sz_at hT207).trans szT206
       have HT207 := Lib.hid (show T206.put (some 13) (.int .i64 (R2.n : Int)) = T207 from hT207)
       clear hT207 szT206
       refine wpAnyH_take (i := 15) (v := .int .i64 R2.e) rfl (by kernel_rfl) (by kernel_rfl) (by kernel_rfl) (fun _ _ _ h => h) (.inl ⟨rfl, fun w g => run_assign rfl d79 w⟩) SF.out ?_
       refine act_letter (fun T208 hT208 => ?_)
       replace d78 := (ev_at hT208 (by decide)).trans d78
       replace d79 := (ev_at hT208 (by decide)).trans d79
       replace d13 := (ev_at hT208 (by decide)).trans d13
       have d14 := ev_put hT208 (by omega)
       have szT208 := (sz_at hT208).trans szT207
       have HT208 := Lib.hid (show T207.put (some 14) (.int .i64 R2.e) = T208 from hT208)
       clear hT208 szT207
       refine wpAnyH_done (by kernel_rfl) ?_ _
       refine ⟨v, z, V0, V1, .slice (some ⟨q1, 0, none⟩) 1 1, V2, ?_, CV.out.1, CV.out.2, ZV.out, G.out⟩
       rw [← HT208.out, ← HT207.out, ← HT206.out, ← HT205.out, ← HT204.out, ← HT203.out, ← HT202.out, ← HT201.out, ← HT199.out, ← HT197.out, ← HT195.out, ← HT154.out, ← HT152.out, ← HT4.out, ← HT3.out, ← HT2.out, ← HT1.out]
       try simp only [Act.put, List.setIfInBounds_toArray, List.set_cons_zero, List.set_cons_succ]
     ·
      skip
      refine wp_newVq rfl rfl (fun z x208 hz g hzl => hK.out _ _ (SF.out.grew g (by simp)) (fun _ => ?_))
      clear hK K
      have fr0 := fr_of g (F := fun _ => False)
      have nG := Lib.hid (grew_trans G.out g)
      have nSF := Lib.hid (SF.out.grew g (by simp))
      have nBY := Lib.hid (BY.out.fr fr0 (fun _ _ h => h))
      have nQ1 := Lib.hid (show W6.heap.size ≤ q1 ∧ q1 < _ from ⟨Q1.out.1, Nat.lt_of_lt_of_le Q1.out.2 g.size⟩)
      clear fr0
      have ZL := Lib.hid (show W6.heap.size ≤ z from Nat.le_trans G.out.size hzl)
      clear G
      clear SF
      clear BY
      clear Q1
      have G := nG
      have SF := nSF
      have BY := nBY
      have Q1 := nQ1
      clear nG nSF nBY nQ1
      have ZV := Lib.hid hz
      clear hz g hzl
      refine act_letter (fun T210 hT210 => ?_)
      replace d69 := (ev_at hT210 (by decide)).trans d69
      replace d71 := (ev_at hT210 (by decide)).trans d71
      replace d74 := (ev_at hT210 (by decide)).trans d74
      have d12 := ev_put hT210 (by omega)
      have szT210 := (sz_at hT210).trans szT152
      have HT210 := Lib.hid (show T152.put (some 12) (.pointer (some ⟨z, 0, none⟩)) = T210 from hT210)
      clear hT210 szT152
      refine wpAnyH_ready (rs := [1]) (by kernel_rfl) (by simp) ?_
      refine (AllReadyH.cons rfl (fun K hK => ?_) AllReadyH.nil)
      refine wp_new0 rfl rfl (fun V0 x210 hz g hzl => hK.out _ _ (SF.out.grew g (by simp)) (fun _ => ?_))
      clear hK K
      have fr0 := fr_of g (F := fun _ => False)
      have nG := Lib.hid (grew_trans G.out g)
      have nSF := Lib.hid (SF.out.grew g (by simp))
      have nZV := Lib.hid (ZV.out.grew g (by simp))
      have nBY := Lib.hid (BY.out.fr fr0 (fun _ _ h => h))
      have nQ1 := Lib.hid (show W6.heap.size ≤ q1 ∧ q1 < _ from ⟨Q1.out.1, Nat.lt_of_lt_of_le Q1.out.2 g.size⟩)
      clear fr0
      have OB := Lib.hid (show ∀ b, V0.ownBlock = some b → W6.heap.size ≤ b from fun b hb => Nat.le_trans G.out.size (hzl b hb))
      have ON := Lib.hid (show ∀ b, V0.ownBlock = some b → b ≠ q1 from fun b hb e => by have := hzl b hb; have := Q1.out.2; omega)
      clear G
      clear SF
      clear ZV
      clear BY
      clear Q1
      have G := nG
      have SF := nSF
      have ZV := nZV
      have BY := nBY
      have Q1 := nQ1
      clear nG nSF nZV nBY nQ1
      have OW := Lib.hid hz
      clear hz g hzl
      refine act_letter (fun T212 hT212 => ?_)
      replace d69 := (ev_at hT212 (by decide)).trans d69
      replace d71 := (ev_at hT212 (by decide)).trans d71
      replace d74 := (ev_at hT212 (by decide)).trans d74
      replace d12 := (ev_at hT212 (by decide)).trans d12
      have d70 := ev_put hT212 (by omega)
      have szT212 := (sz_at hT212).trans szT210
      have HT212 := Lib.hid (show T210.put (some 70) (V0) = T212 from hT212)
      clear hT212 szT210
      refine wpAnyH_ready (rs := [3]) (by kernel_rfl) (by simp) ?_
      refine (AllReadyH.cons rfl (fun K hK => ?_) AllReadyH.nil)
      refine wp_appB rfl rfl OW.out d70 ((HBX.out.grew G.out (fun _ h => by cases h)).byf) c d71 (by have := HX.out; omega) (fun V1 x212 hz g hor => hK.out _ _ (SF.out.fr (Fr.of_grew' g (F := fun i => V0.ownBlock = some i) (fun i e => e)) (own_ne OW.out SF.out (by decide))) (fun _ => ?_))
      clear hK K
      have fr0 := Fr.of_grew' g (F := fun i => V0.ownBlock = some i) (fun i e => e)
      have nG := Lib.hid (grew_fr G.out fr0 (fun i e => OB.out i e))
      have nSF := Lib.hid (SF.out.fr fr0 (own_ne OW.out SF.out (by decide)))
      have nZV := Lib.hid (ZV.out.fr fr0 (own_ne OW.out ZV.out (by decide)))
      have nBY := Lib.hid (BY.out.fr fr0 (fun i hi e => ON.out i e hi))
      have nQ1 := Lib.hid (show W6.heap.size ≤ q1 ∧ q1 < _ from ⟨Q1.out.1, Nat.lt_of_lt_of_le Q1.out.2 fr0.size⟩)
      clear fr0
      have nOB := Lib.hid (show ∀ b, V1.ownBlock = some b → W6.heap.size ≤ b from fun b hb => by
       rcases hor with e | e
       ·
        rw [e] at hb; exact OB.out b hb
       ·
        rw [e] at hb; cases hb; exact G.out.size)
      have nON := Lib.hid (show ∀ b, V1.ownBlock = some b → b ≠ q1 from fun b hb => by
       rcases hor with e | e
       ·
        rw [e] at hb; exact ON.out b hb
       ·
        rw [e] at hb; cases hb; have := Q1.out.2; omega)
      have nOW := Lib.hid hz
      clear G
      clear SF
      clear ZV
      clear OW
      clear BY
      clear Q1
      clear OB
      clear ON
      have G := nG
      have SF := nSF
      have ZV := nZV
      have OW := nOW
      have BY := nBY
      have Q1 := nQ1
      have OB := nOB
      have ON := nON
      clear nG nSF nZV nOW nBY nQ1 nOB nON
      clear hz g hor
      refine act_letter (fun T214 hT214 => ?_)
      replace d69 := (ev_at hT214 (by decide)).trans d69
      replace d74 := (ev_at hT214 (by decide)).trans d74
      replace d12 := (ev_at hT214 (by decide)).trans d12
      clear d71 d70
      have d72 := ev_put hT214 (by omega)
      have szT214 := (sz_at hT214).trans szT212
      have HT214 := Lib.hid (show T212.put (some 72) (V1) = T214 from hT214)
      clear hT214 szT212
      refine wpAnyH_ready (rs := [6]) (by kernel_rfl) (by simp) ?_
      refine (AllReadyH.cons rfl (fun K hK => ?_) AllReadyH.nil)
      refine wp_appB rfl rfl OW.out d72 (BY.out) 1 d74 (by have := HX.out; simp; omega) (fun V2 x214 hz g hor => hK.out _ _ (SF.out.fr (Fr.of_grew' g (F := fun i => V1.ownBlock = some i) (fun i e => e)) (own_ne OW.out SF.out (by decide))) (fun _ => ?_))
      clear hK K
      have fr0 := Fr.of_grew' g (F := fun i => V1.ownBlock = some i) (fun i e => e)
      have nG := Lib.hid (grew_fr G.out fr0 (fun i e => OB.out i e))
      have nSF := Lib.hid (SF.out.fr fr0 (own_ne OW.out SF.out (by decide)))
      have nZV := Lib.hid (ZV.out.fr fr0 (own_ne OW.out ZV.out (by decide)))
      have nBY := Lib.hid (BY.out.fr fr0 (fun i hi e => ON.out i e hi))
      have nQ1 := Lib.hid (show W6.heap.size ≤ q1 ∧ q1 < _ from ⟨Q1.out.1, Nat.lt_of_lt_of_le Q1.out.2 fr0.size⟩)
      clear fr0
      have nOB := Lib.hid (show ∀ b, V2.ownBlock = some b → W6.heap.size ≤ b from fun b hb => by
       rcases hor with e | e
       ·
        rw [e] at hb; exact OB.out b hb
       ·
        rw [e] at hb; cases hb; exact G.out.size)
      have nON := Lib.hid (show ∀ b, V2.ownBlock = some b → b ≠ q1 from fun b hb => by
       rcases hor with e | e
       ·
        rw [e] at hb; exact ON.out b hb
       ·
        rw [e] at hb; cases hb; have := Q1.out.2; omega)
      have nOW := Lib.hid hz
      clear G
      clear SF
      clear ZV
      clear OW
      clear BY
      clear Q1
      clear OB
      clear ON
      have G := nG
      have SF := nSF
      have ZV := nZV
      have OW := nOW
      have BY := nBY
      have Q1 := nQ1
      have OB := nOB
      have ON := nON
      clear nG nSF nZV nOW nBY nQ1 nOB nON
      clear hz g hor
      refine act_letter (fun T216 hT216 => ?_)
      replace d69 := (ev_at hT216 (by decide)).trans d69
      replace d12 := (ev_at hT216 (by decide)).trans d12
      clear d74 d72
      have d75 := ev_put hT216 (by omega)
      have szT216 := (sz_at hT216).trans szT214
      have HT216 := Lib.hid (show T214.put (some 75) (V2) = T216 from hT216)
      clear hT216 szT214
      refine wpAnyH_ready (rs := [7]) (by kernel_rfl) (by simp) ?_
      refine (AllReadyH.cons rfl (fun K hK => ?_) AllReadyH.nil)
      have OW2 := OW.out
      rw [HMS.out] at OW2
      obtain ⟨A3, c3, hV2, hl3, hb3⟩ := byt_of_own OW2
      have e75 := d75.trans hV2
      have e69 := d69.trans (val_eq f)
      refine wp_callG rfl rfl enter_readF (vs := #[.agg #[.int .i64 f.k, .int .i64 f.s, .int .i64 f.l, .int .i64 f.h, .int .i64 f.t, .slice f.A f.ps.length f.c], .slice A3 ms.length c3, .int .i64 0]) (by simp only [List.map_toArray, List.map_cons, List.map_nil, e69, e75]; rfl) ((CP9.out _ G.out A3 c3 hl3 hb3).mono ?_)
      rintro e x216 ⟨v, rfl, hv, hnf, g, hhi⟩
      have VO := Lib.hid (hhi.offn (F := fun i => i = z) (fun i e => by subst e; exact ZV.out.lt))
      refine ⟨_, rfl, hK.out _ _ (SF.out.grew g (by simp)) (fun _ => ?_)⟩
      clear hK K
      have fr0 := fr_of g (F := fun _ => False)
      have nG := Lib.hid (grew_trans G.out g)
      have nSF := Lib.hid (SF.out.grew g (by simp))
      have nZV := Lib.hid (ZV.out.grew g (by simp))
      clear fr0
      clear G
      clear SF
      clear ZV
      have G := nG
      have SF := nSF
      have ZV := nZV
      clear nG nSF nZV
      have CV := Lib.hid (show v.In x216 ∧ v.nf = R2.v from ⟨hv, hnf⟩)
      clear hv hnf g hhi
      clear hV2 hl3 hb3 e75 e69 OW2
      refine act_letter (fun T218 hT218 => ?_)
      replace d12 := (ev_at hT218 (by decide)).trans d12
      clear d69 d75
      have d76 := ev_put hT218 (by omega)
      have szT218 := (sz_at hT218).trans szT216
      have HT218 := Lib.hid (show T216.put (some 76) (.tuple #[v.val, .int .i64 (R2.n : Int), .int .i64 R2.e]) = T218 from hT218)
      clear hT218 szT216
      refine wpAnyH_take (i := 8) (v := .tuple #[v.val, .int .i64 (R2.n : Int), .int .i64 R2.e]) rfl (by kernel_rfl) (by kernel_rfl) (by kernel_rfl) (fun _ _ _ h => h) (.inl ⟨rfl, fun w g => run_moveV rfl d76 w⟩) SF.out ?_
      refine act_letter (fun T219 hT219 => ?_)
      replace d12 := (ev_at hT219 (by decide)).trans d12
      clear d76
      have d68 := ev_put hT219 (by omega)
      have szT219 := (sz_at hT219).trans szT218
      have HT219 := Lib.hid (show T218.put (some 68) (.tuple #[v.val, .int .i64 (R2.n : Int), .int .i64 R2.e]) = T219 from hT219)
      clear hT219 szT218
      refine wpAnyH_take (i := 9) (v := v.val) rfl (by kernel_rfl) (by kernel_rfl) (by kernel_rfl) (fun _ _ _ h => h) (.inl ⟨rfl, fun w g => run_ext30 rfl d68 w⟩) SF.out ?_
      refine act_letter (fun T220 hT220 => ?_)
      replace d12 := (ev_at hT220 (by decide)).trans d12
      replace d68 := (ev_at hT220 (by decide)).trans d68
      have d77 := ev_put hT220 (by omega)
      have szT220 := (sz_at hT220).trans szT219
      have HT220 := Lib.hid (show T219.put (some 77) (v.val) = T220 from hT220)
      clear hT220 szT219
      refine wpAnyH_take (i := 10) (v := .int .i64 (R2.n : Int)) rfl (by kernel_rfl) (by kernel_rfl) (by kernel_rfl) (fun _ _ _ h => h) (.inl ⟨rfl, fun w g => run_ext31 rfl d68 w⟩) SF.out ?_
      refine act_letter (fun T221 hT221 => ?_)
      replace d12 := (ev_at hT221 (by decide)).trans d12
      replace d68 := (ev_at hT221 (by decide)).trans d68
      replace d77 := (ev_at hT221 (by decide)).trans d77
      have d78 := ev_put hT221 (by omega)
      have szT221 := (sz_at hT221).trans szT220
      have HT221 := Lib.hid (show T220.put (some 78) (.int .i64 (R2.n : Int)) = T221 from hT221)
      clear hT221 szT220
      refine wpAnyH_take (i := 11) (v := .int .i64 R2.e) rfl (by kernel_rfl) (by kernel_rfl) (by kernel_rfl) (fun _ _ _ h => h) (.inl ⟨rfl, fun w g => run_ext32 rfl d68 w⟩) SF.out ?_
      refine act_letter (fun T222 hT222 => ?_)
      replace d12 := (ev_at hT222 (by decide)).trans d12
      replace d68 := (ev_at hT222 (by decide)).trans d68
      replace d77 := (ev_at hT222 (by decide)).trans d77
      replace d78 := (ev_at hT222 (by decide)).trans d78
      have d79 := ev_put hT222 (by omega)
      have szT222 := (sz_at hT222).trans szT221
      have HT222 := Lib.hid (show T221.put (some 79) (.int .i64 R2.e) = T222 from hT222)
      clear hT222 szT221
      refine wpAnyH_ready (rs := [13]) (by kernel_rfl) (by simp) ?_
      refine AllReadyH.cons rfl (fun K hK => ?_) AllReadyH.nil
      have nSF := Lib.hid (show Whole (putV x216 z v) q f.cells 24 from SF.out.fr (fr_put3 _ _ _ _ _) (fun e => Whole.ne SF.out ZV.out (by decide) e))
      have nCV := Lib.hid (show v.In (putV x216 z v) ∧ v.nf = R2.v from ⟨In.fr2 CV.out.1 (fr_put3 _ _ _ _ _) VO.out, CV.out.2⟩)
      have nG := Lib.hid (show Grew W6 (putV x216 z v) none from grew_put3 G.out ZL.out _ _ _)
      have nZV := Lib.hid (show Whole (putV x216 z v) z v.cells 35 from ZV.out.put3 _ _ _)
      refine wp_skipG rfl (w' := putV x216 z v) (run_storeVa rfl d12 d77 ZV.out) (hK.out _ _ nSF.out (fun _ => ?_))
      clear hK K
      clear SF
      clear CV
      clear G
      clear ZV
      have SF := nSF
      have CV := nCV
      have G := nG
      have ZV := nZV
      clear nSF nCV nG nZV
      refine act_letter (fun T223 hT223 => ?_)
      replace d12 : T223.eval (.tmp 12) = .pointer (some ⟨z, 0, none⟩) := by rw [← hT223]; exact d12
      replace d68 : T223.eval (.tmp 68) = .tuple #[v.val, .int .i64 (R2.n : Int), .int .i64 R2.e] := by rw [← hT223]; exact d68
      replace d77 : T223.eval (.tmp 77) = v.val := by rw [← hT223]; exact d77
      replace d78 : T223.eval (.tmp 78) = .int .i64 (R2.n : Int) := by rw [← hT223]; exact d78
      replace d79 : T223.eval (.tmp 79) = .int .i64 R2.e := by rw [← hT223]; exact d79
      have szT223 : T223.tmps.size = 109 := by rw [← hT223]; exact szT222
      have HT223 := Lib.hid (show T222 = T223 from hT223)
      clear hT223 szT222
      refine wpAnyH_take (i := 14) (v := .int .i64 (R2.n : Int)) rfl (by kernel_rfl) (by kernel_rfl) (by kernel_rfl) (fun _ _ _ h => h) (.inl ⟨rfl, fun w g => run_assign rfl d78 w⟩) SF.out ?_
      refine act_letter (fun T224 hT224 => ?_)
      replace d78 := (ev_at hT224 (by decide)).trans d78
      replace d79 := (ev_at hT224 (by decide)).trans d79
      clear d12 d68 d77
      have d13 := ev_put hT224 (by omega)
      have szT224 := (sz_at hT224).trans szT223
      have HT224 := Lib.hid (show T223.put (some 13) (.int .i64 (R2.n : Int)) = T224 from hT224)
      clear hT224 szT223
      refine wpAnyH_take (i := 15) (v := .int .i64 R2.e) rfl (by kernel_rfl) (by kernel_rfl) (by kernel_rfl) (fun _ _ _ h => h) (.inl ⟨rfl, fun w g => run_assign rfl d79 w⟩) SF.out ?_
      refine act_letter (fun T225 hT225 => ?_)
      replace d78 := (ev_at hT225 (by decide)).trans d78
      replace d79 := (ev_at hT225 (by decide)).trans d79
      replace d13 := (ev_at hT225 (by decide)).trans d13
      have d14 := ev_put hT225 (by omega)
      have szT225 := (sz_at hT225).trans szT224
      have HT225 := Lib.hid (show T224.put (some 14) (.int .i64 R2.e) = T225 from hT225)
      clear hT225 szT224
      refine wpAnyH_done (by kernel_rfl) ?_ _
      refine ⟨v, z, V0, V1, .slice (some ⟨q1, 0, none⟩) 1 1, V2, ?_, CV.out.1, CV.out.2, ZV.out, G.out⟩
      rw [← HT225.out, ← HT224.out, ← HT223.out, ← HT222.out, ← HT221.out, ← HT220.out, ← HT219.out, ← HT218.out, ← HT216.out, ← HT214.out, ← HT212.out, ← HT210.out, ← HT152.out, ← HT4.out, ← HT3.out, ← HT2.out, ← HT1.out]
      try simp only [Act.put, List.setIfInBounds_toArray, List.set_cons_zero, List.set_cons_succ]
    ·
     skip
     refine wp_newVq rfl rfl (fun z x225 hz g hzl => hK.out _ _ (SF.out.grew g (by simp)) (fun _ => ?_))
     clear hK K
     have fr0 := fr_of g (F := fun _ => False)
     have nG := Lib.hid (grew_trans G.out g)
     have nSF := Lib.hid (SF.out.grew g (by simp))
     clear fr0
     have ZL := Lib.hid (show W6.heap.size ≤ z from Nat.le_trans G.out.size hzl)
     clear G
     clear SF
     have G := nG
     have SF := nSF
     clear nG nSF
     have ZV := Lib.hid hz
     clear hz g hzl
     refine act_letter (fun T227 hT227 => ?_)
     replace d69 := (ev_at hT227 (by decide)).trans d69
     replace d71 := (ev_at hT227 (by decide)).trans d71
     replace d73 := (ev_at hT227 (by decide)).trans d73
     clear d1 d2 d3
     have d12 := ev_put hT227 (by omega)
     have szT227 := (sz_at hT227).trans szT4
     have HT227 := Lib.hid (show T4.put (some 12) (.pointer (some ⟨z, 0, none⟩)) = T227 from hT227)
     clear hT227 szT4
     refine wpAnyH_ready (rs := [1, 5]) (by kernel_rfl) (by simp) ?_
     refine (AllReadyH.cons rfl (fun K hK => ?_) (AllReadyH.cons rfl (fun K hK => ?_) AllReadyH.nil))
     ·
      skip
      refine wp_new0 rfl rfl (fun V0 x227 hz g hzl => hK.out _ _ (SF.out.grew g (by simp)) (fun _ => ?_))
      clear hK K
      have fr0 := fr_of g (F := fun _ => False)
      have nG := Lib.hid (grew_trans G.out g)
      have nSF := Lib.hid (SF.out.grew g (by simp))
      have nZV := Lib.hid (ZV.out.grew g (by simp))
      clear fr0
      have OB := Lib.hid (show ∀ b, V0.ownBlock = some b → W6.heap.size ≤ b from fun b hb => Nat.le_trans G.out.size (hzl b hb))
      clear G
      clear SF
      clear ZV
      have G := nG
      have SF := nSF
      have ZV := nZV
      clear nG nSF nZV
      have OW := Lib.hid hz
      clear hz g hzl
      refine act_letter (fun T229 hT229 => ?_)
      replace d69 := (ev_at hT229 (by decide)).trans d69
      replace d71 := (ev_at hT229 (by decide)).trans d71
      replace d73 := (ev_at hT229 (by decide)).trans d73
      replace d12 := (ev_at hT229 (by decide)).trans d12
      have d70 := ev_put hT229 (by omega)
      have szT229 := (sz_at hT229).trans szT227
      have HT229 := Lib.hid (show T227.put (some 70) (V0) = T229 from hT229)
      clear hT229 szT227
      refine wpAnyH_ready (rs := [3, 5]) (by kernel_rfl) (by simp) ?_
      refine (AllReadyH.cons rfl (fun K hK => ?_) (AllReadyH.cons rfl (fun K hK => ?_) AllReadyH.nil))
      ·
       skip
       refine wp_appB rfl rfl OW.out d70 ((HBX.out.grew G.out (fun _ h => by cases h)).byf) c d71 (by have := HX.out; omega) (fun V1 x229 hz g hor => hK.out _ _ (SF.out.fr (Fr.of_grew' g (F := fun i => V0.ownBlock = some i) (fun i e => e)) (own_ne OW.out SF.out (by decide))) (fun _ => ?_))
       clear hK K
       have fr0 := Fr.of_grew' g (F := fun i => V0.ownBlock = some i) (fun i e => e)
       have nG := Lib.hid (grew_fr G.out fr0 (fun i e => OB.out i e))
       have nSF := Lib.hid (SF.out.fr fr0 (own_ne OW.out SF.out (by decide)))
       have nZV := Lib.hid (ZV.out.fr fr0 (own_ne OW.out ZV.out (by decide)))
       clear fr0
       have nOB := Lib.hid (show ∀ b, V1.ownBlock = some b → W6.heap.size ≤ b from fun b hb => by
        rcases hor with e | e
        ·
         rw [e] at hb; exact OB.out b hb
        ·
         rw [e] at hb; cases hb; exact G.out.size)
       have nOW := Lib.hid hz
       clear G
       clear SF
       clear ZV
       clear OW
       clear OB
       have G := nG
       have SF := nSF
       have ZV := nZV
       have OW := nOW
       have OB := nOB
       clear nG nSF nZV nOW nOB
       clear hz g hor
       refine act_letter (fun T231 hT231 => ?_)
       replace d69 := (ev_at hT231 (by decide)).trans d69
       replace d73 := (ev_at hT231 (by decide)).trans d73
       replace d12 := (ev_at hT231 (by decide)).trans d12
       clear d71 d70
       have d72 := ev_put hT231 (by omega)
       have szT231 := (sz_at hT231).trans szT229
       have HT231 := Lib.hid (show T229.put (some 72) (V1) = T231 from hT231)
       clear hT231 szT229
       refine wpAnyH_ready (rs := [5]) (by kernel_rfl) (by simp) ?_
       refine (AllReadyH.cons rfl (fun K hK => ?_) AllReadyH.nil)
       refine wp_new1 rfl rfl cb d73 (fun q1 x231 hz g hzl hzs => hK.out _ _ (SF.out.grew g (by simp)) (fun _ => ?_))
       clear hK K
       have fr0 := fr_of g (F := fun _ => False)
       have nG := Lib.hid (grew_trans G.out g)
       have nSF := Lib.hid (SF.out.grew g (by simp))
       have nZV := Lib.hid (ZV.out.grew g (by simp))
       have nOW := Lib.hid (own_fr OW.out fr0 (fun _ _ h => h))
       clear fr0
       have Q1 := Lib.hid (show W6.heap.size ≤ q1 ∧ q1 < _ from ⟨Nat.le_trans G.out.size hzl, hzs⟩)
       have ON := Lib.hid (show ∀ b, V1.ownBlock = some b → b ≠ q1 from fun b hb e => by have := own_lt OW.out b hb; omega)
       clear G
       clear SF
       clear ZV
       clear OW
       have G := nG
       have SF := nSF
       have ZV := nZV
       have OW := nOW
       clear nG nSF nZV nOW
       have BY := Lib.hid hz
       clear hz g hzl hzs
       refine act_letter (fun T233 hT233 => ?_)
       replace d69 := (ev_at hT233 (by decide)).trans d69
       replace d12 := (ev_at hT233 (by decide)).trans d12
       replace d72 := (ev_at hT233 (by decide)).trans d72
       clear d73
       have d74 := ev_put hT233 (by omega)
       have szT233 := (sz_at hT233).trans szT231
       have HT233 := Lib.hid (show T231.put (some 74) (.slice (some ⟨q1, 0, none⟩) 1 1) = T233 from hT233)
       clear hT233 szT231
       refine wpAnyH_ready (rs := [6]) (by kernel_rfl) (by simp) ?_
       refine (AllReadyH.cons rfl (fun K hK => ?_) AllReadyH.nil)
       refine wp_appB rfl rfl OW.out d72 (BY.out) 1 d74 (by have := HX.out; simp; omega) (fun V2 x233 hz g hor => hK.out _ _ (SF.out.fr (Fr.of_grew' g (F := fun i => V1.ownBlock = some i) (fun i e => e)) (own_ne OW.out SF.out (by decide))) (fun _ => ?_))
       clear hK K
       have fr0 := Fr.of_grew' g (F := fun i => V1.ownBlock = some i) (fun i e => e)
       have nG := Lib.hid (grew_fr G.out fr0 (fun i e => OB.out i e))
       have nSF := Lib.hid (SF.out.fr fr0 (own_ne OW.out SF.out (by decide)))
       have nZV := Lib.hid (ZV.out.fr fr0 (own_ne OW.out ZV.out (by decide)))
       have nBY := Lib.hid (BY.out.fr fr0 (fun i hi e => ON.out i e hi))
       have nQ1 := Lib.hid (show W6.heap.size ≤ q1 ∧ q1 < _ from ⟨Q1.out.1, Nat.lt_of_lt_of_le Q1.out.2 fr0.size⟩)
       clear fr0
       have nOB := Lib.hid (show ∀ b, V2.ownBlock = some b → W6.heap.size ≤ b from fun b hb => by
        rcases hor with e | e
        ·
         rw [e] at hb; exact OB.out b hb
        ·
         rw [e] at hb; cases hb; exact G.out.size)
       have nON := Lib.hid (show ∀ b, V2.ownBlock = some b → b ≠ q1 from fun b hb => by
        rcases hor with e | e
        ·
         rw [e] at hb; exact ON.out b hb
        ·
         rw [e] at hb; cases hb; have := Q1.out.2; omega)
       have nOW := Lib.hid hz
       clear G
       clear SF
       clear ZV
       clear OW
       clear BY
       clear Q1
       clear OB
       clear ON
       have G := nG
       have SF := nSF
       have ZV := nZV
       have OW := nOW
       have BY := nBY
       have Q1 := nQ1
       have OB := nOB
       have ON := nON
       clear nG nSF nZV nOW nBY nQ1 nOB nON
       clear hz g hor
       refine act_letter (fun T235 hT235 => ?_)
       replace d69 := (ev_at hT235 (by decide)).trans d69
       replace d12 := (ev_at hT235 (by decide)).trans d12
       clear d72 d74
       have d75 := ev_put hT235 (by omega)
       have szT235 := (sz_at hT235).trans szT233
       have HT235 := Lib.hid (show T233.put (some 75) (V2) = T235 from hT235)
       clear hT235 szT233
       refine wpAnyH_ready (rs := [7]) (by kernel_rfl) (by simp) ?_
       refine (AllReadyH.cons rfl (fun K hK => ?_) AllReadyH.nil)
       have OW2 := OW.out
       rw [HMS.out] at OW2
       obtain ⟨A3, c3, hV2, hl3, hb3⟩ := byt_of_own OW2
       have e75 := d75.trans hV2
       have e69 := d69.trans (val_eq f)
       refine wp_callG rfl rfl enter_readF (vs := #[.agg #[.int .i64 f.k, .int .i64 f.s, .int .i64 f.l, .int .i64 f.h, .int .i64 f.t, .slice f.A f.ps.length f.c], .slice A3 ms.length c3, .int .i64 0]) (by simp only [List.map_toArray, List.map_cons, List.map_nil, e69, e75]; rfl) ((CP9.out _ G.out A3 c3 hl3 hb3).mono ?_)
       rintro e x235 ⟨v, rfl, hv, hnf, g, hhi⟩
       have VO := Lib.hid (hhi.offn (F := fun i => i = z) (fun i e => by subst e; exact ZV.out.lt))
       refine ⟨_, rfl, hK.out _ _ (SF.out.grew g (by simp)) (fun _ => ?_)⟩
       clear hK K
       have fr0 := fr_of g (F := fun _ => False)
       have nG := Lib.hid (grew_trans G.out g)
       have nSF := Lib.hid (SF.out.grew g (by simp))
       have nZV := Lib.hid (ZV.out.grew g (by simp))
       clear fr0
       clear G
       clear SF
       clear ZV
       have G := nG
       have SF := nSF
       have ZV := nZV
       clear nG nSF nZV
       have CV := Lib.hid (show v.In x235 ∧ v.nf = R2.v from ⟨hv, hnf⟩)
       clear hv hnf g hhi
       clear hV2 hl3 hb3 e75 e69 OW2
       refine act_letter (fun T237 hT237 => ?_)
       replace d12 := (ev_at hT237 (by decide)).trans d12
       clear d69 d75
       have d76 := ev_put hT237 (by omega)
       have szT237 := (sz_at hT237).trans szT235
       have HT237 := Lib.hid (show T235.put (some 76) (.tuple #[v.val, .int .i64 (R2.n : Int), .int .i64 R2.e]) = T237 from hT237)
       clear hT237 szT235
       refine wpAnyH_take (i := 8) (v := .tuple #[v.val, .int .i64 (R2.n : Int), .int .i64 R2.e]) rfl (by kernel_rfl) (by kernel_rfl) (by kernel_rfl) (fun _ _ _ h => h) (.inl ⟨rfl, fun w g => run_moveV rfl d76 w⟩) SF.out ?_
       refine act_letter (fun T238 hT238 => ?_)
       replace d12 := (ev_at hT238 (by decide)).trans d12
       clear d76
       have d68 := ev_put hT238 (by omega)
       have szT238 := (sz_at hT238).trans szT237
       have HT238 := Lib.hid (show T237.put (some 68) (.tuple #[v.val, .int .i64 (R2.n : Int), .int .i64 R2.e]) = T238 from hT238)
       clear hT238 szT237
       refine wpAnyH_take (i := 9) (v := v.val) rfl (by kernel_rfl) (by kernel_rfl) (by kernel_rfl) (fun _ _ _ h => h) (.inl ⟨rfl, fun w g => run_ext30 rfl d68 w⟩) SF.out ?_
       refine act_letter (fun T239 hT239 => ?_)
       replace d12 := (ev_at hT239 (by decide)).trans d12
       replace d68 := (ev_at hT239 (by decide)).trans d68
       have d77 := ev_put hT239 (by omega)
       have szT239 := (sz_at hT239).trans szT238
       have HT239 := Lib.hid (show T238.put (some 77) (v.val) = T239 from hT239)
       clear hT239 szT238
       refine wpAnyH_take (i := 10) (v := .int .i64 (R2.n : Int)) rfl (by kernel_rfl) (by kernel_rfl) (by kernel_rfl) (fun _ _ _ h => h) (.inl ⟨rfl, fun w g => run_ext31 rfl d68 w⟩) SF.out ?_
       refine act_letter (fun T240 hT240 => ?_)
       replace d12 := (ev_at hT240 (by decide)).trans d12
       replace d68 := (ev_at hT240 (by decide)).trans d68
       replace d77 := (ev_at hT240 (by decide)).trans d77
       have d78 := ev_put hT240 (by omega)
       have szT240 := (sz_at hT240).trans szT239
       have HT240 := Lib.hid (show T239.put (some 78) (.int .i64 (R2.n : Int)) = T240 from hT240)
       clear hT240 szT239
       refine wpAnyH_take (i := 11) (v := .int .i64 R2.e) rfl (by kernel_rfl) (by kernel_rfl) (by kernel_rfl) (fun _ _ _ h => h) (.inl ⟨rfl, fun w g => run_ext32 rfl d68 w⟩) SF.out ?_
       refine act_letter (fun T241 hT241 => ?_)
       replace d12 := (ev_at hT241 (by decide)).trans d12
       replace d68 := (ev_at hT241 (by decide)).trans d68
       replace d77 := (ev_at hT241 (by decide)).trans d77
       replace d78 := (ev_at hT241 (by decide)).trans d78
       have d79 := ev_put hT241 (by omega)
       have szT241 := (sz_at hT241).trans szT240
       have HT241 := Lib.hid (show T240.put (some 79) (.int .i64 R2.e) = T241 from hT241)
       clear hT241 szT240
       refine wpAnyH_ready (rs := [13]) (by kernel_rfl) (by simp) ?_
       refine AllReadyH.cons rfl (fun K hK => ?_) AllReadyH.nil
       have nSF := Lib.hid (show Whole (putV x235 z v) q f.cells 24 from SF.out.fr (fr_put3 _ _ _ _ _) (fun e => Whole.ne SF.out ZV.out (by decide) e))
       have nCV := Lib.hid (show v.In (putV x235 z v) ∧ v.nf = R2.v from ⟨In.fr2 CV.out.1 (fr_put3 _ _ _ _ _) VO.out, CV.out.2⟩)
       have nG := Lib.hid (show Grew W6 (putV x235 z v) none from grew_put3 G.out ZL.out _ _ _)
       have nZV := Lib.hid (show Whole (putV x235 z v) z v.cells 35 from ZV.out.put3 _ _ _)
       refine wp_skipG rfl (w' := putV x235 z v) (run_storeVa rfl d12 d77 ZV.out) (hK.out _ _ nSF.out (fun _ => ?_))
       clear hK K
       clear SF
       clear CV
       clear G
       clear ZV
       have SF := nSF
       have CV := nCV
       have G := nG
       have ZV := nZV
       clear nSF nCV nG nZV
       refine act_letter (fun T242 hT242 => ?_)
       replace d12 : T242.eval (.tmp 12) = .pointer (some ⟨z, 0, none⟩) := by rw [← hT242]; exact d12
       replace d68 : T242.eval (.tmp 68) = .tuple #[v.val, .int .i64 (R2.n : Int), .int .i64 R2.e] := by rw [← hT242]; exact d68
       replace d77 : T242.eval (.tmp 77) = v.val := by rw [← hT242]; exact d77
       replace d78 : T242.eval (.tmp 78) = .int .i64 (R2.n : Int) := by rw [← hT242]; exact d78
       replace d79 : T242.eval (.tmp 79) = .int .i64 R2.e := by rw [← hT242]; exact d79
       have szT242 : T242.tmps.size = 109 := by rw [← hT242]; exact szT241
       have HT242 := Lib.hid (show T241 = T242 from hT242)
       clear hT242 szT241
       refine wpAnyH_take (i := 14) (v := .int .i64 (R2.n : Int)) rfl (by kernel_rfl) (by kernel_rfl) (by kernel_rfl) (fun _ _ _ h => h) (.inl ⟨rfl, fun w g => run_assign rfl d78 w⟩) SF.out ?_
       refine act_letter (fun T243 hT243 => ?_)
       replace d78 := (ev_at hT243 (by decide)).trans d78
       replace d79 := (ev_at hT243 (by decide)).trans d79
       clear d12 d68 d77
       have d13 := ev_put hT243 (by omega)
       have szT243 := (sz_at hT243).trans szT242
       have HT243 := Lib.hid (show T242.put (some 13) (.int .i64 (R2.n : Int)) = T243 from hT243)
       clear hT243 szT242
       refine wpAnyH_take (i := 15) (v := .int .i64 R2.e) rfl (by kernel_rfl) (by kernel_rfl) (by kernel_rfl) (fun _ _ _ h => h) (.inl ⟨rfl, fun w g => run_assign rfl d79 w⟩) SF.out ?_
       refine act_letter (fun T244 hT244 => ?_)
       replace d78 := (ev_at hT244 (by decide)).trans d78
       replace d79 := (ev_at hT244 (by decide)).trans d79
       replace d13 := (ev_at hT244 (by decide)).trans d13
       have d14 := ev_put hT244 (by omega)
       have szT244 := (sz_at hT244).trans szT243
       have HT244 := Lib.hid (show T243.put (some 14) (.int .i64 R2.e) = T244 from hT244)
       clear hT244 szT243
       refine wpAnyH_done (by kernel_rfl) ?_ _
       refine ⟨v, z, V0, V1, .slice (some ⟨q1, 0, none⟩) 1 1, V2, ?_, CV.out.1, CV.out.2, ZV.out, G.out⟩
       rw [← HT244.out, ← HT243.out, ← HT242.out, ← HT241.out, ← HT240.out, ← HT239.out, ← HT238.out, ← HT237.out, ← HT235.out, ← HT233.out, ← HT231.out, ← HT229.out, ← HT227.out, ← HT4.out, ← HT3.out, ← HT2.out, ← HT1.out]
       try simp only [Act.put, List.setIfInBounds_toArray, List.set_cons_zero, List.set_cons_succ]
      ·
       skip
       refine wp_new1 rfl rfl cb d73 (fun q1 x244 hz g hzl hzs => hK.out _ _ (SF.out.grew g (by simp)) (fun _ => ?_))
       clear hK K
       have fr0 := fr_of g (F := fun _ => False)
       have nG := Lib.hid (grew_trans G.out g)
       have nSF := Lib.hid (SF.out.grew g (by simp))
       have nZV := Lib.hid (ZV.out.grew g (by simp))
       have nOW := Lib.hid (own_fr OW.out fr0 (fun _ _ h => h))
       clear fr0
       have Q1 := Lib.hid (show W6.heap.size ≤ q1 ∧ q1 < _ from ⟨Nat.le_trans G.out.size hzl, hzs⟩)
       have ON := Lib.hid (show ∀ b, V0.ownBlock = some b → b ≠ q1 from fun b hb e => by have := own_lt OW.out b hb; omega)
       clear G
       clear SF
       clear ZV
       clear OW
       have G := nG
       have SF := nSF
       have ZV := nZV
       have OW := nOW
       clear nG nSF nZV nOW
       have BY := Lib.hid hz
       clear hz g hzl hzs
       refine act_letter (fun T246 hT246 => ?_)
       replace d69 := (ev_at hT246 (by decide)).trans d69
       replace d71 := (ev_at hT246 (by decide)).trans d71
       replace d12 := (ev_at hT246 (by decide)).trans d12
       replace d70 := (ev_at hT246 (by decide)).trans d70
       clear d73
       have d74 := ev_put hT246 (by omega)
       have szT246 := (sz_at hT246).trans szT229
       have HT246 := Lib.hid (show T229.put (some 74) (.slice (some ⟨q1, 0, none⟩) 1 1) = T246 from hT246)
       clear hT246 szT229
       refine wpAnyH_ready (rs := [3]) (by kernel_rfl) (by simp) ?_
       refine (AllReadyH.cons rfl (fun K hK => ?_) AllReadyH.nil)
       refine wp_appB rfl rfl OW.out d70 ((HBX.out.grew G.out (fun _ h => by cases h)).byf) c d71 (by have := HX.out; omega) (fun V1 x246 hz g hor => hK.out _ _ (SF.out.fr (Fr.of_grew' g (F := fun i => V0.ownBlock = some i) (fun i e => e)) (own_ne OW.out SF.out (by decide))) (fun _ => ?_))
       clear hK K
       have fr0 := Fr.of_grew' g (F := fun i => V0.ownBlock = some i) (fun i e => e)
       have nG := Lib.hid (grew_fr G.out fr0 (fun i e => OB.out i e))
       have nSF := Lib.hid (SF.out.fr fr0 (own_ne OW.out SF.out (by decide)))
       have nZV := Lib.hid (ZV.out.fr fr0 (own_ne OW.out ZV.out (by decide)))
       have nBY := Lib.hid (BY.out.fr fr0 (fun i hi e => ON.out i e hi))
       have nQ1 := Lib.hid (show W6.heap.size ≤ q1 ∧ q1 < _ from ⟨Q1.out.1, Nat.lt_of_lt_of_le Q1.out.2 fr0.size⟩)
       clear fr0
       have nOB := Lib.hid (show ∀ b, V1.ownBlock = some b → W6.heap.size ≤ b from fun b hb => by
        rcases hor with e | e
        ·
         rw [e] at hb; exact OB.out b hb
        ·
         rw [e] at hb; cases hb; exact G.out.size)
       have nON := Lib.hid (show ∀ b, V1.ownBlock = some b → b ≠ q1 from fun b hb => by
        rcases hor with e | e
        ·
         rw [e] at hb; exact ON.out b hb
        ·
         rw [e] at hb; cases hb; have := Q1.out.2; omega)
       have nOW := Lib.hid hz
       clear G
       clear SF
       clear ZV
       clear OW
       clear BY
       clear Q1
       clear OB
       clear ON
       have G := nG
       have SF := nSF
       have ZV := nZV
       have OW := nOW
       have BY := nBY
       have Q1 := nQ1
       have OB := nOB
       have ON := nON
       clear nG nSF nZV nOW nBY nQ1 nOB nON
       clear hz g hor
       refine act_letter (fun T248 hT248 => ?_)
       replace d69 := (ev_at hT248 (by decide)).trans d69
       replace d12 := (ev_at hT248 (by decide)).trans d12
       replace d74 := (ev_at hT248 (by decide)).trans d74
       clear d71 d70
       have d72 := ev_put hT248 (by omega)
       have szT248 := (sz_at hT248).trans szT246
       have HT248 := Lib.hid (show T246.put (some 72) (V1) = T248 from hT248)
       clear hT248 szT246
       refine wpAnyH_ready (rs := [6]) (by kernel_rfl) (by simp) ?_
       refine (AllReadyH.cons rfl (fun K hK => ?_) AllReadyH.nil)
       refine wp_appB rfl rfl OW.out d72 (BY.out) 1 d74 (by have := HX.out; simp; omega) (fun V2 x248 hz g hor => hK.out _ _ (SF.out.fr (Fr.of_grew' g (F := fun i => V1.ownBlock = some i) (fun i e => e)) (own_ne OW.out SF.out (by decide))) (fun _ => ?_))
       clear hK K
       have fr0 := Fr.of_grew' g (F := fun i => V1.ownBlock = some i) (fun i e => e)
       have nG := Lib.hid (grew_fr G.out fr0 (fun i e => OB.out i e))
       have nSF := Lib.hid (SF.out.fr fr0 (own_ne OW.out SF.out (by decide)))
       have nZV := Lib.hid (ZV.out.fr fr0 (own_ne OW.out ZV.out (by decide)))
       have nBY := Lib.hid (BY.out.fr fr0 (fun i hi e => ON.out i e hi))
       have nQ1 := Lib.hid (show W6.heap.size ≤ q1 ∧ q1 < _ from ⟨Q1.out.1, Nat.lt_of_lt_of_le Q1.out.2 fr0.size⟩)
       clear fr0
       have nOB := Lib.hid (show ∀ b, V2.ownBlock = some b → W6.heap.size ≤ b from fun b hb => by
        rcases hor with e | e
        ·
         rw [e] at hb; exact OB.out b hb
        ·
         rw [e] at hb; cases hb; exact G.out.size)
       have nON := Lib.hid (show ∀ b, V2.ownBlock = some b → b ≠ q1 from fun b hb => by
        rcases hor with e | e
        ·
         rw [e] at hb; exact ON.out b hb
        ·
         rw [e] at hb; cases hb; have := Q1.out.2; omega)
       have nOW := Lib.hid hz
       clear G
       clear SF
       clear ZV
       clear OW
       clear BY
       clear Q1
       clear OB
       clear ON
       have G := nG
       have SF := nSF
       have ZV := nZV
       have OW := nOW
       have BY := nBY
       have Q1 := nQ1
       have OB := nOB
       have ON := nON
       clear nG nSF nZV nOW nBY nQ1 nOB nON
       clear hz g hor
       refine act_letter (fun T250 hT250 => ?_)
       replace d69 := (ev_at hT250 (by decide)).trans d69
       replace d12 := (ev_at hT250 (by decide)).trans d12
       clear d74 d72
       have d75 := ev_put hT250 (by omega)
       have szT250 := (sz_at hT250).trans szT248
       have HT250 := Lib.hid (show T248.put (some 75) (V2) = T250 from hT250)
       clear hT250 szT248
       refine wpAnyH_ready (rs := [7]) (by kernel_rfl) (by simp) ?_
       refine (AllReadyH.cons rfl (fun K hK => ?_) AllReadyH.nil)
       have OW2 := OW.out
       rw [HMS.out] at OW2
       obtain ⟨A3, c3, hV2, hl3, hb3⟩ := byt_of_own OW2
       have e75 := d75.trans hV2
       have e69 := d69.trans (val_eq f)
       refine wp_callG rfl rfl enter_readF (vs := #[.agg #[.int .i64 f.k, .int .i64 f.s, .int .i64 f.l, .int .i64 f.h, .int .i64 f.t, .slice f.A f.ps.length f.c], .slice A3 ms.length c3, .int .i64 0]) (by simp only [List.map_toArray, List.map_cons, List.map_nil, e69, e75]; rfl) ((CP9.out _ G.out A3 c3 hl3 hb3).mono ?_)
       rintro e x250 ⟨v, rfl, hv, hnf, g, hhi⟩
       have VO := Lib.hid (hhi.offn (F := fun i => i = z) (fun i e => by subst e; exact ZV.out.lt))
       refine ⟨_, rfl, hK.out _ _ (SF.out.grew g (by simp)) (fun _ => ?_)⟩
       clear hK K
       have fr0 := fr_of g (F := fun _ => False)
       have nG := Lib.hid (grew_trans G.out g)
       have nSF := Lib.hid (SF.out.grew g (by simp))
       have nZV := Lib.hid (ZV.out.grew g (by simp))
       clear fr0
       clear G
       clear SF
       clear ZV
       have G := nG
       have SF := nSF
       have ZV := nZV
       clear nG nSF nZV
       have CV := Lib.hid (show v.In x250 ∧ v.nf = R2.v from ⟨hv, hnf⟩)
       clear hv hnf g hhi
       clear hV2 hl3 hb3 e75 e69 OW2
       refine act_letter (fun T252 hT252 => ?_)
       replace d12 := (ev_at hT252 (by decide)).trans d12
       clear d69 d75
       have d76 := ev_put hT252 (by omega)
       have szT252 := (sz_at hT252).trans szT250
       have HT252 := Lib.hid (show T250.put (some 76) (.tuple #[v.val, .int .i64 (R2.n : Int), .int .i64 R2.e]) = T252 from hT252)
       clear hT252 szT250
       refine wpAnyH_take (i := 8) (v := .tuple #[v.val, .int .i64 (R2.n : Int), .int .i64 R2.e]) rfl (by kernel_rfl) (by kernel_rfl) (by kernel_rfl) (fun _ _ _ h => h) (.inl ⟨rfl, fun w g => run_moveV rfl d76 w⟩) SF.out ?_
       refine act_letter (fun T253 hT253 => ?_)
       replace d12 := (ev_at hT253 (by decide)).trans d12
       clear d76
       have d68 := ev_put hT253 (by omega)
       have szT253 := (sz_at hT253).trans szT252
       have HT253 := Lib.hid (show T252.put (some 68) (.tuple #[v.val, .int .i64 (R2.n : Int), .int .i64 R2.e]) = T253 from hT253)
       clear hT253 szT252
       refine wpAnyH_take (i := 9) (v := v.val) rfl (by kernel_rfl) (by kernel_rfl) (by kernel_rfl) (fun _ _ _ h => h) (.inl ⟨rfl, fun w g => run_ext30 rfl d68 w⟩) SF.out ?_
       refine act_letter (fun T254 hT254 => ?_)
       replace d12 := (ev_at hT254 (by decide)).trans d12
       replace d68 := (ev_at hT254 (by decide)).trans d68
       have d77 := ev_put hT254 (by omega)
       have szT254 := (sz_at hT254).trans szT253
       have HT254 := Lib.hid (show T253.put (some 77) (v.val) = T254 from hT254)
       clear hT254 szT253
       refine wpAnyH_take (i := 10) (v := .int .i64 (R2.n : Int)) rfl (by kernel_rfl) (by kernel_rfl) (by kernel_rfl) (fun _ _ _ h => h) (.inl ⟨rfl, fun w g => run_ext31 rfl d68 w⟩) SF.out ?_
       refine act_letter (fun T255 hT255 => ?_)
       replace d12 := (ev_at hT255 (by decide)).trans d12
       replace d68 := (ev_at hT255 (by decide)).trans d68
       replace d77 := (ev_at hT255 (by decide)).trans d77
       have d78 := ev_put hT255 (by omega)
       have szT255 := (sz_at hT255).trans szT254
       have HT255 := Lib.hid (show T254.put (some 78) (.int .i64 (R2.n : Int)) = T255 from hT255)
       clear hT255 szT254
       refine wpAnyH_take (i := 11) (v := .int .i64 R2.e) rfl (by kernel_rfl) (by kernel_rfl) (by kernel_rfl) (fun _ _ _ h => h) (.inl ⟨rfl, fun w g => run_ext32 rfl d68 w⟩) SF.out ?_
       refine act_letter (fun T256 hT256 => ?_)
       replace d12 := (ev_at hT256 (by decide)).trans d12
       replace d68 := (ev_at hT256 (by decide)).trans d68
       replace d77 := (ev_at hT256 (by decide)).trans d77
       replace d78 := (ev_at hT256 (by decide)).trans d78
       have d79 := ev_put hT256 (by omega)
       have szT256 := (sz_at hT256).trans szT255
       have HT256 := Lib.hid (show T255.put (some 79) (.int .i64 R2.e) = T256 from hT256)
       clear hT256 szT255
       refine wpAnyH_ready (rs := [13]) (by kernel_rfl) (by simp) ?_
       refine AllReadyH.cons rfl (fun K hK => ?_) AllReadyH.nil
       have nSF := Lib.hid (show Whole (putV x250 z v) q f.cells 24 from SF.out.fr (fr_put3 _ _ _ _ _) (fun e => Whole.ne SF.out ZV.out (by decide) e))
       have nCV := Lib.hid (show v.In (putV x250 z v) ∧ v.nf = R2.v from ⟨In.fr2 CV.out.1 (fr_put3 _ _ _ _ _) VO.out, CV.out.2⟩)
       have nG := Lib.hid (show Grew W6 (putV x250 z v) none from grew_put3 G.out ZL.out _ _ _)
       have nZV := Lib.hid (show Whole (putV x250 z v) z v.cells 35 from ZV.out.put3 _ _ _)
       refine wp_skipG rfl (w' := putV x250 z v) (run_storeVa rfl d12 d77 ZV.out) (hK.out _ _ nSF.out (fun _ => ?_))
       clear hK K
       clear SF
       clear CV
       clear G
       clear ZV
       have SF := nSF
       have CV := nCV
       have G := nG
       have ZV := nZV
       clear nSF nCV nG nZV
       refine act_letter (fun T257 hT257 => ?_)
       replace d12 : T257.eval (.tmp 12) = .pointer (some ⟨z, 0, none⟩) := by rw [← hT257]; exact d12
       replace d68 : T257.eval (.tmp 68) = .tuple #[v.val, .int .i64 (R2.n : Int), .int .i64 R2.e] := by rw [← hT257]; exact d68
       replace d77 : T257.eval (.tmp 77) = v.val := by rw [← hT257]; exact d77
       replace d78 : T257.eval (.tmp 78) = .int .i64 (R2.n : Int) := by rw [← hT257]; exact d78
       replace d79 : T257.eval (.tmp 79) = .int .i64 R2.e := by rw [← hT257]; exact d79
       have szT257 : T257.tmps.size = 109 := by rw [← hT257]; exact szT256
       have HT257 := Lib.hid (show T256 = T257 from hT257)
       clear hT257 szT256
       refine wpAnyH_take (i := 14) (v := .int .i64 (R2.n : Int)) rfl (by kernel_rfl) (by kernel_rfl) (by kernel_rfl) (fun _ _ _ h => h) (.inl ⟨rfl, fun w g => run_assign rfl d78 w⟩) SF.out ?_
       refine act_letter (fun T258 hT258 => ?_)
       replace d78 := (ev_at hT258 (by decide)).trans d78
       replace d79 := (ev_at hT258 (by decide)).trans d79
       clear d12 d68 d77
       have d13 := ev_put hT258 (by omega)
       have szT258 := (sz_at hT258).trans szT257
       have HT258 := Lib.hid (show T257.put (some 13) (.int .i64 (R2.n : Int)) = T258 from hT258)
       clear hT258 szT257
       refine wpAnyH_take (i := 15) (v := .int .i64 R2.e) rfl (by kernel_rfl) (by kernel_rfl) (by kernel_rfl) (fun _ _ _ h => h) (.inl ⟨rfl, fun w g => run_assign rfl d79 w⟩) SF.out ?_
       refine act_letter (fun T259 hT259 => ?_)
       replace d78 := (ev_at hT259 (by decide)).trans d78
       replace d79 := (ev_at hT259 (by decide)).trans d79
       replace d13 := (ev_at hT259 (by decide)).trans d13
       have d14 := ev_put hT259 (by omega)
       have szT259 := (sz_at hT259).trans szT258
       have HT259 := Lib.hid (show T258.put (some 14) (.int .i64 R2.e) = T259 from hT259)
       clear hT259 szT258
       refine wpAnyH_done (by kernel_rfl) ?_ _
       refine ⟨v, z, V0, V1, .slice (some ⟨q1, 0, none⟩) 1 1, V2, ?_, CV.out.1, CV.out.2, ZV.out, G.out⟩
       rw [← HT259.out, ← HT258.out, ← HT257.out, ← HT256.out, ← HT255.out, ← HT254.out, ← HT253.out, ← HT252.out, ← HT250.out, ← HT248.out, ← HT246.out, ← HT229.out, ← HT227.out, ← HT4.out, ← HT3.out, ← HT2.out, ← HT1.out]
       try simp only [Act.put, List.setIfInBounds_toArray, List.set_cons_zero, List.set_cons_succ]
     ·
      skip
      refine wp_new1 rfl rfl cb d73 (fun q1 x259 hz g hzl hzs => hK.out _ _ (SF.out.grew g (by simp)) (fun _ => ?_))
      clear hK K
      have fr0 := fr_of g (F := fun _ => False)
      have nG := Lib.hid (grew_trans G.out g)
      have nSF := Lib.hid (SF.out.grew g (by simp))
      have nZV := Lib.hid (ZV.out.grew g (by simp))
      clear fr0
      have Q1 := Lib.hid (show W6.heap.size ≤ q1 ∧ q1 < _ from ⟨Nat.le_trans G.out.size hzl, hzs⟩)
      clear G
      clear SF
      clear ZV
      have G := nG
      have SF := nSF
      have ZV := nZV
      clear nG nSF nZV
      have BY := Lib.hid hz
      clear hz g hzl hzs
      refine act_letter (fun T261 hT261 => ?_)
      replace d69 := (ev_at hT261 (by decide)).trans d69
      replace d71 := (ev_at hT261 (by decide)).trans d71
      replace d12 := (ev_at hT261 (by decide)).trans d12
      clear d73
      have d74 := ev_put hT261 (by omega)
      have szT261 := (sz_at hT261).trans szT227
      have HT261 := Lib.hid (show T227.put (some 74) (.slice (some ⟨q1, 0, none⟩) 1 1) = T261 from hT261)
      clear hT261 szT227
      refine wpAnyH_ready (rs := [1]) (by kernel_rfl) (by simp) ?_
      refine (AllReadyH.cons rfl (fun K hK => ?_) AllReadyH.nil)
      refine wp_new0 rfl rfl (fun V0 x261 hz g hzl => hK.out _ _ (SF.out.grew g (by simp)) (fun _ => ?_))
      clear hK K
      have fr0 := fr_of g (F := fun _ => False)
      have nG := Lib.hid (grew_trans G.out g)
      have nSF := Lib.hid (SF.out.grew g (by simp))
      have nZV := Lib.hid (ZV.out.grew g (by simp))
      have nBY := Lib.hid (BY.out.fr fr0 (fun _ _ h => h))
      have nQ1 := Lib.hid (show W6.heap.size ≤ q1 ∧ q1 < _ from ⟨Q1.out.1, Nat.lt_of_lt_of_le Q1.out.2 g.size⟩)
      clear fr0
      have OB := Lib.hid (show ∀ b, V0.ownBlock = some b → W6.heap.size ≤ b from fun b hb => Nat.le_trans G.out.size (hzl b hb))
      have ON := Lib.hid (show ∀ b, V0.ownBlock = some b → b ≠ q1 from fun b hb e => by have := hzl b hb; have := Q1.out.2; omega)
      clear G
      clear SF
      clear ZV
      clear BY
      clear Q1
      have G := nG
      have SF := nSF
      have ZV := nZV
      have BY := nBY
      have Q1 := nQ1
      clear nG nSF nZV nBY nQ1
      have OW := Lib.hid hz
      clear hz g hzl
      refine act_letter (fun T263 hT263 => ?_)
      replace d69 := (ev_at hT263 (by decide)).trans d69
      replace d71 := (ev_at hT263 (by decide)).trans d71
      replace d12 := (ev_at hT263 (by decide)).trans d12
      replace d74 := (ev_at hT263 (by decide)).trans d74
      have d70 := ev_put hT263 (by omega)
      have szT263 := (sz_at hT263).trans szT261
      have HT263 := Lib.hid (show T261.put (some 70) (V0) = T263 from hT263)
      clear hT263 szT261
      refine wpAnyH_ready (rs := [3]) (by kernel_rfl) (by simp) ?_
      refine (AllReadyH.cons rfl (fun K hK => ?_) AllReadyH.nil)
      refine wp_appB rfl rfl OW.out d70 ((HBX.out.grew G.out (fun _ h => by cases h)).byf) c d71 (by have := HX.out; omega) (fun V1 x263 hz g hor => hK.out _ _ (SF.out.fr (Fr.of_grew' g (F := fun i => V0.ownBlock = some i) (fun i e => e)) (own_ne OW.out SF.out (by decide))) (fun _ => ?_))
      clear hK K
      have fr0 := Fr.of_grew' g (F := fun i => V0.ownBlock = some i) (fun i e => e)
      have nG := Lib.hid (grew_fr G.out fr0 (fun i e => OB.out i e))
      have nSF := Lib.hid (SF.out.fr fr0 (own_ne OW.out SF.out (by decide)))
      have nZV := Lib.hid (ZV.out.fr fr0 (own_ne OW.out ZV.out (by decide)))
      have nBY := Lib.hid (BY.out.fr fr0 (fun i hi e => ON.out i e hi))
      have nQ1 := Lib.hid (show W6.heap.size ≤ q1 ∧ q1 < _ from ⟨Q1.out.1, Nat.lt_of_lt_of_le Q1.out.2 fr0.size⟩)
      clear fr0
      have nOB := Lib.hid (show ∀ b, V1.ownBlock = some b → W6.heap.size ≤ b from fun b hb => by
       rcases hor with e | e
       ·
        rw [e] at hb; exact OB.out b hb
       ·
        rw [e] at hb; cases hb; exact G.out.size)
      have nON := Lib.hid (show ∀ b, V1.ownBlock = some b → b ≠ q1 from fun b hb => by
       rcases hor with e | e
       ·
        rw [e] at hb; exact ON.out b hb
       ·
        rw [e] at hb; cases hb; have := Q1.out.2; omega)
      have nOW := Lib.hid hz
      clear G
      clear SF
      clear ZV
      clear OW
      clear BY
      clear Q1
      clear OB
      clear ON
      have G := nG
      have SF := nSF
      have ZV := nZV
      have OW := nOW
      have BY := nBY
      have Q1 := nQ1
      have OB := nOB
      have ON := nON
      clear nG nSF nZV nOW nBY nQ1 nOB nON
      clear hz g hor
      refine act_letter (fun T265 hT265 => ?_)
      replace d69 := (ev_at hT265 (by decide)).trans d69
      replace d12 := (ev_at hT265 (by decide)).trans d12
      replace d74 := (ev_at hT265 (by decide)).trans d74
      clear d71 d70
      have d72 := ev_put hT265 (by omega)
      have szT265 := (sz_at hT265).trans szT263
      have HT265 := Lib.hid (show T263.put (some 72) (V1) = T265 from hT265)
      clear hT265 szT263
      refine wpAnyH_ready (rs := [6]) (by kernel_rfl) (by simp) ?_
      refine (AllReadyH.cons rfl (fun K hK => ?_) AllReadyH.nil)
      refine wp_appB rfl rfl OW.out d72 (BY.out) 1 d74 (by have := HX.out; simp; omega) (fun V2 x265 hz g hor => hK.out _ _ (SF.out.fr (Fr.of_grew' g (F := fun i => V1.ownBlock = some i) (fun i e => e)) (own_ne OW.out SF.out (by decide))) (fun _ => ?_))
      clear hK K
      have fr0 := Fr.of_grew' g (F := fun i => V1.ownBlock = some i) (fun i e => e)
      have nG := Lib.hid (grew_fr G.out fr0 (fun i e => OB.out i e))
      have nSF := Lib.hid (SF.out.fr fr0 (own_ne OW.out SF.out (by decide)))
      have nZV := Lib.hid (ZV.out.fr fr0 (own_ne OW.out ZV.out (by decide)))
      have nBY := Lib.hid (BY.out.fr fr0 (fun i hi e => ON.out i e hi))
      have nQ1 := Lib.hid (show W6.heap.size ≤ q1 ∧ q1 < _ from ⟨Q1.out.1, Nat.lt_of_lt_of_le Q1.out.2 fr0.size⟩)
      clear fr0
      have nOB := Lib.hid (show ∀ b, V2.ownBlock = some b → W6.heap.size ≤ b from fun b hb => by
       rcases hor with e | e
       ·
        rw [e] at hb; exact OB.out b hb
       ·
        rw [e] at hb; cases hb; exact G.out.size)
      have nON := Lib.hid (show ∀ b, V2.ownBlock = some b → b ≠ q1 from fun b hb => by
       rcases hor with e | e
       ·
        rw [e] at hb; exact ON.out b hb
       ·
        rw [e] at hb; cases hb; have := Q1.out.2; omega)
      have nOW := Lib.hid hz
      clear G
      clear SF
      clear ZV
      clear OW
      clear BY
      clear Q1
      clear OB
      clear ON
      have G := nG
      have SF := nSF
      have ZV := nZV
      have OW := nOW
      have BY := nBY
      have Q1 := nQ1
      have OB := nOB
      have ON := nON
      clear nG nSF nZV nOW nBY nQ1 nOB nON
      clear hz g hor
      refine act_letter (fun T267 hT267 => ?_)
      replace d69 := (ev_at hT267 (by decide)).trans d69
      replace d12 := (ev_at hT267 (by decide)).trans d12
      clear d74 d72
      have d75 := ev_put hT267 (by omega)
      have szT267 := (sz_at hT267).trans szT265
      have HT267 := Lib.hid (show T265.put (some 75) (V2) = T267 from hT267)
      clear hT267 szT265
      refine wpAnyH_ready (rs := [7]) (by kernel_rfl) (by simp) ?_
      refine (AllReadyH.cons rfl (fun K hK => ?_) AllReadyH.nil)
      have OW2 := OW.out
      rw [HMS.out] at OW2
      obtain ⟨A3, c3, hV2, hl3, hb3⟩ := byt_of_own OW2
      have e75 := d75.trans hV2
      have e69 := d69.trans (val_eq f)
      refine wp_callG rfl rfl enter_readF (vs := #[.agg #[.int .i64 f.k, .int .i64 f.s, .int .i64 f.l, .int .i64 f.h, .int .i64 f.t, .slice f.A f.ps.length f.c], .slice A3 ms.length c3, .int .i64 0]) (by simp only [List.map_toArray, List.map_cons, List.map_nil, e69, e75]; rfl) ((CP9.out _ G.out A3 c3 hl3 hb3).mono ?_)
      rintro e x267 ⟨v, rfl, hv, hnf, g, hhi⟩
      have VO := Lib.hid (hhi.offn (F := fun i => i = z) (fun i e => by subst e; exact ZV.out.lt))
      refine ⟨_, rfl, hK.out _ _ (SF.out.grew g (by simp)) (fun _ => ?_)⟩
      clear hK K
      have fr0 := fr_of g (F := fun _ => False)
      have nG := Lib.hid (grew_trans G.out g)
      have nSF := Lib.hid (SF.out.grew g (by simp))
      have nZV := Lib.hid (ZV.out.grew g (by simp))
      clear fr0
      clear G
      clear SF
      clear ZV
      have G := nG
      have SF := nSF
      have ZV := nZV
      clear nG nSF nZV
      have CV := Lib.hid (show v.In x267 ∧ v.nf = R2.v from ⟨hv, hnf⟩)
      clear hv hnf g hhi
      clear hV2 hl3 hb3 e75 e69 OW2
      refine act_letter (fun T269 hT269 => ?_)
      replace d12 := (ev_at hT269 (by decide)).trans d12
      clear d69 d75
      have d76 := ev_put hT269 (by omega)
      have szT269 := (sz_at hT269).trans szT267
      have HT269 := Lib.hid (show T267.put (some 76) (.tuple #[v.val, .int .i64 (R2.n : Int), .int .i64 R2.e]) = T269 from hT269)
      clear hT269 szT267
      refine wpAnyH_take (i := 8) (v := .tuple #[v.val, .int .i64 (R2.n : Int), .int .i64 R2.e]) rfl (by kernel_rfl) (by kernel_rfl) (by kernel_rfl) (fun _ _ _ h => h) (.inl ⟨rfl, fun w g => run_moveV rfl d76 w⟩) SF.out ?_
      refine act_letter (fun T270 hT270 => ?_)
      replace d12 := (ev_at hT270 (by decide)).trans d12
      clear d76
      have d68 := ev_put hT270 (by omega)
      have szT270 := (sz_at hT270).trans szT269
      have HT270 := Lib.hid (show T269.put (some 68) (.tuple #[v.val, .int .i64 (R2.n : Int), .int .i64 R2.e]) = T270 from hT270)
      clear hT270 szT269
      refine wpAnyH_take (i := 9) (v := v.val) rfl (by kernel_rfl) (by kernel_rfl) (by kernel_rfl) (fun _ _ _ h => h) (.inl ⟨rfl, fun w g => run_ext30 rfl d68 w⟩) SF.out ?_
      refine act_letter (fun T271 hT271 => ?_)
      replace d12 := (ev_at hT271 (by decide)).trans d12
      replace d68 := (ev_at hT271 (by decide)).trans d68
      have d77 := ev_put hT271 (by omega)
      have szT271 := (sz_at hT271).trans szT270
      have HT271 := Lib.hid (show T270.put (some 77) (v.val) = T271 from hT271)
      clear hT271 szT270
      refine wpAnyH_take (i := 10) (v := .int .i64 (R2.n : Int)) rfl (by kernel_rfl) (by kernel_rfl) (by kernel_rfl) (fun _ _ _ h => h) (.inl ⟨rfl, fun w g => run_ext31 rfl d68 w⟩) SF.out ?_
      refine act_letter (fun T272 hT272 => ?_)
      replace d12 := (ev_at hT272 (by decide)).trans d12
      replace d68 := (ev_at hT272 (by decide)).trans d68
      replace d77 := (ev_at hT272 (by decide)).trans d77
      have d78 := ev_put hT272 (by omega)
      have szT272 := (sz_at hT272).trans szT271
      have HT272 := Lib.hid (show T271.put (some 78) (.int .i64 (R2.n : Int)) = T272 from hT272)
      clear hT272 szT271
      refine wpAnyH_take (i := 11) (v := .int .i64 R2.e) rfl (by kernel_rfl) (by kernel_rfl) (by kernel_rfl) (fun _ _ _ h => h) (.inl ⟨rfl, fun w g => run_ext32 rfl d68 w⟩) SF.out ?_
      refine act_letter (fun T273 hT273 => ?_)
      replace d12 := (ev_at hT273 (by decide)).trans d12
      replace d68 := (ev_at hT273 (by decide)).trans d68
      replace d77 := (ev_at hT273 (by decide)).trans d77
      replace d78 := (ev_at hT273 (by decide)).trans d78
      have d79 := ev_put hT273 (by omega)
      have szT273 := (sz_at hT273).trans szT272
      have HT273 := Lib.hid (show T272.put (some 79) (.int .i64 R2.e) = T273 from hT273)
      clear hT273 szT272
      refine wpAnyH_ready (rs := [13]) (by kernel_rfl) (by simp) ?_
      refine AllReadyH.cons rfl (fun K hK => ?_) AllReadyH.nil
      have nSF := Lib.hid (show Whole (putV x267 z v) q f.cells 24 from SF.out.fr (fr_put3 _ _ _ _ _) (fun e => Whole.ne SF.out ZV.out (by decide) e))
      have nCV := Lib.hid (show v.In (putV x267 z v) ∧ v.nf = R2.v from ⟨In.fr2 CV.out.1 (fr_put3 _ _ _ _ _) VO.out, CV.out.2⟩)
      have nG := Lib.hid (show Grew W6 (putV x267 z v) none from grew_put3 G.out ZL.out _ _ _)
      have nZV := Lib.hid (show Whole (putV x267 z v) z v.cells 35 from ZV.out.put3 _ _ _)
      refine wp_skipG rfl (w' := putV x267 z v) (run_storeVa rfl d12 d77 ZV.out) (hK.out _ _ nSF.out (fun _ => ?_))
      clear hK K
      clear SF
      clear CV
      clear G
      clear ZV
      have SF := nSF
      have CV := nCV
      have G := nG
      have ZV := nZV
      clear nSF nCV nG nZV
      refine act_letter (fun T274 hT274 => ?_)
      replace d12 : T274.eval (.tmp 12) = .pointer (some ⟨z, 0, none⟩) := by rw [← hT274]; exact d12
      replace d68 : T274.eval (.tmp 68) = .tuple #[v.val, .int .i64 (R2.n : Int), .int .i64 R2.e] := by rw [← hT274]; exact d68
      replace d77 : T274.eval (.tmp 77) = v.val := by rw [← hT274]; exact d77
      replace d78 : T274.eval (.tmp 78) = .int .i64 (R2.n : Int) := by rw [← hT274]; exact d78
      replace d79 : T274.eval (.tmp 79) = .int .i64 R2.e := by rw [← hT274]; exact d79
      have szT274 : T274.tmps.size = 109 := by rw [← hT274]; exact szT273
      have HT274 := Lib.hid (show T273 = T274 from hT274)
      clear hT274 szT273
      refine wpAnyH_take (i := 14) (v := .int .i64 (R2.n : Int)) rfl (by kernel_rfl) (by kernel_rfl) (by kernel_rfl) (fun _ _ _ h => h) (.inl ⟨rfl, fun w g => run_assign rfl d78 w⟩) SF.out ?_
      refine act_letter (fun T275 hT275 => ?_)
      replace d78 := (ev_at hT275 (by decide)).trans d78
      replace d79 := (ev_at hT275 (by decide)).trans d79
      clear d12 d68 d77
      have d13 := ev_put hT275 (by omega)
      have szT275 := (sz_at hT275).trans szT274
      have HT275 := Lib.hid (show T274.put (some 13) (.int .i64 (R2.n : Int)) = T275 from hT275)
      clear hT275 szT274
      refine wpAnyH_take (i := 15) (v := .int .i64 R2.e) rfl (by kernel_rfl) (by kernel_rfl) (by kernel_rfl) (fun _ _ _ h => h) (.inl ⟨rfl, fun w g => run_assign rfl d79 w⟩) SF.out ?_
      refine act_letter (fun T276 hT276 => ?_)
      replace d78 := (ev_at hT276 (by decide)).trans d78
      replace d79 := (ev_at hT276 (by decide)).trans d79
      replace d13 := (ev_at hT276 (by decide)).trans d13
      have d14 := ev_put hT276 (by omega)
      have szT276 := (sz_at hT276).trans szT275
      have HT276 := Lib.hid (show T275.put (some 14) (.int .i64 R2.e) = T276 from hT276)
      clear hT276 szT275
      refine wpAnyH_done (by kernel_rfl) ?_ _
      refine ⟨v, z, V0, V1, .slice (some ⟨q1, 0, none⟩) 1 1, V2, ?_, CV.out.1, CV.out.2, ZV.out, G.out⟩
      rw [← HT276.out, ← HT275.out, ← HT274.out, ← HT273.out, ← HT272.out, ← HT271.out, ← HT270.out, ← HT269.out, ← HT267.out, ← HT265.out, ← HT263.out, ← HT261.out, ← HT227.out, ← HT4.out, ← HT3.out, ← HT2.out, ← HT1.out]
      try simp only [Act.put, List.setIfInBounds_toArray, List.set_cons_zero, List.set_cons_succ]
  ·
   have hbn : (R.e != 0) = true := by simpa using hE
   have hle : (R.n : Int) ≤ (xs.length : Int) := by have := R1'.out; omega
   have CS := Lib.hid (rsamev_any v1 v0 W5 HV6.out.1 (v0_in _))
   have HSM := Lib.hid (same_of (a := v1) (b := v0) (u := v0) (HV6.out.2.trans (R3'.out hE)) rfl)
   rw [vval_eq] at CS
   obtain ⟨d0, d1, d2⟩ := NV.out.three
   clear hE
   go_wp2_with fail
   refine CS.out.mono ?_
   rintro e w7 ⟨rfl, g7⟩
   rw [HSM.out]
   have HG7 := Lib.hid (grew_trans HG6.out g7)
   clear g7 d0 d1 d2 CS
   go_wp2_with fail
   go_ret
   exact ⟨by simp, grew_below HG7.out (Nat.le_refl _) (fun _ h => by cases h)⟩

set_option maxRecDepth 100000 in
theorem readFits_lifted (os : Os) (started : os.Started) (H : Type) (enc : TypeId × Value → H) :
    ReturnsInHanded {} Try.checked os 4 .any (Rows.readFitsSpec.pre6 enc Try.prog Try.f4 Rows.readFitsRow.domain false) (Rows.readFitsSpec.post enc Try.prog Try.f4 false true false false) := by
  refine returnsInHanded_of_change_sized (C := Try.checked) own started (by kernel_rfl) Try.func4
    (ChangeSpec.witness6 (enc := enc) (C := Try.checked) false ⟨#[], #[.agg #[.int .i64 0, .int .i64 0, .int .i64 0, .int .i64 0, .int .i64 0, .slice none 0 0], .slice none 0 0, .int .u8 0], []⟩ 8 (by kernel_rfl) (by kernel_rfl) (by kernel_rfl) (by kernel_rfl)) ?_
  intro W base args ds gs before hval0 hW hcnd hsz0 _
  have hval : ∀ (j : Nat) t v, Try.f4.params[j]? = some t → args[j]? = some v → Value.okWide Try.prog W .any base t v := hval0
  have hsz : (DataW.weightsEach Try.prog (Try.f4.params.toList ++ Rows.readFitsSpec.plain.varTypes Try.prog) (ds ++ gs)).all (· ≤ reachBytes) = true := hsz0
  have hW' := hW
  obtain ⟨p, q, hA0, hV, rfl, hfz, hnd⟩ := hW
  have hA : DataW.TrodAll enc Try.prog W 0 (fun _ => true) true Try.f4.params.toList args.toList ds p := hA0
  rw [Try.params4] at hA hval hsz
  obtain ⟨v0, vs0, d0, ds0, p0, q0, hargs, rfl, rfl, h0, r0⟩ := trodAll_cons hA
  obtain ⟨v1, vs1, d1, ds1, p1, q1, rfl, rfl, rfl, h1, r1⟩ := trodAll_cons r0
  obtain ⟨v2, vs2, d2, ds2, p2, q2, rfl, rfl, rfl, h2, r2⟩ := trodAll_cons r1
  obtain ⟨rfl, rfl, rfl⟩ := trodAll_nil r2
  obtain rfl : args = #[v0, v1, v2] := by cases args; simp_all
  obtain ⟨rfl, rfl⟩ := trodVars_none hV
  have k0 := h0
  have lt0 : ∀ x ∈ p0, x.block < W.heap.size := by obtain ⟨m, hm⟩ := k0; exact DataW.trod_lt m _ _ _ hm
  obtain ⟨f0, rfl, n0⟩ := arg_form (hval 0 24 v0 rfl rfl) h0 hsz (j := 0) rfl rfl
  have k1 := h1
  have lt1 : ∀ x ∈ p1, x.block < W.heap.size := by obtain ⟨m, hm⟩ := k1; exact DataW.trod_lt m _ _ _ hm
  obtain ⟨A1, c1, x1, rfl, l1, m1, b1⟩ := arg_bytes (hval 1 25 v1 rfl rfl) h1 hsz (j := 1) rfl rfl
  obtain ⟨a2, rfl, rfl, rfl, w2⟩ := open_int Try.underlying5 (hval 2 5 v2 rfl rfl) h2
  clear hA0 hval0 hsz0
  refine (readFits_walk W f0 n0 A1 c1 x1 l1 m1 b1 a2 w2).mono fun e W' ⟨he, bel⟩ => ?_
  subst he
  exact ⟨_, rfl, _, _, _, [], _, [], hW', trodAll_mk1 (shut_bool Try.underlying4 _), (trodAll_cons_mk (Below.trod laidOut (by kernel_rfl) (of_decide_eq_true (by kernel_rfl)) k0 bel lt0) (trodAll_cons_mk (Below.trod laidOut (by kernel_rfl) (of_decide_eq_true (by kernel_rfl)) k1 bel lt1) (trodAll_cons_mk (shut_int Try.underlying5 w2) trodAll_mk0))), rfl, bel.frame _, fun h => by cases h⟩

theorem readFits_over : Rows.readFitsRow.holds Try.pinned (OpenSpec.ofChange Rows.readFitsSpec) :=
  OpenClaim.holds_of_wide 4 Try.f4 rfl rfl rfl rfl rfl rfl rfl ⟨rfl, rfl, rfl, rfl, rfl⟩ rfl rfl rfl rfl rfl (by kernel_rfl) Try.func4 (by kernel_rfl)
    (of_decide_eq_true (by kernel_rfl)) (by unfold Func.isWrapper; first | (rw [if_pos (by decide +kernel)]; kernel_rfl) | (rw [if_neg (by decide +kernel)]; exact ⟨rfl, rfl⟩))
    (fun os started H enc _ => readFits_lifted os started H enc)

theorem readFits_holds : Rows.ReadFitsSaid := readFits_over
#print axioms readFits_holds
end Go.Proofs.Ytdamjbngopfpkaa

