/- Of a form that isn't open what is read of bytes plays no part for what stands behind: for every form, bytes and bytes behind them the law returns true. No condition. -/
import Derived.Test.YtdamjbngopfpkaaLw6
import Derived.Test.YtdamjbngopfpkaaRq
import Derived.Test.YtdamjbngopfpkaaRd3
namespace Go.Proofs.Ytdamjbngopfpkaa
open Go.ChangeShapes Go.WideShapes Go.ChangeAt Go.RowKit Va

theorem enter_read : ∀ args w, (callFunc 14 args).run Try.prog w = .ok (.enter 14 args) w := fun _ _ => by kernel_rfl
theorem enter_prefix : ∀ args w, (callFunc 19 args).run Try.prog w = .ok (.enter 19 args) w := fun _ _ => by kernel_rfl

theorem prefix_more {f : Fo} {xs more : List UInt8} (hx : xs.length ≤ 2000) (hc : f.chk = 0) (ho : f.opn = false) (he : (rdF f xs).e = 0) : rdF f (([] ++ xs) ++ more) = rdF f xs ∧ rdAll f (xs.take (rdF f xs).n) = rdF f xs ∧ (rdF f xs).n ≤ xs.length := by
  obtain ⟨hd, hw⟩ := chk_zero hc
  have e0 : ∀ zs, rdF f zs = Rd.up (Rd.bd f zs) := fun zs => if_pos hc
  have G := Rd.bd_good f hw hd xs (by omega)
  have hn : (rdF f xs).n = (Rd.bd f xs).n := by rw [e0]; rfl
  have he' : (Rd.bd f xs).e = 0 := by rw [e0] at he; exact he
  have hle := G.le
  have h1 : Rd.bd f (([] ++ xs) ++ more) = Rd.bd f xs := Rd.bd_take f hw hd ho xs _ (by omega) he' (by simp; omega) (by rw [List.nil_append, List.take_append_of_le_length hle])
  have h2 : Rd.bd f (xs.take (Rd.bd f xs).n) = Rd.bd f xs := Rd.bd_take f hw hd ho xs _ (by omega) he' (by rw [List.length_take]; omega) (by rw [List.take_take, Nat.min_self])
  refine ⟨by rw [e0, e0, h1], ?_, by rw [hn]; exact hle⟩
  unfold rdAll
  rw [hn, e0, h2, ← e0, if_neg]
  rintro ⟨_, h⟩
  rw [hn, List.length_take] at h
  omega

set_option maxRecDepth 100000 in
set_option maxHeartbeats 8000000 in
theorem readPrefix_walk (w : World) (f : Fo) (hf : f.In w) (A : Option Addr) (c : Nat) (xs : List UInt8) (hl : xs.length ≤ c) (_hc : c ≤ 140737488351232) (hb : Byt w w.heap.size A xs) (A2 : Option Addr) (c2 : Nat) (more : List UInt8) (_hl2 : more.length ≤ c2) (_hc2 : c2 ≤ 140737488351232) (hb2 : Byt w w.heap.size A2 more) :
    Calls Try.prog 5 #[f.val, .slice A xs.length c, .slice A2 more.length c2] w fun e w' => e = .returned (.bool true) ∧ Below w.heap.size w w' := by
  have CG := Lib.hid (fun w' (g : Grew w w' none) => great6_any w' f (hf.grew g) A c xs.length)
  have CK := Lib.hid (fun w' (g : Grew w w' none) => rchk_any w' f (hf.grew g))
  have CO := Lib.hid (fun w' (g : Grew w w' none) => ropen_any f w' (hf.grew g))
  have C1 := Lib.hid (show ∀ w', Grew w w' none → xs.length ≤ 2000 → Calls Try.prog 19 #[f.val, .slice A xs.length c, .int .i64 0] w' fun e w'' => ∃ v : Va, e = .returned (.tuple #[v.val, .int .i64 ((rdF f xs).n : Int), .int .i64 (rdF f xs).e]) ∧ v.In w'' ∧ v.nf = (rdF f xs).v ∧ Grew w' w'' none ∧ v.Hi w'.heap.size from
    fun w' g hx => (prefix_hi w' f (hf.grew g) A c xs hl (by omega) ((hb.grew g (fun _ h => by cases h)).more g.size) 0 (by omega) (by omega)).mono (fun e w'' ⟨v, h1, h2⟩ => ⟨v, by rw [h1, Int.zero_add], h2⟩))
  have C2 := Lib.hid (show ∀ w', Grew w w' none → xs.length ≤ 2000 → more.length ≤ 500 → f.chk = 0 → f.opn = false → (rdF f xs).e = 0 → ∀ A3 c3, (([] ++ xs) ++ more).length ≤ c3 → Byt w' w'.heap.size A3 (([] ++ xs) ++ more) → Calls Try.prog 19 #[f.val, .slice A3 (([] ++ xs) ++ more).length c3, .int .i64 0] w' fun e w'' => ∃ v : Va, e = .returned (.tuple #[v.val, .int .i64 ((rdF f xs).n : Int), .int .i64 (rdF f xs).e]) ∧ v.In w'' ∧ v.nf = (rdF f xs).v ∧ Grew w' w'' none ∧ v.Hi w'.heap.size from
    fun w' g hx hm hc ho he A3 c3 hl3 hb3 => by
      have hlen : (([] ++ xs) ++ more).length = xs.length + more.length := by simp
      have key := prefix_hi w' f (hf.grew g) A3 c3 (([] ++ xs) ++ more) hl3 (by omega) hb3 0 (by omega) (by omega)
      rw [(prefix_more hx hc ho he).1] at key
      exact key.mono (fun e w'' ⟨v, h1, h2⟩ => ⟨v, by rw [h1, Int.zero_add], h2⟩))
  have C3 := Lib.hid (show ∀ w', Grew w w' none → xs.length ≤ 2000 → f.chk = 0 → f.opn = false → (rdF f xs).e = 0 → Calls Try.prog 14 #[f.val, .slice A (rdF f xs).n c, .int .i64 0] w' fun e w'' => ∃ v : Va, e = .returned (.tuple #[v.val, .int .i64 ((rdF f xs).n : Int), .int .i64 (rdF f xs).e]) ∧ v.In w'' ∧ v.nf = (rdF f xs).v ∧ Grew w' w'' none ∧ v.Hi w'.heap.size from
    fun w' g hx hc ho he => by
      obtain ⟨-, p2, p3⟩ := prefix_more (more := []) hx hc ho he
      have hlen : (xs.take (rdF f xs).n).length = (rdF f xs).n := by rw [List.length_take]; omega
      have key := read_hi w' f (hf.grew g) A c (xs.take (rdF f xs).n) (by omega) (by omega) ((((hb.grew g (fun _ h => by cases h)).more g.size)).take _) 0 (by omega) (by omega)
      rw [p2, hlen] at key
      exact key.mono (fun e w'' ⟨v, h1, h2⟩ => ⟨v, by rw [h1, Int.zero_add], h2⟩))
  have PM := Lib.hid (fun (hx : xs.length ≤ 2000) (hc : f.chk = 0) (ho : f.opn = false) (he : (rdF f xs).e = 0) => (prefix_more (more := more) hx hc ho he).2.2)
  have HB := Lib.hid hb
  have HB2 := Lib.hid hb2
  have HL := Lib.hid hl
  generalize rdF f xs = R at *
  generalize f.opn = OP at *
  generalize hch : f.chk = CH at *
  clear hf hl hb hb2 hch
  simp only [val_eq] at *
  have HW := Lib.hid (Whole.new w #[.int .i64 f.k, .int .i64 f.s, .int .i64 f.l, .int .i64 f.h, .int .i64 f.t, .slice f.A f.ps.length f.c] 24)
  have HG := Lib.hid (grew_alloc (grew_refl w none) (.cells #[.int .i64 f.k, .int .i64 f.s, .int .i64 f.l, .int .i64 f.h, .int .i64 f.t, .slice f.A f.ps.length f.c] 24))
  go_enter Try.func5, Try.ntmps5
  go_wp2_with fail
  generalize w.alloc (.cells #[.int .i64 f.k, .int .i64 f.s, .int .i64 f.l, .int .i64 f.h, .int .i64 f.t, .slice f.A f.ps.length f.c] 24) = W at *
  generalize hq : w.heap.size = q at *
  have HQ := Lib.hid hq
  clear hq
  refine (alive6_any W).mono ?_
  rintro e w1 ⟨rfl, g1⟩
  have HG1 := Lib.hid (grew_trans HG.out g1)
  have HW1 := Lib.hid (HW.out.grew g1 (by simp))
  obtain ⟨b0, b1, b2, b3, b4, b5⟩ := HW1.out.six
  clear g1 HG HW
  go_wp2_with fail
  refine (CG.out w1 HG1.out).mono ?_
  rintro e w2 ⟨rfl, g2⟩
  have HG2 := Lib.hid (grew_trans HG1.out g2)
  have HW2 := Lib.hid (HW1.out.grew g2 (by simp))
  clear g2 HG1 HW1 b0 b1 b2 b3 b4 b5 CG
  by_cases hbig : 500 < f.cnt ∨ 2000 < xs.length
  · rw [decide_eq_true hbig]
    go_wp2_with fail
    refine (alive6_any w2).mono ?_
    rintro e wz ⟨rfl, gz⟩
    have HGZ := Lib.hid (grew_trans HG2.out gz)
    clear gz
    go_wp2_with fail
    go_ret
    exact ⟨rfl, grew_below HGZ.out (Nat.le_refl _) (fun _ h => by cases h)⟩
  · rw [decide_eq_false hbig]
    have HX := Lib.hid (show xs.length ≤ 2000 by omega)
    clear hbig
    by_cases hmo : 500 < more.length
    · have hmi : (500 : Int) < (more.length : Int) := by omega
      go_wp2_with fail
      refine (alive6_any w2).mono ?_
      rintro e wz ⟨rfl, gz⟩
      have HGZ := Lib.hid (grew_trans HG2.out gz)
      clear gz
      go_wp2_with fail
      go_ret
      exact ⟨rfl, grew_below HGZ.out (Nat.le_refl _) (fun _ h => by cases h)⟩
    · have HMO := Lib.hid (show more.length ≤ 500 by omega)
      have hmi : ¬ (500 : Int) < (more.length : Int) := by omega
      clear hmo
      obtain ⟨b0, b1, b2, b3, b4, b5⟩ := HW2.out.six
      go_wp2_with fail
      refine (CK.out w2 HG2.out).mono ?_
      rintro e w3 ⟨rfl, g3⟩
      have HG3 := Lib.hid (grew_trans HG2.out g3)
      have HW3 := Lib.hid (HW2.out.grew g3 (by simp))
      clear g3 HG2 HW2 b0 b1 b2 b3 b4 b5 CK
      by_cases hc0 : CH = 0
      · have HC0 := Lib.hid hc0
        have hcb : (CH != 0) = false := by simpa using hc0
        clear hc0
        obtain ⟨b0, b1, b2, b3, b4, b5⟩ := HW3.out.six
        go_wp2_with fail
        refine (CO.out w3 HG3.out).mono ?_
        rintro e w4 ⟨rfl, g4⟩
        have HG4 := Lib.hid (grew_trans HG3.out g4)
        have HW4 := Lib.hid (HW3.out.grew g4 (by simp))
        clear g4 HG3 HW3 b0 b1 b2 b3 b4 b5 CO hcb
        cases hop : OP with
        | true =>
          go_wp2_with fail
          refine (alive6_any w4).mono ?_
          rintro e wz ⟨rfl, gz⟩
          have HGZ := Lib.hid (grew_trans HG4.out gz)
          clear gz
          go_wp2_with fail
          go_ret
          exact ⟨rfl, grew_below HGZ.out (Nat.le_refl _) (fun _ h => by cases h)⟩
        | false =>
          have HOP := Lib.hid hop
          clear hop
          obtain ⟨b0, b1, b2, b3, b4, b5⟩ := HW4.out.six
          go_wp2_with fail
          refine (C1.out w4 HG4.out HX.out).mono ?_
          rintro e w5 ⟨v1, rfl, hv, hnf, g5, -⟩
          have HG5 := Lib.hid (grew_trans HG4.out g5)
          have HW5 := Lib.hid (HW4.out.grew g5 (by simp))
          have HV5 := Lib.hid (show v1.In w5 ∧ v1.nf = R.v from ⟨hv, hnf⟩)
          clear hv hnf g5 HG4 HW4 b0 b1 b2 b3 b4 b5 C1
          rw [vval_eq]
          by_cases hE : R.e = 0
          · have HE := Lib.hid hE
            rw [hE]
            clear hE
            go_upto_region 6 with (fail)
            have ga := grew_alloc (grew_refl w5 none) (.cells #[.int .u64 v1.n, .slice v1.B v1.bs.length v1.d, .slice v1.A v1.ls.length v1.c] 35)
            have NV := Lib.hid (Whole.new w5 #[.int .u64 v1.n, .slice v1.B v1.bs.length v1.d, .slice v1.A v1.ls.length v1.c] 35)
            have HG6 := Lib.hid (grew_trans HG5.out ga)
            have HW6 := Lib.hid (HW5.out.grew ga (by simp))
            have HV6 := Lib.hid (show v1.In _ ∧ v1.nf = R.v from ⟨HV5.out.1.grew ga, HV5.out.2⟩)
            clear ga HG5 HW5 HV5
            generalize w5.alloc (.cells #[.int .u64 v1.n, .slice v1.B v1.bs.length v1.d, .slice v1.A v1.ls.length v1.c] 35) = W6 at *
            generalize w5.heap.size = z1 at *
            have HBX := Lib.hid (show Byt W6 W6.heap.size A xs from (HB.out.grew HG6.out (fun _ h => by cases h)).more (by rw [← HQ.out]; exact HG6.out.size))
            have HBM := Lib.hid (show Byt W6 W6.heap.size A2 more from (HB2.out.grew HG6.out (fun _ h => by cases h)).more (by rw [← HQ.out]; exact HG6.out.size))
            generalize hms : ([] ++ xs) ++ more = ms at C2
            have HMS := Lib.hid hms
            clear hms
            have CP6 := Lib.hid (fun X (g : Grew W6 X none) A3 c3 h3 b3 => C2.out X (grew_trans HG6.out g) HX.out HMO.out HC0.out HOP.out HE.out A3 c3 h3 b3)
            refine act_letterC (fun Ac1 hAc1 => ?_)
            have d1 : Ac1.eval (.tmp 1) = .slice A xs.length c := by rw [← hAc1]; rfl
            have d2 : Ac1.eval (.tmp 2) = .slice A2 more.length c2 := by rw [← hAc1]; rfl
            have d3 : Ac1.eval (.tmp 3) = .pointer (some ⟨q, 0, none⟩) := by rw [← hAc1]; rfl
            have szAc1 : Ac1.tmps.size = 97 := by rw [← hAc1]; rfl
            have HAc1 := Lib.hid hAc1
            clear hAc1
            have G := Lib.hid (show Grew W6 (World.drew W6) none from grew_drew (grew_refl _ none))
            have SF := Lib.hid (show Whole (World.drew W6) q f.cells 24 from HW6.out)
            refine Code.wp_mono (Q := RegEnd (fun a' w' => ∃ (v : Va) (z : Nat) (s0 : Value) (s1 : Value) (s2 : Value), a' = ((((((((((((((Ac1.put (some 48) (f.val)).put (some 49) (s0)).put (some 50) (.slice A xs.length c)).put (some 51) (s1)).put (some 52) (.slice A2 more.length c2)).put (some 53) (s2)).put (some 54) (.tuple #[v.val, .int .i64 (R.n : Int), .int .i64 R.e])).put (some 47) (.tuple #[v.val, .int .i64 (R.n : Int), .int .i64 R.e])).put (some 55) (v.val)).put (some 56) (.int .i64 (R.n : Int))).put (some 57) (.int .i64 R.e)).put (some 10) (.pointer (some ⟨z, 0, none⟩))).put (some 11) (.int .i64 (R.n : Int))).put (some 12) (.int .i64 R.e)) ∧ v.In w' ∧ v.nf = R.v ∧ Whole w' z v.cells 35 ∧ Grew W6 w' none)) (fun e a' Y hq => ?_) ?_
            · obtain ⟨rfl, v2, z2, s0, s1, s2, rfl, hv2, hnf2, hz2, hg2⟩ := hq.out
              rw [← HAc1.out]
              simp only [Act.put, List.setIfInBounds_toArray, List.set_cons_zero, List.set_cons_succ]
              have HG7 := Lib.hid (grew_trans HG6.out hg2)
              have HW7 := Lib.hid (HW6.out.grew hg2 (by simp))
              have NV7 := Lib.hid (show Whole Y z1 v1.cells 35 from NV.out.grew hg2 (by simp))
              have NW7 := Lib.hid hz2
              have HV7 := Lib.hid (show v1.In Y ∧ v1.nf = R.v ∧ v2.In Y ∧ v2.nf = R.v from ⟨HV6.out.1.grew hg2, HV6.out.2, hv2, hnf2⟩)
              clear hq HAc1 hv2 hnf2 hz2 hg2 HG6 HW6 NV HV6 HBX HBM CP6 d1 d2 d3 szAc1
              go_upto_region 7 with (fail)
              generalize Y = W7 at *
              have CP7 := Lib.hid (fun X (g : Grew W7 X none) => C3.out X (grew_trans HG7.out g) HX.out HC0.out HOP.out HE.out)
              have HNC := Lib.hid (show R.n ≤ c from Nat.le_trans (PM.out HX.out HC0.out HOP.out HE.out) HL.out)
              refine act_letterC (fun Ac1 hAc1 => ?_)
              have d1 : Ac1.eval (.tmp 1) = .slice A xs.length c := by rw [← hAc1]; rfl
              have d3 : Ac1.eval (.tmp 3) = .pointer (some ⟨q, 0, none⟩) := by rw [← hAc1]; rfl
              have d8 : Ac1.eval (.tmp 8) = .int .i64 (R.n : Int) := by rw [← hAc1]; rfl
              have szAc1 : Ac1.tmps.size = 97 := by rw [← hAc1]; rfl
              have HAc1 := Lib.hid hAc1
              clear hAc1
              have G := Lib.hid (show Grew W7 (World.drew W7) none from grew_drew (grew_refl _ none))
              have SF := Lib.hid (show Whole (World.drew W7) q f.cells 24 from HW7.out)
              refine Code.wp_mono (Q := RegEnd (fun a' w' => ∃ (v : Va) (z : Nat), a' = ((((((((((((Ac1.put (some 59) (f.val)).put (some 60) (.slice A xs.length c)).put (some 61) (.int .i64 (R.n : Int))).put (some 62) (.slice A R.n c)).put (some 63) (.tuple #[v.val, .int .i64 (R.n : Int), .int .i64 R.e])).put (some 58) (.tuple #[v.val, .int .i64 (R.n : Int), .int .i64 R.e])).put (some 64) (v.val)).put (some 65) (.int .i64 (R.n : Int))).put (some 66) (.int .i64 R.e)).put (some 13) (.pointer (some ⟨z, 0, none⟩))).put (some 14) (.int .i64 (R.n : Int))).put (some 15) (.int .i64 R.e)) ∧ v.In w' ∧ v.nf = R.v ∧ Whole w' z v.cells 35 ∧ Grew W7 w' none)) (fun e a' Y hq => ?_) ?_
              · obtain ⟨rfl, v3, z3, rfl, hv3, hnf3, hz3, hg3⟩ := hq.out
                rw [← HAc1.out]
                simp only [Act.put, List.setIfInBounds_toArray, List.set_cons_zero, List.set_cons_succ]
                have HG8 := Lib.hid (grew_trans HG7.out hg3)
                clear d1 d3 d8
                obtain ⟨m0, m1, m2⟩ := (NV7.out.grew hg3 (by simp)).three
                obtain ⟨n0, n1, n2⟩ := (NW7.out.grew hg3 (by simp)).three
                obtain ⟨k0, k1, k2⟩ := hz3.three
                have CS1 := Lib.hid (rsamev_any v1 v2 Y (HV7.out.1.grew hg3) (HV7.out.2.2.1.grew hg3))
                have SM1 := Lib.hid (same_of HV7.out.2.1 HV7.out.2.2.2)
                have SM2 := Lib.hid (same_of HV7.out.2.1 hnf3)
                have KV := Lib.hid (show v1.In Y ∧ v3.In Y ∧ Whole Y z1 v1.cells 35 ∧ Whole Y z3 v3.cells 35 from ⟨HV7.out.1.grew hg3, hv3, NV7.out.grew hg3 (by simp), hz3⟩)
                clear hq HAc1 HG7 NV7 NW7 HV7 hv3 hnf3 hz3 hg3 HW7 szAc1 CP7 HNC G SF
                rw [vval_eq, vval_eq] at CS1
                have hE0 := HE.out
                rw [hE0, vval_eq]
                clear hE0
                have hn0 : (0 : Int) ≤ (R.n : Int) := by omega
                generalize (R.n : Int) = N at *
                go_wp2_with fail
                refine CS1.out.mono ?_
                rintro e wy ⟨rfl, gy⟩
                rw [SM1.out]
                have HG9 := Lib.hid (grew_trans HG8.out gy)
                have CS2 := Lib.hid (rsamev_any v1 v3 wy (KV.out.1.grew gy) (KV.out.2.1.grew gy))
                rw [vval_eq, vval_eq] at CS2
                clear m0 m1 m2 n0 n1 n2 k0 k1 k2 CS1
                obtain ⟨m0, m1, m2⟩ := (KV.out.2.2.1.grew gy (by simp)).three
                obtain ⟨k0, k1, k2⟩ := (KV.out.2.2.2.grew gy (by simp)).three
                clear gy KV
                go_wp2_with fail
                refine CS2.out.mono ?_
                rintro e wz ⟨rfl, gz⟩
                rw [SM2.out]
                have HGA := Lib.hid (grew_trans HG9.out gz)
                clear gz m0 m1 m2 k0 k1 k2 CS2
                go_wp2_with fail
                go_ret
                exact ⟨by simp, grew_below HGA.out (Nat.le_refl _) (fun _ h => by cases h)⟩
              · skip
                refine wp_region_held (S := fun w' => Whole w' q f.cells 24) (by kernel_rfl) ?_
                change wpAnyH _ _ _ _ _ _ _ _ (World.drew W7)
                refine wpAnyH_take (i := 0) (v := f.val) rfl (by kernel_rfl) (by kernel_rfl) (by kernel_rfl) (fun _ _ _ h => h) (.inl ⟨rfl, fun w g => run_form rfl d3 g⟩) SF.out ?_
                refine act_letter (fun Ac2 hAc2 => ?_)
                replace d1 : Ac2.eval (.tmp 1) = .slice A xs.length c := by rw [← hAc2]; exact (ev_ne Ac1 (m := 59) (n := 1) (f.val) (by decide)).trans d1
                replace d3 : Ac2.eval (.tmp 3) = .pointer (some ⟨q, 0, none⟩) := by rw [← hAc2]; exact (ev_ne Ac1 (m := 59) (n := 3) (f.val) (by decide)).trans d3
                replace d8 : Ac2.eval (.tmp 8) = .int .i64 (R.n : Int) := by rw [← hAc2]; exact (ev_ne Ac1 (m := 59) (n := 8) (f.val) (by decide)).trans d8
                have e59 : Ac2.eval (.tmp 59) = f.val := by rw [← hAc2]; exact ev_self Ac1 59 (f.val) (by omega)
                have szAc2 : Ac2.tmps.size = 97 := by rw [← hAc2]; exact (sz_put Ac1 59 (f.val)).trans szAc1
                have HAc2 := Lib.hid (show Ac1.put (some 59) (f.val) = Ac2 from hAc2)
                clear hAc2 szAc1
                have d59 := e59
                clear e59
                refine wpAnyH_take (i := 1) (v := .slice A xs.length c) rfl (by kernel_rfl) (by kernel_rfl) (by kernel_rfl) (fun _ _ _ h => h) (.inl ⟨rfl, fun w g => run_moveV rfl d1 w⟩) SF.out ?_
                refine act_letter (fun Ac3 hAc3 => ?_)
                replace d1 : Ac3.eval (.tmp 1) = .slice A xs.length c := by rw [← hAc3]; exact (ev_ne Ac2 (m := 60) (n := 1) (.slice A xs.length c) (by decide)).trans d1
                replace d3 : Ac3.eval (.tmp 3) = .pointer (some ⟨q, 0, none⟩) := by rw [← hAc3]; exact (ev_ne Ac2 (m := 60) (n := 3) (.slice A xs.length c) (by decide)).trans d3
                replace d8 : Ac3.eval (.tmp 8) = .int .i64 (R.n : Int) := by rw [← hAc3]; exact (ev_ne Ac2 (m := 60) (n := 8) (.slice A xs.length c) (by decide)).trans d8
                replace d59 : Ac3.eval (.tmp 59) = f.val := by rw [← hAc3]; exact (ev_ne Ac2 (m := 60) (n := 59) (.slice A xs.length c) (by decide)).trans d59
                have e60 : Ac3.eval (.tmp 60) = .slice A xs.length c := by rw [← hAc3]; exact ev_self Ac2 60 (.slice A xs.length c) (by omega)
                have szAc3 : Ac3.tmps.size = 97 := by rw [← hAc3]; exact (sz_put Ac2 60 (.slice A xs.length c)).trans szAc2
                have HAc3 := Lib.hid (show Ac2.put (some 60) (.slice A xs.length c) = Ac3 from hAc3)
                clear hAc3 szAc2
                have d60 := e60
                clear e60
                refine wpAnyH_take (i := 2) (v := .int .i64 (R.n : Int)) rfl (by kernel_rfl) (by kernel_rfl) (by kernel_rfl) (fun _ _ _ h => h) (.inl ⟨rfl, fun w g => run_moveV rfl d8 w⟩) SF.out ?_
                refine act_letter (fun Ac4 hAc4 => ?_)
                replace d1 : Ac4.eval (.tmp 1) = .slice A xs.length c := by rw [← hAc4]; exact (ev_ne Ac3 (m := 61) (n := 1) (.int .i64 (R.n : Int)) (by decide)).trans d1
                replace d3 : Ac4.eval (.tmp 3) = .pointer (some ⟨q, 0, none⟩) := by rw [← hAc4]; exact (ev_ne Ac3 (m := 61) (n := 3) (.int .i64 (R.n : Int)) (by decide)).trans d3
                replace d8 : Ac4.eval (.tmp 8) = .int .i64 (R.n : Int) := by rw [← hAc4]; exact (ev_ne Ac3 (m := 61) (n := 8) (.int .i64 (R.n : Int)) (by decide)).trans d8
                replace d59 : Ac4.eval (.tmp 59) = f.val := by rw [← hAc4]; exact (ev_ne Ac3 (m := 61) (n := 59) (.int .i64 (R.n : Int)) (by decide)).trans d59
                replace d60 : Ac4.eval (.tmp 60) = .slice A xs.length c := by rw [← hAc4]; exact (ev_ne Ac3 (m := 61) (n := 60) (.int .i64 (R.n : Int)) (by decide)).trans d60
                have e61 : Ac4.eval (.tmp 61) = .int .i64 (R.n : Int) := by rw [← hAc4]; exact ev_self Ac3 61 (.int .i64 (R.n : Int)) (by omega)
                have szAc4 : Ac4.tmps.size = 97 := by rw [← hAc4]; exact (sz_put Ac3 61 (.int .i64 (R.n : Int))).trans szAc3
                have HAc4 := Lib.hid (show Ac3.put (some 61) (.int .i64 (R.n : Int)) = Ac4 from hAc4)
                clear hAc4 szAc3
                have d61 := e61
                clear e61
                refine wpAnyH_take (i := 3) (v := .slice A R.n c) rfl (by kernel_rfl) (by kernel_rfl) (by kernel_rfl) (fun _ _ _ h => h) (.inl ⟨rfl, fun w g => run_sliceB rfl d60 d61 HNC.out w⟩) SF.out ?_
                refine act_letter (fun Ac5 hAc5 => ?_)
                replace d1 : Ac5.eval (.tmp 1) = .slice A xs.length c := by rw [← hAc5]; exact (ev_ne Ac4 (m := 62) (n := 1) (.slice A R.n c) (by decide)).trans d1
                replace d3 : Ac5.eval (.tmp 3) = .pointer (some ⟨q, 0, none⟩) := by rw [← hAc5]; exact (ev_ne Ac4 (m := 62) (n := 3) (.slice A R.n c) (by decide)).trans d3
                replace d8 : Ac5.eval (.tmp 8) = .int .i64 (R.n : Int) := by rw [← hAc5]; exact (ev_ne Ac4 (m := 62) (n := 8) (.slice A R.n c) (by decide)).trans d8
                replace d59 : Ac5.eval (.tmp 59) = f.val := by rw [← hAc5]; exact (ev_ne Ac4 (m := 62) (n := 59) (.slice A R.n c) (by decide)).trans d59
                replace d60 : Ac5.eval (.tmp 60) = .slice A xs.length c := by rw [← hAc5]; exact (ev_ne Ac4 (m := 62) (n := 60) (.slice A R.n c) (by decide)).trans d60
                replace d61 : Ac5.eval (.tmp 61) = .int .i64 (R.n : Int) := by rw [← hAc5]; exact (ev_ne Ac4 (m := 62) (n := 61) (.slice A R.n c) (by decide)).trans d61
                have e62 : Ac5.eval (.tmp 62) = .slice A R.n c := by rw [← hAc5]; exact ev_self Ac4 62 (.slice A R.n c) (by omega)
                have szAc5 : Ac5.tmps.size = 97 := by rw [← hAc5]; exact (sz_put Ac4 62 (.slice A R.n c)).trans szAc4
                have HAc5 := Lib.hid (show Ac4.put (some 62) (.slice A R.n c) = Ac5 from hAc5)
                clear hAc5 szAc4
                have d62 := e62
                clear e62
                refine wpAnyH_ready (rs := [4, 9]) (by kernel_rfl) (by simp) ?_
                refine (AllReadyH.cons rfl (fun K hK => ?_) (AllReadyH.cons rfl (fun K hK => ?_) AllReadyH.nil))
                · skip
                  refine wp_callG rfl rfl enter_read (vs := #[f.val, .slice A R.n c, .int .i64 0]) (by simp only [List.map_toArray, List.map_cons, List.map_nil, d59, d62]; rfl) ((CP7.out _ G.out).mono ?_)
                  rintro e x5 ⟨v, rfl, hv, hnf, g, hhi⟩
                  refine ⟨_, rfl, hK.out _ _ (SF.out.grew g (by simp)) (fun _ => ?_)⟩
                  clear hK K
                  have fr0 := fr_of g (F := fun _ => False)
                  have nG := Lib.hid (grew_trans G.out g)
                  have nSF := Lib.hid (SF.out.grew g (by simp))
                  clear fr0
                  clear G
                  clear SF
                  have G := nG
                  have SF := nSF
                  clear nG nSF
                  have CV := Lib.hid (show v.In x5 ∧ v.nf = R.v from ⟨hv, hnf⟩)
                  clear hv hnf g hhi
                  refine act_letter (fun Ac7 hAc7 => ?_)
                  have e63 : Ac7.eval (.tmp 63) = .tuple #[v.val, .int .i64 (R.n : Int), .int .i64 R.e] := by rw [← hAc7]; exact ev_self Ac5 63 (.tuple #[v.val, .int .i64 (R.n : Int), .int .i64 R.e]) (by omega)
                  have szAc7 : Ac7.tmps.size = 97 := by rw [← hAc7]; exact (sz_put Ac5 63 (.tuple #[v.val, .int .i64 (R.n : Int), .int .i64 R.e])).trans szAc5
                  have HAc7 := Lib.hid (show Ac5.put (some 63) (.tuple #[v.val, .int .i64 (R.n : Int), .int .i64 R.e]) = Ac7 from hAc7)
                  clear hAc7 szAc5 d1 d3 d8 d59 d60 d61 d62
                  have d63 := e63
                  clear e63
                  refine wpAnyH_take (i := 5) (v := .tuple #[v.val, .int .i64 (R.n : Int), .int .i64 R.e]) rfl (by kernel_rfl) (by kernel_rfl) (by kernel_rfl) (fun _ _ _ h => h) (.inl ⟨rfl, fun w g => run_moveV rfl d63 w⟩) SF.out ?_
                  refine act_letter (fun Ac8 hAc8 => ?_)
                  have e58 : Ac8.eval (.tmp 58) = .tuple #[v.val, .int .i64 (R.n : Int), .int .i64 R.e] := by rw [← hAc8]; exact ev_self Ac7 58 (.tuple #[v.val, .int .i64 (R.n : Int), .int .i64 R.e]) (by omega)
                  have szAc8 : Ac8.tmps.size = 97 := by rw [← hAc8]; exact (sz_put Ac7 58 (.tuple #[v.val, .int .i64 (R.n : Int), .int .i64 R.e])).trans szAc7
                  have HAc8 := Lib.hid (show Ac7.put (some 58) (.tuple #[v.val, .int .i64 (R.n : Int), .int .i64 R.e]) = Ac8 from hAc8)
                  clear hAc8 szAc7 d63
                  have d58 := e58
                  clear e58
                  refine wpAnyH_take (i := 6) (v := v.val) rfl (by kernel_rfl) (by kernel_rfl) (by kernel_rfl) (fun _ _ _ h => h) (.inl ⟨rfl, fun w g => run_ext30 rfl d58 w⟩) SF.out ?_
                  refine act_letter (fun Ac9 hAc9 => ?_)
                  replace d58 : Ac9.eval (.tmp 58) = .tuple #[v.val, .int .i64 (R.n : Int), .int .i64 R.e] := by rw [← hAc9]; exact (ev_ne Ac8 (m := 64) (n := 58) (v.val) (by decide)).trans d58
                  have e64 : Ac9.eval (.tmp 64) = v.val := by rw [← hAc9]; exact ev_self Ac8 64 (v.val) (by omega)
                  have szAc9 : Ac9.tmps.size = 97 := by rw [← hAc9]; exact (sz_put Ac8 64 (v.val)).trans szAc8
                  have HAc9 := Lib.hid (show Ac8.put (some 64) (v.val) = Ac9 from hAc9)
                  clear hAc9 szAc8
                  have d64 := e64
                  clear e64
                  refine wpAnyH_take (i := 7) (v := .int .i64 (R.n : Int)) rfl (by kernel_rfl) (by kernel_rfl) (by kernel_rfl) (fun _ _ _ h => h) (.inl ⟨rfl, fun w g => run_ext31 rfl d58 w⟩) SF.out ?_
                  refine act_letter (fun Ac10 hAc10 => ?_)
                  replace d58 : Ac10.eval (.tmp 58) = .tuple #[v.val, .int .i64 (R.n : Int), .int .i64 R.e] := by rw [← hAc10]; exact (ev_ne Ac9 (m := 65) (n := 58) (.int .i64 (R.n : Int)) (by decide)).trans d58
                  replace d64 : Ac10.eval (.tmp 64) = v.val := by rw [← hAc10]; exact (ev_ne Ac9 (m := 65) (n := 64) (.int .i64 (R.n : Int)) (by decide)).trans d64
                  have e65 : Ac10.eval (.tmp 65) = .int .i64 (R.n : Int) := by rw [← hAc10]; exact ev_self Ac9 65 (.int .i64 (R.n : Int)) (by omega)
                  have szAc10 : Ac10.tmps.size = 97 := by rw [← hAc10]; exact (sz_put Ac9 65 (.int .i64 (R.n : Int))).trans szAc9
                  have HAc10 := Lib.hid (show Ac9.put (some 65) (.int .i64 (R.n : Int)) = Ac10 from hAc10)
                  clear hAc10 szAc9
                  have d65 := e65
                  clear e65
                  refine wpAnyH_take (i := 8) (v := .int .i64 R.e) rfl (by kernel_rfl) (by kernel_rfl) (by kernel_rfl) (fun _ _ _ h => h) (.inl ⟨rfl, fun w g => run_ext32 rfl d58 w⟩) SF.out ?_
                  refine act_letter (fun Ac11 hAc11 => ?_)
                  replace d58 : Ac11.eval (.tmp 58) = .tuple #[v.val, .int .i64 (R.n : Int), .int .i64 R.e] := by rw [← hAc11]; exact (ev_ne Ac10 (m := 66) (n := 58) (.int .i64 R.e) (by decide)).trans d58
                  replace d64 : Ac11.eval (.tmp 64) = v.val := by rw [← hAc11]; exact (ev_ne Ac10 (m := 66) (n := 64) (.int .i64 R.e) (by decide)).trans d64
                  replace d65 : Ac11.eval (.tmp 65) = .int .i64 (R.n : Int) := by rw [← hAc11]; exact (ev_ne Ac10 (m := 66) (n := 65) (.int .i64 R.e) (by decide)).trans d65
                  have e66 : Ac11.eval (.tmp 66) = .int .i64 R.e := by rw [← hAc11]; exact ev_self Ac10 66 (.int .i64 R.e) (by omega)
                  have szAc11 : Ac11.tmps.size = 97 := by rw [← hAc11]; exact (sz_put Ac10 66 (.int .i64 R.e)).trans szAc10
                  have HAc11 := Lib.hid (show Ac10.put (some 66) (.int .i64 R.e) = Ac11 from hAc11)
                  clear hAc11 szAc10
                  have d66 := e66
                  clear e66
                  refine wpAnyH_ready (rs := [9]) (by kernel_rfl) (by simp) ?_
                  refine (AllReadyH.cons rfl (fun K hK => ?_) AllReadyH.nil)
                  refine wp_newVq rfl rfl (fun z x11 hz g hzl => hK.out _ _ (SF.out.grew g (by simp)) (fun _ => ?_))
                  clear hK K
                  have fr0 := fr_of g (F := fun _ => False)
                  have nG := Lib.hid (grew_trans G.out g)
                  have nSF := Lib.hid (SF.out.grew g (by simp))
                  have nCV := Lib.hid (show v.In _ ∧ v.nf = R.v from ⟨CV.out.1.grew g, CV.out.2⟩)
                  clear fr0
                  have ZL := Lib.hid (show W7.heap.size ≤ z from Nat.le_trans G.out.size hzl)
                  have VO := Lib.hid (CV.out.1.offn (F := fun i => i = z) (fun i e => by subst e; exact hzl))
                  clear G
                  clear SF
                  clear CV
                  have G := nG
                  have SF := nSF
                  have CV := nCV
                  clear nG nSF nCV
                  have ZV := Lib.hid hz
                  clear hz g hzl
                  refine act_letter (fun Ac13 hAc13 => ?_)
                  replace d64 : Ac13.eval (.tmp 64) = v.val := by rw [← hAc13]; exact (ev_ne Ac11 (m := 13) (n := 64) (.pointer (some ⟨z, 0, none⟩)) (by decide)).trans d64
                  replace d65 : Ac13.eval (.tmp 65) = .int .i64 (R.n : Int) := by rw [← hAc13]; exact (ev_ne Ac11 (m := 13) (n := 65) (.pointer (some ⟨z, 0, none⟩)) (by decide)).trans d65
                  replace d66 : Ac13.eval (.tmp 66) = .int .i64 R.e := by rw [← hAc13]; exact (ev_ne Ac11 (m := 13) (n := 66) (.pointer (some ⟨z, 0, none⟩)) (by decide)).trans d66
                  have e13 : Ac13.eval (.tmp 13) = .pointer (some ⟨z, 0, none⟩) := by rw [← hAc13]; exact ev_self Ac11 13 (.pointer (some ⟨z, 0, none⟩)) (by omega)
                  have szAc13 : Ac13.tmps.size = 97 := by rw [← hAc13]; exact (sz_put Ac11 13 (.pointer (some ⟨z, 0, none⟩))).trans szAc11
                  have HAc13 := Lib.hid (show Ac11.put (some 13) (.pointer (some ⟨z, 0, none⟩)) = Ac13 from hAc13)
                  clear hAc13 szAc11 d58
                  have d13 := e13
                  clear e13
                  refine wpAnyH_ready (rs := [10]) (by kernel_rfl) (by simp) ?_
                  refine AllReadyH.cons rfl (fun K hK => ?_) AllReadyH.nil
                  have nSF := Lib.hid (show Whole (put3 x11 z (.int .u64 v.n) (.slice v.B v.bs.length v.d) (.slice v.A v.ls.length v.c)) q f.cells 24 from SF.out.fr (fr_put3 _ _ _ _ _) (fun e => Whole.ne SF.out ZV.out (by decide) e))
                  have nCV := Lib.hid (show v.In (put3 x11 z (.int .u64 v.n) (.slice v.B v.bs.length v.d) (.slice v.A v.ls.length v.c)) ∧ v.nf = R.v from ⟨In.fr2 CV.out.1 (fr_put3 _ _ _ _ _) VO.out, CV.out.2⟩)
                  have nG := Lib.hid (show Grew W7 (put3 x11 z (.int .u64 v.n) (.slice v.B v.bs.length v.d) (.slice v.A v.ls.length v.c)) none from grew_put3 G.out ZL.out _ _ _)
                  have nZV := Lib.hid (show Whole (put3 x11 z (.int .u64 v.n) (.slice v.B v.bs.length v.d) (.slice v.A v.ls.length v.c)) z v.cells 35 from ZV.out.put3 _ _ _)
                  refine wp_skipG rfl (w' := put3 x11 z (.int .u64 v.n) (.slice v.B v.bs.length v.d) (.slice v.A v.ls.length v.c)) (run_storeVa rfl d13 d64 ZV.out) (hK.out _ _ nSF.out (fun _ => ?_))
                  clear hK K
                  clear SF
                  clear CV
                  clear G
                  clear ZV
                  have SF := nSF
                  have CV := nCV
                  have G := nG
                  have ZV := nZV
                  clear nSF nCV nG nZV
                  refine act_letter (fun Ac14 hAc14 => ?_)
                  replace d64 : Ac14.eval (.tmp 64) = v.val := by rw [← hAc14]; exact d64
                  replace d65 : Ac14.eval (.tmp 65) = .int .i64 (R.n : Int) := by rw [← hAc14]; exact d65
                  replace d66 : Ac14.eval (.tmp 66) = .int .i64 R.e := by rw [← hAc14]; exact d66
                  replace d13 : Ac14.eval (.tmp 13) = .pointer (some ⟨z, 0, none⟩) := by rw [← hAc14]; exact d13
                  have szAc14 : Ac14.tmps.size = 97 := by rw [← hAc14]; exact szAc13
                  have HAc14 := Lib.hid (show Ac13 = Ac14 from hAc14)
                  clear hAc14 szAc13
                  refine wpAnyH_take (i := 11) (v := .int .i64 (R.n : Int)) rfl (by kernel_rfl) (by kernel_rfl) (by kernel_rfl) (fun _ _ _ h => h) (.inl ⟨rfl, fun w g => run_assign rfl d65 w⟩) SF.out ?_
                  refine act_letter (fun Ac15 hAc15 => ?_)
                  replace d65 : Ac15.eval (.tmp 65) = .int .i64 (R.n : Int) := by rw [← hAc15]; exact (ev_ne Ac14 (m := 14) (n := 65) (.int .i64 (R.n : Int)) (by decide)).trans d65
                  replace d66 : Ac15.eval (.tmp 66) = .int .i64 R.e := by rw [← hAc15]; exact (ev_ne Ac14 (m := 14) (n := 66) (.int .i64 (R.n : Int)) (by decide)).trans d66
                  have e14 : Ac15.eval (.tmp 14) = .int .i64 (R.n : Int) := by rw [← hAc15]; exact ev_self Ac14 14 (.int .i64 (R.n : Int)) (by omega)
                  have szAc15 : Ac15.tmps.size = 97 := by rw [← hAc15]; exact (sz_put Ac14 14 (.int .i64 (R.n : Int))).trans szAc14
                  have HAc15 := Lib.hid (show Ac14.put (some 14) (.int .i64 (R.n : Int)) = Ac15 from hAc15)
                  clear hAc15 szAc14 d64 d13
                  have d14 := e14
                  clear e14
                  refine wpAnyH_take (i := 12) (v := .int .i64 R.e) rfl (by kernel_rfl) (by kernel_rfl) (by kernel_rfl) (fun _ _ _ h => h) (.inl ⟨rfl, fun w g => run_assign rfl d66 w⟩) SF.out ?_
                  refine act_letter (fun Ac16 hAc16 => ?_)
                  replace d65 : Ac16.eval (.tmp 65) = .int .i64 (R.n : Int) := by rw [← hAc16]; exact (ev_ne Ac15 (m := 15) (n := 65) (.int .i64 R.e) (by decide)).trans d65
                  replace d66 : Ac16.eval (.tmp 66) = .int .i64 R.e := by rw [← hAc16]; exact (ev_ne Ac15 (m := 15) (n := 66) (.int .i64 R.e) (by decide)).trans d66
                  replace d14 : Ac16.eval (.tmp 14) = .int .i64 (R.n : Int) := by rw [← hAc16]; exact (ev_ne Ac15 (m := 15) (n := 14) (.int .i64 R.e) (by decide)).trans d14
                  have e15 : Ac16.eval (.tmp 15) = .int .i64 R.e := by rw [← hAc16]; exact ev_self Ac15 15 (.int .i64 R.e) (by omega)
                  have szAc16 : Ac16.tmps.size = 97 := by rw [← hAc16]; exact (sz_put Ac15 15 (.int .i64 R.e)).trans szAc15
                  have HAc16 := Lib.hid (show Ac15.put (some 15) (.int .i64 R.e) = Ac16 from hAc16)
                  clear hAc16 szAc15
                  have d15 := e15
                  clear e15
                  refine wpAnyH_done (by kernel_rfl) ?_ _
                  refine ⟨v, z, ?_, CV.out.1, CV.out.2, ZV.out, G.out⟩
                  rw [← HAc16.out, ← HAc15.out, ← HAc14.out, ← HAc13.out, ← HAc11.out, ← HAc10.out, ← HAc9.out, ← HAc8.out, ← HAc7.out, ← HAc5.out, ← HAc4.out, ← HAc3.out, ← HAc2.out, ← HAc1.out]
                  try simp only [Act.put, List.setIfInBounds_toArray, List.set_cons_zero, List.set_cons_succ]
                · skip
                  refine wp_newVq rfl rfl (fun z x16 hz g hzl => hK.out _ _ (SF.out.grew g (by simp)) (fun _ => ?_))
                  clear hK K
                  have fr0 := fr_of g (F := fun _ => False)
                  have nG := Lib.hid (grew_trans G.out g)
                  have nSF := Lib.hid (SF.out.grew g (by simp))
                  clear fr0
                  have ZL := Lib.hid (show W7.heap.size ≤ z from Nat.le_trans G.out.size hzl)
                  clear G
                  clear SF
                  have G := nG
                  have SF := nSF
                  clear nG nSF
                  have ZV := Lib.hid hz
                  clear hz g hzl
                  refine act_letter (fun Ac18 hAc18 => ?_)
                  replace d59 : Ac18.eval (.tmp 59) = f.val := by rw [← hAc18]; exact (ev_ne Ac5 (m := 13) (n := 59) (.pointer (some ⟨z, 0, none⟩)) (by decide)).trans d59
                  replace d62 : Ac18.eval (.tmp 62) = .slice A R.n c := by rw [← hAc18]; exact (ev_ne Ac5 (m := 13) (n := 62) (.pointer (some ⟨z, 0, none⟩)) (by decide)).trans d62
                  have e13 : Ac18.eval (.tmp 13) = .pointer (some ⟨z, 0, none⟩) := by rw [← hAc18]; exact ev_self Ac5 13 (.pointer (some ⟨z, 0, none⟩)) (by omega)
                  have szAc18 : Ac18.tmps.size = 97 := by rw [← hAc18]; exact (sz_put Ac5 13 (.pointer (some ⟨z, 0, none⟩))).trans szAc5
                  have HAc18 := Lib.hid (show Ac5.put (some 13) (.pointer (some ⟨z, 0, none⟩)) = Ac18 from hAc18)
                  clear hAc18 szAc5 d1 d3 d8 d60 d61
                  have d13 := e13
                  clear e13
                  refine wpAnyH_ready (rs := [4]) (by kernel_rfl) (by simp) ?_
                  refine (AllReadyH.cons rfl (fun K hK => ?_) AllReadyH.nil)
                  refine wp_callG rfl rfl enter_read (vs := #[f.val, .slice A R.n c, .int .i64 0]) (by simp only [List.map_toArray, List.map_cons, List.map_nil, d59, d62]; rfl) ((CP7.out _ G.out).mono ?_)
                  rintro e x18 ⟨v, rfl, hv, hnf, g, hhi⟩
                  have VO := Lib.hid (hhi.offn (F := fun i => i = z) (fun i e => by subst e; exact ZV.out.lt))
                  refine ⟨_, rfl, hK.out _ _ (SF.out.grew g (by simp)) (fun _ => ?_)⟩
                  clear hK K
                  have fr0 := fr_of g (F := fun _ => False)
                  have nG := Lib.hid (grew_trans G.out g)
                  have nSF := Lib.hid (SF.out.grew g (by simp))
                  have nZV := Lib.hid (ZV.out.grew g (by simp))
                  clear fr0
                  clear G
                  clear SF
                  clear ZV
                  have G := nG
                  have SF := nSF
                  have ZV := nZV
                  clear nG nSF nZV
                  have CV := Lib.hid (show v.In x18 ∧ v.nf = R.v from ⟨hv, hnf⟩)
                  clear hv hnf g hhi
                  refine act_letter (fun Ac20 hAc20 => ?_)
                  replace d13 : Ac20.eval (.tmp 13) = .pointer (some ⟨z, 0, none⟩) := by rw [← hAc20]; exact (ev_ne Ac18 (m := 63) (n := 13) (.tuple #[v.val, .int .i64 (R.n : Int), .int .i64 R.e]) (by decide)).trans d13
                  have e63 : Ac20.eval (.tmp 63) = .tuple #[v.val, .int .i64 (R.n : Int), .int .i64 R.e] := by rw [← hAc20]; exact ev_self Ac18 63 (.tuple #[v.val, .int .i64 (R.n : Int), .int .i64 R.e]) (by omega)
                  have szAc20 : Ac20.tmps.size = 97 := by rw [← hAc20]; exact (sz_put Ac18 63 (.tuple #[v.val, .int .i64 (R.n : Int), .int .i64 R.e])).trans szAc18
                  have HAc20 := Lib.hid (show Ac18.put (some 63) (.tuple #[v.val, .int .i64 (R.n : Int), .int .i64 R.e]) = Ac20 from hAc20)
                  clear hAc20 szAc18 d59 d62
                  have d63 := e63
                  clear e63
                  refine wpAnyH_take (i := 5) (v := .tuple #[v.val, .int .i64 (R.n : Int), .int .i64 R.e]) rfl (by kernel_rfl) (by kernel_rfl) (by kernel_rfl) (fun _ _ _ h => h) (.inl ⟨rfl, fun w g => run_moveV rfl d63 w⟩) SF.out ?_
                  refine act_letter (fun Ac21 hAc21 => ?_)
                  replace d13 : Ac21.eval (.tmp 13) = .pointer (some ⟨z, 0, none⟩) := by rw [← hAc21]; exact (ev_ne Ac20 (m := 58) (n := 13) (.tuple #[v.val, .int .i64 (R.n : Int), .int .i64 R.e]) (by decide)).trans d13
                  have e58 : Ac21.eval (.tmp 58) = .tuple #[v.val, .int .i64 (R.n : Int), .int .i64 R.e] := by rw [← hAc21]; exact ev_self Ac20 58 (.tuple #[v.val, .int .i64 (R.n : Int), .int .i64 R.e]) (by omega)
                  have szAc21 : Ac21.tmps.size = 97 := by rw [← hAc21]; exact (sz_put Ac20 58 (.tuple #[v.val, .int .i64 (R.n : Int), .int .i64 R.e])).trans szAc20
                  have HAc21 := Lib.hid (show Ac20.put (some 58) (.tuple #[v.val, .int .i64 (R.n : Int), .int .i64 R.e]) = Ac21 from hAc21)
                  clear hAc21 szAc20 d63
                  have d58 := e58
                  clear e58
                  refine wpAnyH_take (i := 6) (v := v.val) rfl (by kernel_rfl) (by kernel_rfl) (by kernel_rfl) (fun _ _ _ h => h) (.inl ⟨rfl, fun w g => run_ext30 rfl d58 w⟩) SF.out ?_
                  refine act_letter (fun Ac22 hAc22 => ?_)
                  replace d13 : Ac22.eval (.tmp 13) = .pointer (some ⟨z, 0, none⟩) := by rw [← hAc22]; exact (ev_ne Ac21 (m := 64) (n := 13) (v.val) (by decide)).trans d13
                  replace d58 : Ac22.eval (.tmp 58) = .tuple #[v.val, .int .i64 (R.n : Int), .int .i64 R.e] := by rw [← hAc22]; exact (ev_ne Ac21 (m := 64) (n := 58) (v.val) (by decide)).trans d58
                  have e64 : Ac22.eval (.tmp 64) = v.val := by rw [← hAc22]; exact ev_self Ac21 64 (v.val) (by omega)
                  have szAc22 : Ac22.tmps.size = 97 := by rw [← hAc22]; exact (sz_put Ac21 64 (v.val)).trans szAc21
                  have HAc22 := Lib.hid (show Ac21.put (some 64) (v.val) = Ac22 from hAc22)
                  clear hAc22 szAc21
                  have d64 := e64
                  clear e64
                  refine wpAnyH_take (i := 7) (v := .int .i64 (R.n : Int)) rfl (by kernel_rfl) (by kernel_rfl) (by kernel_rfl) (fun _ _ _ h => h) (.inl ⟨rfl, fun w g => run_ext31 rfl d58 w⟩) SF.out ?_
                  refine act_letter (fun Ac23 hAc23 => ?_)
                  replace d13 : Ac23.eval (.tmp 13) = .pointer (some ⟨z, 0, none⟩) := by rw [← hAc23]; exact (ev_ne Ac22 (m := 65) (n := 13) (.int .i64 (R.n : Int)) (by decide)).trans d13
                  replace d58 : Ac23.eval (.tmp 58) = .tuple #[v.val, .int .i64 (R.n : Int), .int .i64 R.e] := by rw [← hAc23]; exact (ev_ne Ac22 (m := 65) (n := 58) (.int .i64 (R.n : Int)) (by decide)).trans d58
                  replace d64 : Ac23.eval (.tmp 64) = v.val := by rw [← hAc23]; exact (ev_ne Ac22 (m := 65) (n := 64) (.int .i64 (R.n : Int)) (by decide)).trans d64
                  have e65 : Ac23.eval (.tmp 65) = .int .i64 (R.n : Int) := by rw [← hAc23]; exact ev_self Ac22 65 (.int .i64 (R.n : Int)) (by omega)
                  have szAc23 : Ac23.tmps.size = 97 := by rw [← hAc23]; exact (sz_put Ac22 65 (.int .i64 (R.n : Int))).trans szAc22
                  have HAc23 := Lib.hid (show Ac22.put (some 65) (.int .i64 (R.n : Int)) = Ac23 from hAc23)
                  clear hAc23 szAc22
                  have d65 := e65
                  clear e65
                  refine wpAnyH_take (i := 8) (v := .int .i64 R.e) rfl (by kernel_rfl) (by kernel_rfl) (by kernel_rfl) (fun _ _ _ h => h) (.inl ⟨rfl, fun w g => run_ext32 rfl d58 w⟩) SF.out ?_
                  refine act_letter (fun Ac24 hAc24 => ?_)
                  replace d13 : Ac24.eval (.tmp 13) = .pointer (some ⟨z, 0, none⟩) := by rw [← hAc24]; exact (ev_ne Ac23 (m := 66) (n := 13) (.int .i64 R.e) (by decide)).trans d13
                  replace d58 : Ac24.eval (.tmp 58) = .tuple #[v.val, .int .i64 (R.n : Int), .int .i64 R.e] := by rw [← hAc24]; exact (ev_ne Ac23 (m := 66) (n := 58) (.int .i64 R.e) (by decide)).trans d58
                  replace d64 : Ac24.eval (.tmp 64) = v.val := by rw [← hAc24]; exact (ev_ne Ac23 (m := 66) (n := 64) (.int .i64 R.e) (by decide)).trans d64
                  replace d65 : Ac24.eval (.tmp 65) = .int .i64 (R.n : Int) := by rw [← hAc24]; exact (ev_ne Ac23 (m := 66) (n := 65) (.int .i64 R.e) (by decide)).trans d65
                  have e66 : Ac24.eval (.tmp 66) = .int .i64 R.e := by rw [← hAc24]; exact ev_self Ac23 66 (.int .i64 R.e) (by omega)
                  have szAc24 : Ac24.tmps.size = 97 := by rw [← hAc24]; exact (sz_put Ac23 66 (.int .i64 R.e)).trans szAc23
                  have HAc24 := Lib.hid (show Ac23.put (some 66) (.int .i64 R.e) = Ac24 from hAc24)
                  clear hAc24 szAc23
                  have d66 := e66
                  clear e66
                  refine wpAnyH_ready (rs := [10]) (by kernel_rfl) (by simp) ?_
                  refine AllReadyH.cons rfl (fun K hK => ?_) AllReadyH.nil
                  have nSF := Lib.hid (show Whole (put3 x18 z (.int .u64 v.n) (.slice v.B v.bs.length v.d) (.slice v.A v.ls.length v.c)) q f.cells 24 from SF.out.fr (fr_put3 _ _ _ _ _) (fun e => Whole.ne SF.out ZV.out (by decide) e))
                  have nCV := Lib.hid (show v.In (put3 x18 z (.int .u64 v.n) (.slice v.B v.bs.length v.d) (.slice v.A v.ls.length v.c)) ∧ v.nf = R.v from ⟨In.fr2 CV.out.1 (fr_put3 _ _ _ _ _) VO.out, CV.out.2⟩)
                  have nG := Lib.hid (show Grew W7 (put3 x18 z (.int .u64 v.n) (.slice v.B v.bs.length v.d) (.slice v.A v.ls.length v.c)) none from grew_put3 G.out ZL.out _ _ _)
                  have nZV := Lib.hid (show Whole (put3 x18 z (.int .u64 v.n) (.slice v.B v.bs.length v.d) (.slice v.A v.ls.length v.c)) z v.cells 35 from ZV.out.put3 _ _ _)
                  refine wp_skipG rfl (w' := put3 x18 z (.int .u64 v.n) (.slice v.B v.bs.length v.d) (.slice v.A v.ls.length v.c)) (run_storeVa rfl d13 d64 ZV.out) (hK.out _ _ nSF.out (fun _ => ?_))
                  clear hK K
                  clear SF
                  clear CV
                  clear G
                  clear ZV
                  have SF := nSF
                  have CV := nCV
                  have G := nG
                  have ZV := nZV
                  clear nSF nCV nG nZV
                  refine act_letter (fun Ac25 hAc25 => ?_)
                  replace d13 : Ac25.eval (.tmp 13) = .pointer (some ⟨z, 0, none⟩) := by rw [← hAc25]; exact d13
                  replace d58 : Ac25.eval (.tmp 58) = .tuple #[v.val, .int .i64 (R.n : Int), .int .i64 R.e] := by rw [← hAc25]; exact d58
                  replace d64 : Ac25.eval (.tmp 64) = v.val := by rw [← hAc25]; exact d64
                  replace d65 : Ac25.eval (.tmp 65) = .int .i64 (R.n : Int) := by rw [← hAc25]; exact d65
                  replace d66 : Ac25.eval (.tmp 66) = .int .i64 R.e := by rw [← hAc25]; exact d66
                  have szAc25 : Ac25.tmps.size = 97 := by rw [← hAc25]; exact szAc24
                  have HAc25 := Lib.hid (show Ac24 = Ac25 from hAc25)
                  clear hAc25 szAc24
                  refine wpAnyH_take (i := 11) (v := .int .i64 (R.n : Int)) rfl (by kernel_rfl) (by kernel_rfl) (by kernel_rfl) (fun _ _ _ h => h) (.inl ⟨rfl, fun w g => run_assign rfl d65 w⟩) SF.out ?_
                  refine act_letter (fun Ac26 hAc26 => ?_)
                  replace d65 : Ac26.eval (.tmp 65) = .int .i64 (R.n : Int) := by rw [← hAc26]; exact (ev_ne Ac25 (m := 14) (n := 65) (.int .i64 (R.n : Int)) (by decide)).trans d65
                  replace d66 : Ac26.eval (.tmp 66) = .int .i64 R.e := by rw [← hAc26]; exact (ev_ne Ac25 (m := 14) (n := 66) (.int .i64 (R.n : Int)) (by decide)).trans d66
                  have e14 : Ac26.eval (.tmp 14) = .int .i64 (R.n : Int) := by rw [← hAc26]; exact ev_self Ac25 14 (.int .i64 (R.n : Int)) (by omega)
                  have szAc26 : Ac26.tmps.size = 97 := by rw [← hAc26]; exact (sz_put Ac25 14 (.int .i64 (R.n : Int))).trans szAc25
                  have HAc26 := Lib.hid (show Ac25.put (some 14) (.int .i64 (R.n : Int)) = Ac26 from hAc26)
                  clear hAc26 szAc25 d13 d58 d64
                  have d14 := e14
                  clear e14
                  refine wpAnyH_take (i := 12) (v := .int .i64 R.e) rfl (by kernel_rfl) (by kernel_rfl) (by kernel_rfl) (fun _ _ _ h => h) (.inl ⟨rfl, fun w g => run_assign rfl d66 w⟩) SF.out ?_
                  refine act_letter (fun Ac27 hAc27 => ?_)
                  replace d65 : Ac27.eval (.tmp 65) = .int .i64 (R.n : Int) := by rw [← hAc27]; exact (ev_ne Ac26 (m := 15) (n := 65) (.int .i64 R.e) (by decide)).trans d65
                  replace d66 : Ac27.eval (.tmp 66) = .int .i64 R.e := by rw [← hAc27]; exact (ev_ne Ac26 (m := 15) (n := 66) (.int .i64 R.e) (by decide)).trans d66
                  replace d14 : Ac27.eval (.tmp 14) = .int .i64 (R.n : Int) := by rw [← hAc27]; exact (ev_ne Ac26 (m := 15) (n := 14) (.int .i64 R.e) (by decide)).trans d14
                  have e15 : Ac27.eval (.tmp 15) = .int .i64 R.e := by rw [← hAc27]; exact ev_self Ac26 15 (.int .i64 R.e) (by omega)
                  have szAc27 : Ac27.tmps.size = 97 := by rw [← hAc27]; exact (sz_put Ac26 15 (.int .i64 R.e)).trans szAc26
                  have HAc27 := Lib.hid (show Ac26.put (some 15) (.int .i64 R.e) = Ac27 from hAc27)
                  clear hAc27 szAc26
                  have d15 := e15
                  clear e15
                  refine wpAnyH_done (by kernel_rfl) ?_ _
                  refine ⟨v, z, ?_, CV.out.1, CV.out.2, ZV.out, G.out⟩
                  rw [← HAc27.out, ← HAc26.out, ← HAc25.out, ← HAc24.out, ← HAc23.out, ← HAc22.out, ← HAc21.out, ← HAc20.out, ← HAc18.out, ← HAc5.out, ← HAc4.out, ← HAc3.out, ← HAc2.out, ← HAc1.out]
                  try simp only [Act.put, List.setIfInBounds_toArray, List.set_cons_zero, List.set_cons_succ]
            · skip
              refine wp_region_held (S := fun w' => Whole w' q f.cells 24) (by kernel_rfl) ?_
              change wpAnyH _ _ _ _ _ _ _ _ (World.drew W6)
              refine wpAnyH_take (i := 0) (v := f.val) rfl (by kernel_rfl) (by kernel_rfl) (by kernel_rfl) (fun _ _ _ h => h) (.inl ⟨rfl, fun w g => run_form rfl d3 g⟩) SF.out ?_
              refine act_letter (fun Ac2 hAc2 => ?_)
              replace d1 : Ac2.eval (.tmp 1) = .slice A xs.length c := by rw [← hAc2]; exact (ev_ne Ac1 (m := 48) (n := 1) (f.val) (by decide)).trans d1
              replace d2 : Ac2.eval (.tmp 2) = .slice A2 more.length c2 := by rw [← hAc2]; exact (ev_ne Ac1 (m := 48) (n := 2) (f.val) (by decide)).trans d2
              replace d3 : Ac2.eval (.tmp 3) = .pointer (some ⟨q, 0, none⟩) := by rw [← hAc2]; exact (ev_ne Ac1 (m := 48) (n := 3) (f.val) (by decide)).trans d3
              have e48 : Ac2.eval (.tmp 48) = f.val := by rw [← hAc2]; exact ev_self Ac1 48 (f.val) (by omega)
              have szAc2 : Ac2.tmps.size = 97 := by rw [← hAc2]; exact (sz_put Ac1 48 (f.val)).trans szAc1
              have HAc2 := Lib.hid (show Ac1.put (some 48) (f.val) = Ac2 from hAc2)
              clear hAc2 szAc1
              have d48 := e48
              clear e48
              refine wpAnyH_take (i := 2) (v := .slice A xs.length c) rfl (by kernel_rfl) (by kernel_rfl) (by kernel_rfl) (fun _ _ _ h => h) (.inl ⟨rfl, fun w g => run_moveV rfl d1 w⟩) SF.out ?_
              refine act_letter (fun Ac3 hAc3 => ?_)
              replace d1 : Ac3.eval (.tmp 1) = .slice A xs.length c := by rw [← hAc3]; exact (ev_ne Ac2 (m := 50) (n := 1) (.slice A xs.length c) (by decide)).trans d1
              replace d2 : Ac3.eval (.tmp 2) = .slice A2 more.length c2 := by rw [← hAc3]; exact (ev_ne Ac2 (m := 50) (n := 2) (.slice A xs.length c) (by decide)).trans d2
              replace d3 : Ac3.eval (.tmp 3) = .pointer (some ⟨q, 0, none⟩) := by rw [← hAc3]; exact (ev_ne Ac2 (m := 50) (n := 3) (.slice A xs.length c) (by decide)).trans d3
              replace d48 : Ac3.eval (.tmp 48) = f.val := by rw [← hAc3]; exact (ev_ne Ac2 (m := 50) (n := 48) (.slice A xs.length c) (by decide)).trans d48
              have e50 : Ac3.eval (.tmp 50) = .slice A xs.length c := by rw [← hAc3]; exact ev_self Ac2 50 (.slice A xs.length c) (by omega)
              have szAc3 : Ac3.tmps.size = 97 := by rw [← hAc3]; exact (sz_put Ac2 50 (.slice A xs.length c)).trans szAc2
              have HAc3 := Lib.hid (show Ac2.put (some 50) (.slice A xs.length c) = Ac3 from hAc3)
              clear hAc3 szAc2
              have d50 := e50
              clear e50
              refine wpAnyH_take (i := 4) (v := .slice A2 more.length c2) rfl (by kernel_rfl) (by kernel_rfl) (by kernel_rfl) (fun _ _ _ h => h) (.inl ⟨rfl, fun w g => run_moveV rfl d2 w⟩) SF.out ?_
              refine act_letter (fun Ac4 hAc4 => ?_)
              replace d1 : Ac4.eval (.tmp 1) = .slice A xs.length c := by rw [← hAc4]; exact (ev_ne Ac3 (m := 52) (n := 1) (.slice A2 more.length c2) (by decide)).trans d1
              replace d2 : Ac4.eval (.tmp 2) = .slice A2 more.length c2 := by rw [← hAc4]; exact (ev_ne Ac3 (m := 52) (n := 2) (.slice A2 more.length c2) (by decide)).trans d2
              replace d3 : Ac4.eval (.tmp 3) = .pointer (some ⟨q, 0, none⟩) := by rw [← hAc4]; exact (ev_ne Ac3 (m := 52) (n := 3) (.slice A2 more.length c2) (by decide)).trans d3
              replace d48 : Ac4.eval (.tmp 48) = f.val := by rw [← hAc4]; exact (ev_ne Ac3 (m := 52) (n := 48) (.slice A2 more.length c2) (by decide)).trans d48
              replace d50 : Ac4.eval (.tmp 50) = .slice A xs.length c := by rw [← hAc4]; exact (ev_ne Ac3 (m := 52) (n := 50) (.slice A2 more.length c2) (by decide)).trans d50
              have e52 : Ac4.eval (.tmp 52) = .slice A2 more.length c2 := by rw [← hAc4]; exact ev_self Ac3 52 (.slice A2 more.length c2) (by omega)
              have szAc4 : Ac4.tmps.size = 97 := by rw [← hAc4]; exact (sz_put Ac3 52 (.slice A2 more.length c2)).trans szAc3
              have HAc4 := Lib.hid (show Ac3.put (some 52) (.slice A2 more.length c2) = Ac4 from hAc4)
              clear hAc4 szAc3
              have d52 := e52
              clear e52
              refine wpAnyH_ready (rs := [1, 11]) (by kernel_rfl) (by simp) ?_
              refine (AllReadyH.cons rfl (fun K hK => ?_) (AllReadyH.cons rfl (fun K hK => ?_) AllReadyH.nil))
              · skip
                refine wp_new0 rfl rfl (fun V0 x4 hz g hzl => hK.out _ _ (SF.out.grew g (by simp)) (fun _ => ?_))
                clear hK K
                have fr0 := fr_of g (F := fun _ => False)
                have nG := Lib.hid (grew_trans G.out g)
                have nSF := Lib.hid (SF.out.grew g (by simp))
                clear fr0
                have OB := Lib.hid (show ∀ b, V0.ownBlock = some b → W6.heap.size ≤ b from fun b hb => Nat.le_trans G.out.size (hzl b hb))
                clear G
                clear SF
                have G := nG
                have SF := nSF
                clear nG nSF
                have OW := Lib.hid hz
                clear hz g hzl
                refine act_letter (fun Ac6 hAc6 => ?_)
                replace d48 : Ac6.eval (.tmp 48) = f.val := by rw [← hAc6]; exact (ev_ne Ac4 (m := 49) (n := 48) (V0) (by decide)).trans d48
                replace d50 : Ac6.eval (.tmp 50) = .slice A xs.length c := by rw [← hAc6]; exact (ev_ne Ac4 (m := 49) (n := 50) (V0) (by decide)).trans d50
                replace d52 : Ac6.eval (.tmp 52) = .slice A2 more.length c2 := by rw [← hAc6]; exact (ev_ne Ac4 (m := 49) (n := 52) (V0) (by decide)).trans d52
                have e49 : Ac6.eval (.tmp 49) = V0 := by rw [← hAc6]; exact ev_self Ac4 49 (V0) (by omega)
                have szAc6 : Ac6.tmps.size = 97 := by rw [← hAc6]; exact (sz_put Ac4 49 (V0)).trans szAc4
                have HAc6 := Lib.hid (show Ac4.put (some 49) (V0) = Ac6 from hAc6)
                clear hAc6 szAc4 d1 d2 d3
                have d49 := e49
                clear e49
                refine wpAnyH_ready (rs := [3, 11]) (by kernel_rfl) (by simp) ?_
                refine (AllReadyH.cons rfl (fun K hK => ?_) (AllReadyH.cons rfl (fun K hK => ?_) AllReadyH.nil))
                · skip
                  refine wp_appB rfl rfl OW.out d49 ((HBX.out.grew G.out (fun _ h => by cases h)).byf) c d50 (by have := HX.out; omega) (fun V1 x6 hz g hor => hK.out _ _ (SF.out.fr (Fr.of_grew' g (F := fun i => V0.ownBlock = some i) (fun i e => e)) (own_ne OW.out SF.out (by decide))) (fun _ => ?_))
                  clear hK K
                  have fr0 := Fr.of_grew' g (F := fun i => V0.ownBlock = some i) (fun i e => e)
                  have nG := Lib.hid (grew_fr G.out fr0 (fun i e => OB.out i e))
                  have nSF := Lib.hid (SF.out.fr fr0 (own_ne OW.out SF.out (by decide)))
                  clear fr0
                  have nOB := Lib.hid (show ∀ b, V1.ownBlock = some b → W6.heap.size ≤ b from fun b hb => by
                    rcases hor with e | e
                    · rw [e] at hb; exact OB.out b hb
                    · rw [e] at hb; cases hb; exact G.out.size)
                  have nOW := Lib.hid hz
                  clear G
                  clear SF
                  clear OW
                  clear OB
                  have G := nG
                  have SF := nSF
                  have OW := nOW
                  have OB := nOB
                  clear nG nSF nOW nOB
                  clear hz g hor
                  refine act_letter (fun Ac8 hAc8 => ?_)
                  replace d48 : Ac8.eval (.tmp 48) = f.val := by rw [← hAc8]; exact (ev_ne Ac6 (m := 51) (n := 48) (V1) (by decide)).trans d48
                  replace d52 : Ac8.eval (.tmp 52) = .slice A2 more.length c2 := by rw [← hAc8]; exact (ev_ne Ac6 (m := 51) (n := 52) (V1) (by decide)).trans d52
                  have e51 : Ac8.eval (.tmp 51) = V1 := by rw [← hAc8]; exact ev_self Ac6 51 (V1) (by omega)
                  have szAc8 : Ac8.tmps.size = 97 := by rw [← hAc8]; exact (sz_put Ac6 51 (V1)).trans szAc6
                  have HAc8 := Lib.hid (show Ac6.put (some 51) (V1) = Ac8 from hAc8)
                  clear hAc8 szAc6 d50 d49
                  have d51 := e51
                  clear e51
                  refine wpAnyH_ready (rs := [5, 11]) (by kernel_rfl) (by simp) ?_
                  refine (AllReadyH.cons rfl (fun K hK => ?_) (AllReadyH.cons rfl (fun K hK => ?_) AllReadyH.nil))
                  · skip
                    refine wp_appB rfl rfl OW.out d51 ((HBM.out.grew G.out (fun _ h => by cases h)).byf) c2 d52 (by have := HX.out; have := HMO.out; omega) (fun V2 x8 hz g hor => hK.out _ _ (SF.out.fr (Fr.of_grew' g (F := fun i => V1.ownBlock = some i) (fun i e => e)) (own_ne OW.out SF.out (by decide))) (fun _ => ?_))
                    clear hK K
                    have fr0 := Fr.of_grew' g (F := fun i => V1.ownBlock = some i) (fun i e => e)
                    have nG := Lib.hid (grew_fr G.out fr0 (fun i e => OB.out i e))
                    have nSF := Lib.hid (SF.out.fr fr0 (own_ne OW.out SF.out (by decide)))
                    clear fr0
                    have nOB := Lib.hid (show ∀ b, V2.ownBlock = some b → W6.heap.size ≤ b from fun b hb => by
                      rcases hor with e | e
                      · rw [e] at hb; exact OB.out b hb
                      · rw [e] at hb; cases hb; exact G.out.size)
                    have nOW := Lib.hid hz
                    clear G
                    clear SF
                    clear OW
                    clear OB
                    have G := nG
                    have SF := nSF
                    have OW := nOW
                    have OB := nOB
                    clear nG nSF nOW nOB
                    clear hz g hor
                    refine act_letter (fun Ac10 hAc10 => ?_)
                    replace d48 : Ac10.eval (.tmp 48) = f.val := by rw [← hAc10]; exact (ev_ne Ac8 (m := 53) (n := 48) (V2) (by decide)).trans d48
                    have e53 : Ac10.eval (.tmp 53) = V2 := by rw [← hAc10]; exact ev_self Ac8 53 (V2) (by omega)
                    have szAc10 : Ac10.tmps.size = 97 := by rw [← hAc10]; exact (sz_put Ac8 53 (V2)).trans szAc8
                    have HAc10 := Lib.hid (show Ac8.put (some 53) (V2) = Ac10 from hAc10)
                    clear hAc10 szAc8 d52 d51
                    have d53 := e53
                    clear e53
                    refine wpAnyH_ready (rs := [6, 11]) (by kernel_rfl) (by simp) ?_
                    refine (AllReadyH.cons rfl (fun K hK => ?_) (AllReadyH.cons rfl (fun K hK => ?_) AllReadyH.nil))
                    · skip
                      have OW2 := OW.out
                      rw [HMS.out] at OW2
                      obtain ⟨A3, c3, hV2, hl3, hb3⟩ := byt_of_own OW2
                      have e53 := d53.trans hV2
                      have e48 := d48.trans (val_eq f)
                      refine wp_callG rfl rfl enter_prefix (vs := #[.agg #[.int .i64 f.k, .int .i64 f.s, .int .i64 f.l, .int .i64 f.h, .int .i64 f.t, .slice f.A f.ps.length f.c], .slice A3 ms.length c3, .int .i64 0]) (by simp only [List.map_toArray, List.map_cons, List.map_nil, e48, e53]; rfl) ((CP6.out _ G.out A3 c3 hl3 hb3).mono ?_)
                      rintro e x10 ⟨v, rfl, hv, hnf, g, hhi⟩
                      refine ⟨_, rfl, hK.out _ _ (SF.out.grew g (by simp)) (fun _ => ?_)⟩
                      clear hK K
                      have fr0 := fr_of g (F := fun _ => False)
                      have nG := Lib.hid (grew_trans G.out g)
                      have nSF := Lib.hid (SF.out.grew g (by simp))
                      clear fr0
                      clear G
                      clear SF
                      have G := nG
                      have SF := nSF
                      clear nG nSF
                      have CV := Lib.hid (show v.In x10 ∧ v.nf = R.v from ⟨hv, hnf⟩)
                      clear hv hnf g hhi
                      clear hV2 hl3 hb3 e53 e48 OW2
                      refine act_letter (fun Ac12 hAc12 => ?_)
                      have e54 : Ac12.eval (.tmp 54) = .tuple #[v.val, .int .i64 (R.n : Int), .int .i64 R.e] := by rw [← hAc12]; exact ev_self Ac10 54 (.tuple #[v.val, .int .i64 (R.n : Int), .int .i64 R.e]) (by omega)
                      have szAc12 : Ac12.tmps.size = 97 := by rw [← hAc12]; exact (sz_put Ac10 54 (.tuple #[v.val, .int .i64 (R.n : Int), .int .i64 R.e])).trans szAc10
                      have HAc12 := Lib.hid (show Ac10.put (some 54) (.tuple #[v.val, .int .i64 (R.n : Int), .int .i64 R.e]) = Ac12 from hAc12)
                      clear hAc12 szAc10 d48 d53
                      have d54 := e54
                      clear e54
                      refine wpAnyH_take (i := 7) (v := .tuple #[v.val, .int .i64 (R.n : Int), .int .i64 R.e]) rfl (by kernel_rfl) (by kernel_rfl) (by kernel_rfl) (fun _ _ _ h => h) (.inl ⟨rfl, fun w g => run_moveV rfl d54 w⟩) SF.out ?_
                      refine act_letter (fun Ac13 hAc13 => ?_)
                      have e47 : Ac13.eval (.tmp 47) = .tuple #[v.val, .int .i64 (R.n : Int), .int .i64 R.e] := by rw [← hAc13]; exact ev_self Ac12 47 (.tuple #[v.val, .int .i64 (R.n : Int), .int .i64 R.e]) (by omega)
                      have szAc13 : Ac13.tmps.size = 97 := by rw [← hAc13]; exact (sz_put Ac12 47 (.tuple #[v.val, .int .i64 (R.n : Int), .int .i64 R.e])).trans szAc12
                      have HAc13 := Lib.hid (show Ac12.put (some 47) (.tuple #[v.val, .int .i64 (R.n : Int), .int .i64 R.e]) = Ac13 from hAc13)
                      clear hAc13 szAc12 d54
                      have d47 := e47
                      clear e47
                      refine wpAnyH_take (i := 8) (v := v.val) rfl (by kernel_rfl) (by kernel_rfl) (by kernel_rfl) (fun _ _ _ h => h) (.inl ⟨rfl, fun w g => run_ext30 rfl d47 w⟩) SF.out ?_
                      refine act_letter (fun Ac14 hAc14 => ?_)
                      replace d47 : Ac14.eval (.tmp 47) = .tuple #[v.val, .int .i64 (R.n : Int), .int .i64 R.e] := by rw [← hAc14]; exact (ev_ne Ac13 (m := 55) (n := 47) (v.val) (by decide)).trans d47
                      have e55 : Ac14.eval (.tmp 55) = v.val := by rw [← hAc14]; exact ev_self Ac13 55 (v.val) (by omega)
                      have szAc14 : Ac14.tmps.size = 97 := by rw [← hAc14]; exact (sz_put Ac13 55 (v.val)).trans szAc13
                      have HAc14 := Lib.hid (show Ac13.put (some 55) (v.val) = Ac14 from hAc14)
                      clear hAc14 szAc13
                      have d55 := e55
                      clear e55
                      refine wpAnyH_take (i := 9) (v := .int .i64 (R.n : Int)) rfl (by kernel_rfl) (by kernel_rfl) (by kernel_rfl) (fun _ _ _ h => h) (.inl ⟨rfl, fun w g => run_ext31 rfl d47 w⟩) SF.out ?_
                      refine act_letter (fun Ac15 hAc15 => ?_)
                      replace d47 : Ac15.eval (.tmp 47) = .tuple #[v.val, .int .i64 (R.n : Int), .int .i64 R.e] := by rw [← hAc15]; exact (ev_ne Ac14 (m := 56) (n := 47) (.int .i64 (R.n : Int)) (by decide)).trans d47
                      replace d55 : Ac15.eval (.tmp 55) = v.val := by rw [← hAc15]; exact (ev_ne Ac14 (m := 56) (n := 55) (.int .i64 (R.n : Int)) (by decide)).trans d55
                      have e56 : Ac15.eval (.tmp 56) = .int .i64 (R.n : Int) := by rw [← hAc15]; exact ev_self Ac14 56 (.int .i64 (R.n : Int)) (by omega)
                      have szAc15 : Ac15.tmps.size = 97 := by rw [← hAc15]; exact (sz_put Ac14 56 (.int .i64 (R.n : Int))).trans szAc14
                      have HAc15 := Lib.hid (show Ac14.put (some 56) (.int .i64 (R.n : Int)) = Ac15 from hAc15)
                      clear hAc15 szAc14
                      have d56 := e56
                      clear e56
                      refine wpAnyH_take (i := 10) (v := .int .i64 R.e) rfl (by kernel_rfl) (by kernel_rfl) (by kernel_rfl) (fun _ _ _ h => h) (.inl ⟨rfl, fun w g => run_ext32 rfl d47 w⟩) SF.out ?_
                      refine act_letter (fun Ac16 hAc16 => ?_)
                      replace d47 : Ac16.eval (.tmp 47) = .tuple #[v.val, .int .i64 (R.n : Int), .int .i64 R.e] := by rw [← hAc16]; exact (ev_ne Ac15 (m := 57) (n := 47) (.int .i64 R.e) (by decide)).trans d47
                      replace d55 : Ac16.eval (.tmp 55) = v.val := by rw [← hAc16]; exact (ev_ne Ac15 (m := 57) (n := 55) (.int .i64 R.e) (by decide)).trans d55
                      replace d56 : Ac16.eval (.tmp 56) = .int .i64 (R.n : Int) := by rw [← hAc16]; exact (ev_ne Ac15 (m := 57) (n := 56) (.int .i64 R.e) (by decide)).trans d56
                      have e57 : Ac16.eval (.tmp 57) = .int .i64 R.e := by rw [← hAc16]; exact ev_self Ac15 57 (.int .i64 R.e) (by omega)
                      have szAc16 : Ac16.tmps.size = 97 := by rw [← hAc16]; exact (sz_put Ac15 57 (.int .i64 R.e)).trans szAc15
                      have HAc16 := Lib.hid (show Ac15.put (some 57) (.int .i64 R.e) = Ac16 from hAc16)
                      clear hAc16 szAc15
                      have d57 := e57
                      clear e57
                      refine wpAnyH_ready (rs := [11]) (by kernel_rfl) (by simp) ?_
                      refine (AllReadyH.cons rfl (fun K hK => ?_) AllReadyH.nil)
                      refine wp_newVq rfl rfl (fun z x16 hz g hzl => hK.out _ _ (SF.out.grew g (by simp)) (fun _ => ?_))
                      clear hK K
                      have fr0 := fr_of g (F := fun _ => False)
                      have nG := Lib.hid (grew_trans G.out g)
                      have nSF := Lib.hid (SF.out.grew g (by simp))
                      have nCV := Lib.hid (show v.In _ ∧ v.nf = R.v from ⟨CV.out.1.grew g, CV.out.2⟩)
                      clear fr0
                      have ZL := Lib.hid (show W6.heap.size ≤ z from Nat.le_trans G.out.size hzl)
                      have VO := Lib.hid (CV.out.1.offn (F := fun i => i = z) (fun i e => by subst e; exact hzl))
                      clear G
                      clear SF
                      clear CV
                      have G := nG
                      have SF := nSF
                      have CV := nCV
                      clear nG nSF nCV
                      have ZV := Lib.hid hz
                      clear hz g hzl
                      refine act_letter (fun Ac18 hAc18 => ?_)
                      replace d55 : Ac18.eval (.tmp 55) = v.val := by rw [← hAc18]; exact (ev_ne Ac16 (m := 10) (n := 55) (.pointer (some ⟨z, 0, none⟩)) (by decide)).trans d55
                      replace d56 : Ac18.eval (.tmp 56) = .int .i64 (R.n : Int) := by rw [← hAc18]; exact (ev_ne Ac16 (m := 10) (n := 56) (.pointer (some ⟨z, 0, none⟩)) (by decide)).trans d56
                      replace d57 : Ac18.eval (.tmp 57) = .int .i64 R.e := by rw [← hAc18]; exact (ev_ne Ac16 (m := 10) (n := 57) (.pointer (some ⟨z, 0, none⟩)) (by decide)).trans d57
                      have e10 : Ac18.eval (.tmp 10) = .pointer (some ⟨z, 0, none⟩) := by rw [← hAc18]; exact ev_self Ac16 10 (.pointer (some ⟨z, 0, none⟩)) (by omega)
                      have szAc18 : Ac18.tmps.size = 97 := by rw [← hAc18]; exact (sz_put Ac16 10 (.pointer (some ⟨z, 0, none⟩))).trans szAc16
                      have HAc18 := Lib.hid (show Ac16.put (some 10) (.pointer (some ⟨z, 0, none⟩)) = Ac18 from hAc18)
                      clear hAc18 szAc16 d47
                      have d10 := e10
                      clear e10
                      refine wpAnyH_ready (rs := [12]) (by kernel_rfl) (by simp) ?_
                      refine AllReadyH.cons rfl (fun K hK => ?_) AllReadyH.nil
                      have nSF := Lib.hid (show Whole (put3 x16 z (.int .u64 v.n) (.slice v.B v.bs.length v.d) (.slice v.A v.ls.length v.c)) q f.cells 24 from SF.out.fr (fr_put3 _ _ _ _ _) (fun e => Whole.ne SF.out ZV.out (by decide) e))
                      have nCV := Lib.hid (show v.In (put3 x16 z (.int .u64 v.n) (.slice v.B v.bs.length v.d) (.slice v.A v.ls.length v.c)) ∧ v.nf = R.v from ⟨In.fr2 CV.out.1 (fr_put3 _ _ _ _ _) VO.out, CV.out.2⟩)
                      have nG := Lib.hid (show Grew W6 (put3 x16 z (.int .u64 v.n) (.slice v.B v.bs.length v.d) (.slice v.A v.ls.length v.c)) none from grew_put3 G.out ZL.out _ _ _)
                      have nZV := Lib.hid (show Whole (put3 x16 z (.int .u64 v.n) (.slice v.B v.bs.length v.d) (.slice v.A v.ls.length v.c)) z v.cells 35 from ZV.out.put3 _ _ _)
                      refine wp_skipG rfl (w' := put3 x16 z (.int .u64 v.n) (.slice v.B v.bs.length v.d) (.slice v.A v.ls.length v.c)) (run_storeVa rfl d10 d55 ZV.out) (hK.out _ _ nSF.out (fun _ => ?_))
                      clear hK K
                      clear SF
                      clear CV
                      clear G
                      clear ZV
                      have SF := nSF
                      have CV := nCV
                      have G := nG
                      have ZV := nZV
                      clear nSF nCV nG nZV
                      refine act_letter (fun Ac19 hAc19 => ?_)
                      replace d55 : Ac19.eval (.tmp 55) = v.val := by rw [← hAc19]; exact d55
                      replace d56 : Ac19.eval (.tmp 56) = .int .i64 (R.n : Int) := by rw [← hAc19]; exact d56
                      replace d57 : Ac19.eval (.tmp 57) = .int .i64 R.e := by rw [← hAc19]; exact d57
                      replace d10 : Ac19.eval (.tmp 10) = .pointer (some ⟨z, 0, none⟩) := by rw [← hAc19]; exact d10
                      have szAc19 : Ac19.tmps.size = 97 := by rw [← hAc19]; exact szAc18
                      have HAc19 := Lib.hid (show Ac18 = Ac19 from hAc19)
                      clear hAc19 szAc18
                      refine wpAnyH_take (i := 13) (v := .int .i64 (R.n : Int)) rfl (by kernel_rfl) (by kernel_rfl) (by kernel_rfl) (fun _ _ _ h => h) (.inl ⟨rfl, fun w g => run_assign rfl d56 w⟩) SF.out ?_
                      refine act_letter (fun Ac20 hAc20 => ?_)
                      replace d56 : Ac20.eval (.tmp 56) = .int .i64 (R.n : Int) := by rw [← hAc20]; exact (ev_ne Ac19 (m := 11) (n := 56) (.int .i64 (R.n : Int)) (by decide)).trans d56
                      replace d57 : Ac20.eval (.tmp 57) = .int .i64 R.e := by rw [← hAc20]; exact (ev_ne Ac19 (m := 11) (n := 57) (.int .i64 (R.n : Int)) (by decide)).trans d57
                      have e11 : Ac20.eval (.tmp 11) = .int .i64 (R.n : Int) := by rw [← hAc20]; exact ev_self Ac19 11 (.int .i64 (R.n : Int)) (by omega)
                      have szAc20 : Ac20.tmps.size = 97 := by rw [← hAc20]; exact (sz_put Ac19 11 (.int .i64 (R.n : Int))).trans szAc19
                      have HAc20 := Lib.hid (show Ac19.put (some 11) (.int .i64 (R.n : Int)) = Ac20 from hAc20)
                      clear hAc20 szAc19 d55 d10
                      have d11 := e11
                      clear e11
                      refine wpAnyH_take (i := 14) (v := .int .i64 R.e) rfl (by kernel_rfl) (by kernel_rfl) (by kernel_rfl) (fun _ _ _ h => h) (.inl ⟨rfl, fun w g => run_assign rfl d57 w⟩) SF.out ?_
                      refine act_letter (fun Ac21 hAc21 => ?_)
                      replace d56 : Ac21.eval (.tmp 56) = .int .i64 (R.n : Int) := by rw [← hAc21]; exact (ev_ne Ac20 (m := 12) (n := 56) (.int .i64 R.e) (by decide)).trans d56
                      replace d57 : Ac21.eval (.tmp 57) = .int .i64 R.e := by rw [← hAc21]; exact (ev_ne Ac20 (m := 12) (n := 57) (.int .i64 R.e) (by decide)).trans d57
                      replace d11 : Ac21.eval (.tmp 11) = .int .i64 (R.n : Int) := by rw [← hAc21]; exact (ev_ne Ac20 (m := 12) (n := 11) (.int .i64 R.e) (by decide)).trans d11
                      have e12 : Ac21.eval (.tmp 12) = .int .i64 R.e := by rw [← hAc21]; exact ev_self Ac20 12 (.int .i64 R.e) (by omega)
                      have szAc21 : Ac21.tmps.size = 97 := by rw [← hAc21]; exact (sz_put Ac20 12 (.int .i64 R.e)).trans szAc20
                      have HAc21 := Lib.hid (show Ac20.put (some 12) (.int .i64 R.e) = Ac21 from hAc21)
                      clear hAc21 szAc20
                      have d12 := e12
                      clear e12
                      refine wpAnyH_done (by kernel_rfl) ?_ _
                      refine ⟨v, z, V0, V1, V2, ?_, CV.out.1, CV.out.2, ZV.out, G.out⟩
                      rw [← HAc21.out, ← HAc20.out, ← HAc19.out, ← HAc18.out, ← HAc16.out, ← HAc15.out, ← HAc14.out, ← HAc13.out, ← HAc12.out, ← HAc10.out, ← HAc8.out, ← HAc6.out, ← HAc4.out, ← HAc3.out, ← HAc2.out, ← HAc1.out]
                      try simp only [Act.put, List.setIfInBounds_toArray, List.set_cons_zero, List.set_cons_succ]
                    · skip
                      refine wp_newVq rfl rfl (fun z x21 hz g hzl => hK.out _ _ (SF.out.grew g (by simp)) (fun _ => ?_))
                      clear hK K
                      have fr0 := fr_of g (F := fun _ => False)
                      have nG := Lib.hid (grew_trans G.out g)
                      have nSF := Lib.hid (SF.out.grew g (by simp))
                      have nOW := Lib.hid (own_fr OW.out fr0 (fun _ _ h => h))
                      clear fr0
                      have ZL := Lib.hid (show W6.heap.size ≤ z from Nat.le_trans G.out.size hzl)
                      clear G
                      clear SF
                      clear OW
                      have G := nG
                      have SF := nSF
                      have OW := nOW
                      clear nG nSF nOW
                      have ZV := Lib.hid hz
                      clear hz g hzl
                      refine act_letter (fun Ac23 hAc23 => ?_)
                      replace d48 : Ac23.eval (.tmp 48) = f.val := by rw [← hAc23]; exact (ev_ne Ac10 (m := 10) (n := 48) (.pointer (some ⟨z, 0, none⟩)) (by decide)).trans d48
                      replace d53 : Ac23.eval (.tmp 53) = V2 := by rw [← hAc23]; exact (ev_ne Ac10 (m := 10) (n := 53) (.pointer (some ⟨z, 0, none⟩)) (by decide)).trans d53
                      have e10 : Ac23.eval (.tmp 10) = .pointer (some ⟨z, 0, none⟩) := by rw [← hAc23]; exact ev_self Ac10 10 (.pointer (some ⟨z, 0, none⟩)) (by omega)
                      have szAc23 : Ac23.tmps.size = 97 := by rw [← hAc23]; exact (sz_put Ac10 10 (.pointer (some ⟨z, 0, none⟩))).trans szAc10
                      have HAc23 := Lib.hid (show Ac10.put (some 10) (.pointer (some ⟨z, 0, none⟩)) = Ac23 from hAc23)
                      clear hAc23 szAc10
                      have d10 := e10
                      clear e10
                      refine wpAnyH_ready (rs := [6]) (by kernel_rfl) (by simp) ?_
                      refine (AllReadyH.cons rfl (fun K hK => ?_) AllReadyH.nil)
                      have OW2 := OW.out
                      rw [HMS.out] at OW2
                      obtain ⟨A3, c3, hV2, hl3, hb3⟩ := byt_of_own OW2
                      have e53 := d53.trans hV2
                      have e48 := d48.trans (val_eq f)
                      refine wp_callG rfl rfl enter_prefix (vs := #[.agg #[.int .i64 f.k, .int .i64 f.s, .int .i64 f.l, .int .i64 f.h, .int .i64 f.t, .slice f.A f.ps.length f.c], .slice A3 ms.length c3, .int .i64 0]) (by simp only [List.map_toArray, List.map_cons, List.map_nil, e48, e53]; rfl) ((CP6.out _ G.out A3 c3 hl3 hb3).mono ?_)
                      rintro e x23 ⟨v, rfl, hv, hnf, g, hhi⟩
                      have VO := Lib.hid (hhi.offn (F := fun i => i = z) (fun i e => by subst e; exact ZV.out.lt))
                      refine ⟨_, rfl, hK.out _ _ (SF.out.grew g (by simp)) (fun _ => ?_)⟩
                      clear hK K
                      have fr0 := fr_of g (F := fun _ => False)
                      have nG := Lib.hid (grew_trans G.out g)
                      have nSF := Lib.hid (SF.out.grew g (by simp))
                      have nZV := Lib.hid (ZV.out.grew g (by simp))
                      clear fr0
                      clear G
                      clear SF
                      clear ZV
                      have G := nG
                      have SF := nSF
                      have ZV := nZV
                      clear nG nSF nZV
                      have CV := Lib.hid (show v.In x23 ∧ v.nf = R.v from ⟨hv, hnf⟩)
                      clear hv hnf g hhi
                      clear hV2 hl3 hb3 e53 e48 OW2
                      refine act_letter (fun Ac25 hAc25 => ?_)
                      replace d10 : Ac25.eval (.tmp 10) = .pointer (some ⟨z, 0, none⟩) := by rw [← hAc25]; exact (ev_ne Ac23 (m := 54) (n := 10) (.tuple #[v.val, .int .i64 (R.n : Int), .int .i64 R.e]) (by decide)).trans d10
                      have e54 : Ac25.eval (.tmp 54) = .tuple #[v.val, .int .i64 (R.n : Int), .int .i64 R.e] := by rw [← hAc25]; exact ev_self Ac23 54 (.tuple #[v.val, .int .i64 (R.n : Int), .int .i64 R.e]) (by omega)
                      have szAc25 : Ac25.tmps.size = 97 := by rw [← hAc25]; exact (sz_put Ac23 54 (.tuple #[v.val, .int .i64 (R.n : Int), .int .i64 R.e])).trans szAc23
                      have HAc25 := Lib.hid (show Ac23.put (some 54) (.tuple #[v.val, .int .i64 (R.n : Int), .int .i64 R.e]) = Ac25 from hAc25)
                      clear hAc25 szAc23 d48 d53
                      have d54 := e54
                      clear e54
                      refine wpAnyH_take (i := 7) (v := .tuple #[v.val, .int .i64 (R.n : Int), .int .i64 R.e]) rfl (by kernel_rfl) (by kernel_rfl) (by kernel_rfl) (fun _ _ _ h => h) (.inl ⟨rfl, fun w g => run_moveV rfl d54 w⟩) SF.out ?_
                      refine act_letter (fun Ac26 hAc26 => ?_)
                      replace d10 : Ac26.eval (.tmp 10) = .pointer (some ⟨z, 0, none⟩) := by rw [← hAc26]; exact (ev_ne Ac25 (m := 47) (n := 10) (.tuple #[v.val, .int .i64 (R.n : Int), .int .i64 R.e]) (by decide)).trans d10
                      have e47 : Ac26.eval (.tmp 47) = .tuple #[v.val, .int .i64 (R.n : Int), .int .i64 R.e] := by rw [← hAc26]; exact ev_self Ac25 47 (.tuple #[v.val, .int .i64 (R.n : Int), .int .i64 R.e]) (by omega)
                      have szAc26 : Ac26.tmps.size = 97 := by rw [← hAc26]; exact (sz_put Ac25 47 (.tuple #[v.val, .int .i64 (R.n : Int), .int .i64 R.e])).trans szAc25
                      have HAc26 := Lib.hid (show Ac25.put (some 47) (.tuple #[v.val, .int .i64 (R.n : Int), .int .i64 R.e]) = Ac26 from hAc26)
                      clear hAc26 szAc25 d54
                      have d47 := e47
                      clear e47
                      refine wpAnyH_take (i := 8) (v := v.val) rfl (by kernel_rfl) (by kernel_rfl) (by kernel_rfl) (fun _ _ _ h => h) (.inl ⟨rfl, fun w g => run_ext30 rfl d47 w⟩) SF.out ?_
                      refine act_letter (fun Ac27 hAc27 => ?_)
                      replace d10 : Ac27.eval (.tmp 10) = .pointer (some ⟨z, 0, none⟩) := by rw [← hAc27]; exact (ev_ne Ac26 (m := 55) (n := 10) (v.val) (by decide)).trans d10
                      replace d47 : Ac27.eval (.tmp 47) = .tuple #[v.val, .int .i64 (R.n : Int), .int .i64 R.e] := by rw [← hAc27]; exact (ev_ne Ac26 (m := 55) (n := 47) (v.val) (by decide)).trans d47
                      have e55 : Ac27.eval (.tmp 55) = v.val := by rw [← hAc27]; exact ev_self Ac26 55 (v.val) (by omega)
                      have szAc27 : Ac27.tmps.size = 97 := by rw [← hAc27]; exact (sz_put Ac26 55 (v.val)).trans szAc26
                      have HAc27 := Lib.hid (show Ac26.put (some 55) (v.val) = Ac27 from hAc27)
                      clear hAc27 szAc26
                      have d55 := e55
                      clear e55
                      refine wpAnyH_take (i := 9) (v := .int .i64 (R.n : Int)) rfl (by kernel_rfl) (by kernel_rfl) (by kernel_rfl) (fun _ _ _ h => h) (.inl ⟨rfl, fun w g => run_ext31 rfl d47 w⟩) SF.out ?_
                      refine act_letter (fun Ac28 hAc28 => ?_)
                      replace d10 : Ac28.eval (.tmp 10) = .pointer (some ⟨z, 0, none⟩) := by rw [← hAc28]; exact (ev_ne Ac27 (m := 56) (n := 10) (.int .i64 (R.n : Int)) (by decide)).trans d10
                      replace d47 : Ac28.eval (.tmp 47) = .tuple #[v.val, .int .i64 (R.n : Int), .int .i64 R.e] := by rw [← hAc28]; exact (ev_ne Ac27 (m := 56) (n := 47) (.int .i64 (R.n : Int)) (by decide)).trans d47
                      replace d55 : Ac28.eval (.tmp 55) = v.val := by rw [← hAc28]; exact (ev_ne Ac27 (m := 56) (n := 55) (.int .i64 (R.n : Int)) (by decide)).trans d55
                      have e56 : Ac28.eval (.tmp 56) = .int .i64 (R.n : Int) := by rw [← hAc28]; exact ev_self Ac27 56 (.int .i64 (R.n : Int)) (by omega)
                      have szAc28 : Ac28.tmps.size = 97 := by rw [← hAc28]; exact (sz_put Ac27 56 (.int .i64 (R.n : Int))).trans szAc27
                      have HAc28 := Lib.hid (show Ac27.put (some 56) (.int .i64 (R.n : Int)) = Ac28 from hAc28)
                      clear hAc28 szAc27
                      have d56 := e56
                      clear e56
                      refine wpAnyH_take (i := 10) (v := .int .i64 R.e) rfl (by kernel_rfl) (by kernel_rfl) (by kernel_rfl) (fun _ _ _ h => h) (.inl ⟨rfl, fun w g => run_ext32 rfl d47 w⟩) SF.out ?_
                      refine act_letter (fun Ac29 hAc29 => ?_)
                      replace d10 : Ac29.eval (.tmp 10) = .pointer (some ⟨z, 0, none⟩) := by rw [← hAc29]; exact (ev_ne Ac28 (m := 57) (n := 10) (.int .i64 R.e) (by decide)).trans d10
                      replace d47 : Ac29.eval (.tmp 47) = .tuple #[v.val, .int .i64 (R.n : Int), .int .i64 R.e] := by rw [← hAc29]; exact (ev_ne Ac28 (m := 57) (n := 47) (.int .i64 R.e) (by decide)).trans d47
                      replace d55 : Ac29.eval (.tmp 55) = v.val := by rw [← hAc29]; exact (ev_ne Ac28 (m := 57) (n := 55) (.int .i64 R.e) (by decide)).trans d55
                      replace d56 : Ac29.eval (.tmp 56) = .int .i64 (R.n : Int) := by rw [← hAc29]; exact (ev_ne Ac28 (m := 57) (n := 56) (.int .i64 R.e) (by decide)).trans d56
                      have e57 : Ac29.eval (.tmp 57) = .int .i64 R.e := by rw [← hAc29]; exact ev_self Ac28 57 (.int .i64 R.e) (by omega)
                      have szAc29 : Ac29.tmps.size = 97 := by rw [← hAc29]; exact (sz_put Ac28 57 (.int .i64 R.e)).trans szAc28
                      have HAc29 := Lib.hid (show Ac28.put (some 57) (.int .i64 R.e) = Ac29 from hAc29)
                      clear hAc29 szAc28
                      have d57 := e57
                      clear e57
                      refine wpAnyH_ready (rs := [12]) (by kernel_rfl) (by simp) ?_
                      refine AllReadyH.cons rfl (fun K hK => ?_) AllReadyH.nil
                      have nSF := Lib.hid (show Whole (put3 x23 z (.int .u64 v.n) (.slice v.B v.bs.length v.d) (.slice v.A v.ls.length v.c)) q f.cells 24 from SF.out.fr (fr_put3 _ _ _ _ _) (fun e => Whole.ne SF.out ZV.out (by decide) e))
                      have nCV := Lib.hid (show v.In (put3 x23 z (.int .u64 v.n) (.slice v.B v.bs.length v.d) (.slice v.A v.ls.length v.c)) ∧ v.nf = R.v from ⟨In.fr2 CV.out.1 (fr_put3 _ _ _ _ _) VO.out, CV.out.2⟩)
                      have nG := Lib.hid (show Grew W6 (put3 x23 z (.int .u64 v.n) (.slice v.B v.bs.length v.d) (.slice v.A v.ls.length v.c)) none from grew_put3 G.out ZL.out _ _ _)
                      have nZV := Lib.hid (show Whole (put3 x23 z (.int .u64 v.n) (.slice v.B v.bs.length v.d) (.slice v.A v.ls.length v.c)) z v.cells 35 from ZV.out.put3 _ _ _)
                      refine wp_skipG rfl (w' := put3 x23 z (.int .u64 v.n) (.slice v.B v.bs.length v.d) (.slice v.A v.ls.length v.c)) (run_storeVa rfl d10 d55 ZV.out) (hK.out _ _ nSF.out (fun _ => ?_))
                      clear hK K
                      clear SF
                      clear CV
                      clear G
                      clear ZV
                      have SF := nSF
                      have CV := nCV
                      have G := nG
                      have ZV := nZV
                      clear nSF nCV nG nZV
                      refine act_letter (fun Ac30 hAc30 => ?_)
                      replace d10 : Ac30.eval (.tmp 10) = .pointer (some ⟨z, 0, none⟩) := by rw [← hAc30]; exact d10
                      replace d47 : Ac30.eval (.tmp 47) = .tuple #[v.val, .int .i64 (R.n : Int), .int .i64 R.e] := by rw [← hAc30]; exact d47
                      replace d55 : Ac30.eval (.tmp 55) = v.val := by rw [← hAc30]; exact d55
                      replace d56 : Ac30.eval (.tmp 56) = .int .i64 (R.n : Int) := by rw [← hAc30]; exact d56
                      replace d57 : Ac30.eval (.tmp 57) = .int .i64 R.e := by rw [← hAc30]; exact d57
                      have szAc30 : Ac30.tmps.size = 97 := by rw [← hAc30]; exact szAc29
                      have HAc30 := Lib.hid (show Ac29 = Ac30 from hAc30)
                      clear hAc30 szAc29
                      refine wpAnyH_take (i := 13) (v := .int .i64 (R.n : Int)) rfl (by kernel_rfl) (by kernel_rfl) (by kernel_rfl) (fun _ _ _ h => h) (.inl ⟨rfl, fun w g => run_assign rfl d56 w⟩) SF.out ?_
                      refine act_letter (fun Ac31 hAc31 => ?_)
                      replace d56 : Ac31.eval (.tmp 56) = .int .i64 (R.n : Int) := by rw [← hAc31]; exact (ev_ne Ac30 (m := 11) (n := 56) (.int .i64 (R.n : Int)) (by decide)).trans d56
                      replace d57 : Ac31.eval (.tmp 57) = .int .i64 R.e := by rw [← hAc31]; exact (ev_ne Ac30 (m := 11) (n := 57) (.int .i64 (R.n : Int)) (by decide)).trans d57
                      have e11 : Ac31.eval (.tmp 11) = .int .i64 (R.n : Int) := by rw [← hAc31]; exact ev_self Ac30 11 (.int .i64 (R.n : Int)) (by omega)
                      have szAc31 : Ac31.tmps.size = 97 := by rw [← hAc31]; exact (sz_put Ac30 11 (.int .i64 (R.n : Int))).trans szAc30
                      have HAc31 := Lib.hid (show Ac30.put (some 11) (.int .i64 (R.n : Int)) = Ac31 from hAc31)
                      clear hAc31 szAc30 d10 d47 d55
                      have d11 := e11
                      clear e11
                      refine wpAnyH_take (i := 14) (v := .int .i64 R.e) rfl (by kernel_rfl) (by kernel_rfl) (by kernel_rfl) (fun _ _ _ h => h) (.inl ⟨rfl, fun w g => run_assign rfl d57 w⟩) SF.out ?_
                      refine act_letter (fun Ac32 hAc32 => ?_)
                      replace d56 : Ac32.eval (.tmp 56) = .int .i64 (R.n : Int) := by rw [← hAc32]; exact (ev_ne Ac31 (m := 12) (n := 56) (.int .i64 R.e) (by decide)).trans d56
                      replace d57 : Ac32.eval (.tmp 57) = .int .i64 R.e := by rw [← hAc32]; exact (ev_ne Ac31 (m := 12) (n := 57) (.int .i64 R.e) (by decide)).trans d57
                      replace d11 : Ac32.eval (.tmp 11) = .int .i64 (R.n : Int) := by rw [← hAc32]; exact (ev_ne Ac31 (m := 12) (n := 11) (.int .i64 R.e) (by decide)).trans d11
                      have e12 : Ac32.eval (.tmp 12) = .int .i64 R.e := by rw [← hAc32]; exact ev_self Ac31 12 (.int .i64 R.e) (by omega)
                      have szAc32 : Ac32.tmps.size = 97 := by rw [← hAc32]; exact (sz_put Ac31 12 (.int .i64 R.e)).trans szAc31
                      have HAc32 := Lib.hid (show Ac31.put (some 12) (.int .i64 R.e) = Ac32 from hAc32)
                      clear hAc32 szAc31
                      have d12 := e12
                      clear e12
                      refine wpAnyH_done (by kernel_rfl) ?_ _
                      refine ⟨v, z, V0, V1, V2, ?_, CV.out.1, CV.out.2, ZV.out, G.out⟩
                      rw [← HAc32.out, ← HAc31.out, ← HAc30.out, ← HAc29.out, ← HAc28.out, ← HAc27.out, ← HAc26.out, ← HAc25.out, ← HAc23.out, ← HAc10.out, ← HAc8.out, ← HAc6.out, ← HAc4.out, ← HAc3.out, ← HAc2.out, ← HAc1.out]
                      try simp only [Act.put, List.setIfInBounds_toArray, List.set_cons_zero, List.set_cons_succ]
                  · skip
                    refine wp_newVq rfl rfl (fun z x32 hz g hzl => hK.out _ _ (SF.out.grew g (by simp)) (fun _ => ?_))
                    clear hK K
                    have fr0 := fr_of g (F := fun _ => False)
                    have nG := Lib.hid (grew_trans G.out g)
                    have nSF := Lib.hid (SF.out.grew g (by simp))
                    have nOW := Lib.hid (own_fr OW.out fr0 (fun _ _ h => h))
                    clear fr0
                    have ZL := Lib.hid (show W6.heap.size ≤ z from Nat.le_trans G.out.size hzl)
                    clear G
                    clear SF
                    clear OW
                    have G := nG
                    have SF := nSF
                    have OW := nOW
                    clear nG nSF nOW
                    have ZV := Lib.hid hz
                    clear hz g hzl
                    refine act_letter (fun Ac34 hAc34 => ?_)
                    replace d48 : Ac34.eval (.tmp 48) = f.val := by rw [← hAc34]; exact (ev_ne Ac8 (m := 10) (n := 48) (.pointer (some ⟨z, 0, none⟩)) (by decide)).trans d48
                    replace d52 : Ac34.eval (.tmp 52) = .slice A2 more.length c2 := by rw [← hAc34]; exact (ev_ne Ac8 (m := 10) (n := 52) (.pointer (some ⟨z, 0, none⟩)) (by decide)).trans d52
                    replace d51 : Ac34.eval (.tmp 51) = V1 := by rw [← hAc34]; exact (ev_ne Ac8 (m := 10) (n := 51) (.pointer (some ⟨z, 0, none⟩)) (by decide)).trans d51
                    have e10 : Ac34.eval (.tmp 10) = .pointer (some ⟨z, 0, none⟩) := by rw [← hAc34]; exact ev_self Ac8 10 (.pointer (some ⟨z, 0, none⟩)) (by omega)
                    have szAc34 : Ac34.tmps.size = 97 := by rw [← hAc34]; exact (sz_put Ac8 10 (.pointer (some ⟨z, 0, none⟩))).trans szAc8
                    have HAc34 := Lib.hid (show Ac8.put (some 10) (.pointer (some ⟨z, 0, none⟩)) = Ac34 from hAc34)
                    clear hAc34 szAc8
                    have d10 := e10
                    clear e10
                    refine wpAnyH_ready (rs := [5]) (by kernel_rfl) (by simp) ?_
                    refine (AllReadyH.cons rfl (fun K hK => ?_) AllReadyH.nil)
                    refine wp_appB rfl rfl OW.out d51 ((HBM.out.grew G.out (fun _ h => by cases h)).byf) c2 d52 (by have := HX.out; have := HMO.out; omega) (fun V2 x34 hz g hor => hK.out _ _ (SF.out.fr (Fr.of_grew' g (F := fun i => V1.ownBlock = some i) (fun i e => e)) (own_ne OW.out SF.out (by decide))) (fun _ => ?_))
                    clear hK K
                    have fr0 := Fr.of_grew' g (F := fun i => V1.ownBlock = some i) (fun i e => e)
                    have nG := Lib.hid (grew_fr G.out fr0 (fun i e => OB.out i e))
                    have nSF := Lib.hid (SF.out.fr fr0 (own_ne OW.out SF.out (by decide)))
                    have nZV := Lib.hid (ZV.out.fr fr0 (own_ne OW.out ZV.out (by decide)))
                    clear fr0
                    have nOB := Lib.hid (show ∀ b, V2.ownBlock = some b → W6.heap.size ≤ b from fun b hb => by
                      rcases hor with e | e
                      · rw [e] at hb; exact OB.out b hb
                      · rw [e] at hb; cases hb; exact G.out.size)
                    have nOW := Lib.hid hz
                    clear G
                    clear SF
                    clear ZV
                    clear OW
                    clear OB
                    have G := nG
                    have SF := nSF
                    have ZV := nZV
                    have OW := nOW
                    have OB := nOB
                    clear nG nSF nZV nOW nOB
                    clear hz g hor
                    refine act_letter (fun Ac36 hAc36 => ?_)
                    replace d48 : Ac36.eval (.tmp 48) = f.val := by rw [← hAc36]; exact (ev_ne Ac34 (m := 53) (n := 48) (V2) (by decide)).trans d48
                    replace d10 : Ac36.eval (.tmp 10) = .pointer (some ⟨z, 0, none⟩) := by rw [← hAc36]; exact (ev_ne Ac34 (m := 53) (n := 10) (V2) (by decide)).trans d10
                    have e53 : Ac36.eval (.tmp 53) = V2 := by rw [← hAc36]; exact ev_self Ac34 53 (V2) (by omega)
                    have szAc36 : Ac36.tmps.size = 97 := by rw [← hAc36]; exact (sz_put Ac34 53 (V2)).trans szAc34
                    have HAc36 := Lib.hid (show Ac34.put (some 53) (V2) = Ac36 from hAc36)
                    clear hAc36 szAc34 d52 d51
                    have d53 := e53
                    clear e53
                    refine wpAnyH_ready (rs := [6]) (by kernel_rfl) (by simp) ?_
                    refine (AllReadyH.cons rfl (fun K hK => ?_) AllReadyH.nil)
                    have OW2 := OW.out
                    rw [HMS.out] at OW2
                    obtain ⟨A3, c3, hV2, hl3, hb3⟩ := byt_of_own OW2
                    have e53 := d53.trans hV2
                    have e48 := d48.trans (val_eq f)
                    refine wp_callG rfl rfl enter_prefix (vs := #[.agg #[.int .i64 f.k, .int .i64 f.s, .int .i64 f.l, .int .i64 f.h, .int .i64 f.t, .slice f.A f.ps.length f.c], .slice A3 ms.length c3, .int .i64 0]) (by simp only [List.map_toArray, List.map_cons, List.map_nil, e48, e53]; rfl) ((CP6.out _ G.out A3 c3 hl3 hb3).mono ?_)
                    rintro e x36 ⟨v, rfl, hv, hnf, g, hhi⟩
                    have VO := Lib.hid (hhi.offn (F := fun i => i = z) (fun i e => by subst e; exact ZV.out.lt))
                    refine ⟨_, rfl, hK.out _ _ (SF.out.grew g (by simp)) (fun _ => ?_)⟩
                    clear hK K
                    have fr0 := fr_of g (F := fun _ => False)
                    have nG := Lib.hid (grew_trans G.out g)
                    have nSF := Lib.hid (SF.out.grew g (by simp))
                    have nZV := Lib.hid (ZV.out.grew g (by simp))
                    clear fr0
                    clear G
                    clear SF
                    clear ZV
                    have G := nG
                    have SF := nSF
                    have ZV := nZV
                    clear nG nSF nZV
                    have CV := Lib.hid (show v.In x36 ∧ v.nf = R.v from ⟨hv, hnf⟩)
                    clear hv hnf g hhi
                    clear hV2 hl3 hb3 e53 e48 OW2
                    refine act_letter (fun Ac38 hAc38 => ?_)
                    replace d10 : Ac38.eval (.tmp 10) = .pointer (some ⟨z, 0, none⟩) := by rw [← hAc38]; exact (ev_ne Ac36 (m := 54) (n := 10) (.tuple #[v.val, .int .i64 (R.n : Int), .int .i64 R.e]) (by decide)).trans d10
                    have e54 : Ac38.eval (.tmp 54) = .tuple #[v.val, .int .i64 (R.n : Int), .int .i64 R.e] := by rw [← hAc38]; exact ev_self Ac36 54 (.tuple #[v.val, .int .i64 (R.n : Int), .int .i64 R.e]) (by omega)
                    have szAc38 : Ac38.tmps.size = 97 := by rw [← hAc38]; exact (sz_put Ac36 54 (.tuple #[v.val, .int .i64 (R.n : Int), .int .i64 R.e])).trans szAc36
                    have HAc38 := Lib.hid (show Ac36.put (some 54) (.tuple #[v.val, .int .i64 (R.n : Int), .int .i64 R.e]) = Ac38 from hAc38)
                    clear hAc38 szAc36 d48 d53
                    have d54 := e54
                    clear e54
                    refine wpAnyH_take (i := 7) (v := .tuple #[v.val, .int .i64 (R.n : Int), .int .i64 R.e]) rfl (by kernel_rfl) (by kernel_rfl) (by kernel_rfl) (fun _ _ _ h => h) (.inl ⟨rfl, fun w g => run_moveV rfl d54 w⟩) SF.out ?_
                    refine act_letter (fun Ac39 hAc39 => ?_)
                    replace d10 : Ac39.eval (.tmp 10) = .pointer (some ⟨z, 0, none⟩) := by rw [← hAc39]; exact (ev_ne Ac38 (m := 47) (n := 10) (.tuple #[v.val, .int .i64 (R.n : Int), .int .i64 R.e]) (by decide)).trans d10
                    have e47 : Ac39.eval (.tmp 47) = .tuple #[v.val, .int .i64 (R.n : Int), .int .i64 R.e] := by rw [← hAc39]; exact ev_self Ac38 47 (.tuple #[v.val, .int .i64 (R.n : Int), .int .i64 R.e]) (by omega)
                    have szAc39 : Ac39.tmps.size = 97 := by rw [← hAc39]; exact (sz_put Ac38 47 (.tuple #[v.val, .int .i64 (R.n : Int), .int .i64 R.e])).trans szAc38
                    have HAc39 := Lib.hid (show Ac38.put (some 47) (.tuple #[v.val, .int .i64 (R.n : Int), .int .i64 R.e]) = Ac39 from hAc39)
                    clear hAc39 szAc38 d54
                    have d47 := e47
                    clear e47
                    refine wpAnyH_take (i := 8) (v := v.val) rfl (by kernel_rfl) (by kernel_rfl) (by kernel_rfl) (fun _ _ _ h => h) (.inl ⟨rfl, fun w g => run_ext30 rfl d47 w⟩) SF.out ?_
                    refine act_letter (fun Ac40 hAc40 => ?_)
                    replace d10 : Ac40.eval (.tmp 10) = .pointer (some ⟨z, 0, none⟩) := by rw [← hAc40]; exact (ev_ne Ac39 (m := 55) (n := 10) (v.val) (by decide)).trans d10
                    replace d47 : Ac40.eval (.tmp 47) = .tuple #[v.val, .int .i64 (R.n : Int), .int .i64 R.e] := by rw [← hAc40]; exact (ev_ne Ac39 (m := 55) (n := 47) (v.val) (by decide)).trans d47
                    have e55 : Ac40.eval (.tmp 55) = v.val := by rw [← hAc40]; exact ev_self Ac39 55 (v.val) (by omega)
                    have szAc40 : Ac40.tmps.size = 97 := by rw [← hAc40]; exact (sz_put Ac39 55 (v.val)).trans szAc39
                    have HAc40 := Lib.hid (show Ac39.put (some 55) (v.val) = Ac40 from hAc40)
                    clear hAc40 szAc39
                    have d55 := e55
                    clear e55
                    refine wpAnyH_take (i := 9) (v := .int .i64 (R.n : Int)) rfl (by kernel_rfl) (by kernel_rfl) (by kernel_rfl) (fun _ _ _ h => h) (.inl ⟨rfl, fun w g => run_ext31 rfl d47 w⟩) SF.out ?_
                    refine act_letter (fun Ac41 hAc41 => ?_)
                    replace d10 : Ac41.eval (.tmp 10) = .pointer (some ⟨z, 0, none⟩) := by rw [← hAc41]; exact (ev_ne Ac40 (m := 56) (n := 10) (.int .i64 (R.n : Int)) (by decide)).trans d10
                    replace d47 : Ac41.eval (.tmp 47) = .tuple #[v.val, .int .i64 (R.n : Int), .int .i64 R.e] := by rw [← hAc41]; exact (ev_ne Ac40 (m := 56) (n := 47) (.int .i64 (R.n : Int)) (by decide)).trans d47
                    replace d55 : Ac41.eval (.tmp 55) = v.val := by rw [← hAc41]; exact (ev_ne Ac40 (m := 56) (n := 55) (.int .i64 (R.n : Int)) (by decide)).trans d55
                    have e56 : Ac41.eval (.tmp 56) = .int .i64 (R.n : Int) := by rw [← hAc41]; exact ev_self Ac40 56 (.int .i64 (R.n : Int)) (by omega)
                    have szAc41 : Ac41.tmps.size = 97 := by rw [← hAc41]; exact (sz_put Ac40 56 (.int .i64 (R.n : Int))).trans szAc40
                    have HAc41 := Lib.hid (show Ac40.put (some 56) (.int .i64 (R.n : Int)) = Ac41 from hAc41)
                    clear hAc41 szAc40
                    have d56 := e56
                    clear e56
                    refine wpAnyH_take (i := 10) (v := .int .i64 R.e) rfl (by kernel_rfl) (by kernel_rfl) (by kernel_rfl) (fun _ _ _ h => h) (.inl ⟨rfl, fun w g => run_ext32 rfl d47 w⟩) SF.out ?_
                    refine act_letter (fun Ac42 hAc42 => ?_)
                    replace d10 : Ac42.eval (.tmp 10) = .pointer (some ⟨z, 0, none⟩) := by rw [← hAc42]; exact (ev_ne Ac41 (m := 57) (n := 10) (.int .i64 R.e) (by decide)).trans d10
                    replace d47 : Ac42.eval (.tmp 47) = .tuple #[v.val, .int .i64 (R.n : Int), .int .i64 R.e] := by rw [← hAc42]; exact (ev_ne Ac41 (m := 57) (n := 47) (.int .i64 R.e) (by decide)).trans d47
                    replace d55 : Ac42.eval (.tmp 55) = v.val := by rw [← hAc42]; exact (ev_ne Ac41 (m := 57) (n := 55) (.int .i64 R.e) (by decide)).trans d55
                    replace d56 : Ac42.eval (.tmp 56) = .int .i64 (R.n : Int) := by rw [← hAc42]; exact (ev_ne Ac41 (m := 57) (n := 56) (.int .i64 R.e) (by decide)).trans d56
                    have e57 : Ac42.eval (.tmp 57) = .int .i64 R.e := by rw [← hAc42]; exact ev_self Ac41 57 (.int .i64 R.e) (by omega)
                    have szAc42 : Ac42.tmps.size = 97 := by rw [← hAc42]; exact (sz_put Ac41 57 (.int .i64 R.e)).trans szAc41
                    have HAc42 := Lib.hid (show Ac41.put (some 57) (.int .i64 R.e) = Ac42 from hAc42)
                    clear hAc42 szAc41
                    have d57 := e57
                    clear e57
                    refine wpAnyH_ready (rs := [12]) (by kernel_rfl) (by simp) ?_
                    refine AllReadyH.cons rfl (fun K hK => ?_) AllReadyH.nil
                    have nSF := Lib.hid (show Whole (put3 x36 z (.int .u64 v.n) (.slice v.B v.bs.length v.d) (.slice v.A v.ls.length v.c)) q f.cells 24 from SF.out.fr (fr_put3 _ _ _ _ _) (fun e => Whole.ne SF.out ZV.out (by decide) e))
                    have nCV := Lib.hid (show v.In (put3 x36 z (.int .u64 v.n) (.slice v.B v.bs.length v.d) (.slice v.A v.ls.length v.c)) ∧ v.nf = R.v from ⟨In.fr2 CV.out.1 (fr_put3 _ _ _ _ _) VO.out, CV.out.2⟩)
                    have nG := Lib.hid (show Grew W6 (put3 x36 z (.int .u64 v.n) (.slice v.B v.bs.length v.d) (.slice v.A v.ls.length v.c)) none from grew_put3 G.out ZL.out _ _ _)
                    have nZV := Lib.hid (show Whole (put3 x36 z (.int .u64 v.n) (.slice v.B v.bs.length v.d) (.slice v.A v.ls.length v.c)) z v.cells 35 from ZV.out.put3 _ _ _)
                    refine wp_skipG rfl (w' := put3 x36 z (.int .u64 v.n) (.slice v.B v.bs.length v.d) (.slice v.A v.ls.length v.c)) (run_storeVa rfl d10 d55 ZV.out) (hK.out _ _ nSF.out (fun _ => ?_))
                    clear hK K
                    clear SF
                    clear CV
                    clear G
                    clear ZV
                    have SF := nSF
                    have CV := nCV
                    have G := nG
                    have ZV := nZV
                    clear nSF nCV nG nZV
                    refine act_letter (fun Ac43 hAc43 => ?_)
                    replace d10 : Ac43.eval (.tmp 10) = .pointer (some ⟨z, 0, none⟩) := by rw [← hAc43]; exact d10
                    replace d47 : Ac43.eval (.tmp 47) = .tuple #[v.val, .int .i64 (R.n : Int), .int .i64 R.e] := by rw [← hAc43]; exact d47
                    replace d55 : Ac43.eval (.tmp 55) = v.val := by rw [← hAc43]; exact d55
                    replace d56 : Ac43.eval (.tmp 56) = .int .i64 (R.n : Int) := by rw [← hAc43]; exact d56
                    replace d57 : Ac43.eval (.tmp 57) = .int .i64 R.e := by rw [← hAc43]; exact d57
                    have szAc43 : Ac43.tmps.size = 97 := by rw [← hAc43]; exact szAc42
                    have HAc43 := Lib.hid (show Ac42 = Ac43 from hAc43)
                    clear hAc43 szAc42
                    refine wpAnyH_take (i := 13) (v := .int .i64 (R.n : Int)) rfl (by kernel_rfl) (by kernel_rfl) (by kernel_rfl) (fun _ _ _ h => h) (.inl ⟨rfl, fun w g => run_assign rfl d56 w⟩) SF.out ?_
                    refine act_letter (fun Ac44 hAc44 => ?_)
                    replace d56 : Ac44.eval (.tmp 56) = .int .i64 (R.n : Int) := by rw [← hAc44]; exact (ev_ne Ac43 (m := 11) (n := 56) (.int .i64 (R.n : Int)) (by decide)).trans d56
                    replace d57 : Ac44.eval (.tmp 57) = .int .i64 R.e := by rw [← hAc44]; exact (ev_ne Ac43 (m := 11) (n := 57) (.int .i64 (R.n : Int)) (by decide)).trans d57
                    have e11 : Ac44.eval (.tmp 11) = .int .i64 (R.n : Int) := by rw [← hAc44]; exact ev_self Ac43 11 (.int .i64 (R.n : Int)) (by omega)
                    have szAc44 : Ac44.tmps.size = 97 := by rw [← hAc44]; exact (sz_put Ac43 11 (.int .i64 (R.n : Int))).trans szAc43
                    have HAc44 := Lib.hid (show Ac43.put (some 11) (.int .i64 (R.n : Int)) = Ac44 from hAc44)
                    clear hAc44 szAc43 d10 d47 d55
                    have d11 := e11
                    clear e11
                    refine wpAnyH_take (i := 14) (v := .int .i64 R.e) rfl (by kernel_rfl) (by kernel_rfl) (by kernel_rfl) (fun _ _ _ h => h) (.inl ⟨rfl, fun w g => run_assign rfl d57 w⟩) SF.out ?_
                    refine act_letter (fun Ac45 hAc45 => ?_)
                    replace d56 : Ac45.eval (.tmp 56) = .int .i64 (R.n : Int) := by rw [← hAc45]; exact (ev_ne Ac44 (m := 12) (n := 56) (.int .i64 R.e) (by decide)).trans d56
                    replace d57 : Ac45.eval (.tmp 57) = .int .i64 R.e := by rw [← hAc45]; exact (ev_ne Ac44 (m := 12) (n := 57) (.int .i64 R.e) (by decide)).trans d57
                    replace d11 : Ac45.eval (.tmp 11) = .int .i64 (R.n : Int) := by rw [← hAc45]; exact (ev_ne Ac44 (m := 12) (n := 11) (.int .i64 R.e) (by decide)).trans d11
                    have e12 : Ac45.eval (.tmp 12) = .int .i64 R.e := by rw [← hAc45]; exact ev_self Ac44 12 (.int .i64 R.e) (by omega)
                    have szAc45 : Ac45.tmps.size = 97 := by rw [← hAc45]; exact (sz_put Ac44 12 (.int .i64 R.e)).trans szAc44
                    have HAc45 := Lib.hid (show Ac44.put (some 12) (.int .i64 R.e) = Ac45 from hAc45)
                    clear hAc45 szAc44
                    have d12 := e12
                    clear e12
                    refine wpAnyH_done (by kernel_rfl) ?_ _
                    refine ⟨v, z, V0, V1, V2, ?_, CV.out.1, CV.out.2, ZV.out, G.out⟩
                    rw [← HAc45.out, ← HAc44.out, ← HAc43.out, ← HAc42.out, ← HAc41.out, ← HAc40.out, ← HAc39.out, ← HAc38.out, ← HAc36.out, ← HAc34.out, ← HAc8.out, ← HAc6.out, ← HAc4.out, ← HAc3.out, ← HAc2.out, ← HAc1.out]
                    try simp only [Act.put, List.setIfInBounds_toArray, List.set_cons_zero, List.set_cons_succ]
                · skip
                  refine wp_newVq rfl rfl (fun z x45 hz g hzl => hK.out _ _ (SF.out.grew g (by simp)) (fun _ => ?_))
                  clear hK K
                  have fr0 := fr_of g (F := fun _ => False)
                  have nG := Lib.hid (grew_trans G.out g)
                  have nSF := Lib.hid (SF.out.grew g (by simp))
                  have nOW := Lib.hid (own_fr OW.out fr0 (fun _ _ h => h))
                  clear fr0
                  have ZL := Lib.hid (show W6.heap.size ≤ z from Nat.le_trans G.out.size hzl)
                  clear G
                  clear SF
                  clear OW
                  have G := nG
                  have SF := nSF
                  have OW := nOW
                  clear nG nSF nOW
                  have ZV := Lib.hid hz
                  clear hz g hzl
                  refine act_letter (fun Ac47 hAc47 => ?_)
                  replace d48 : Ac47.eval (.tmp 48) = f.val := by rw [← hAc47]; exact (ev_ne Ac6 (m := 10) (n := 48) (.pointer (some ⟨z, 0, none⟩)) (by decide)).trans d48
                  replace d50 : Ac47.eval (.tmp 50) = .slice A xs.length c := by rw [← hAc47]; exact (ev_ne Ac6 (m := 10) (n := 50) (.pointer (some ⟨z, 0, none⟩)) (by decide)).trans d50
                  replace d52 : Ac47.eval (.tmp 52) = .slice A2 more.length c2 := by rw [← hAc47]; exact (ev_ne Ac6 (m := 10) (n := 52) (.pointer (some ⟨z, 0, none⟩)) (by decide)).trans d52
                  replace d49 : Ac47.eval (.tmp 49) = V0 := by rw [← hAc47]; exact (ev_ne Ac6 (m := 10) (n := 49) (.pointer (some ⟨z, 0, none⟩)) (by decide)).trans d49
                  have e10 : Ac47.eval (.tmp 10) = .pointer (some ⟨z, 0, none⟩) := by rw [← hAc47]; exact ev_self Ac6 10 (.pointer (some ⟨z, 0, none⟩)) (by omega)
                  have szAc47 : Ac47.tmps.size = 97 := by rw [← hAc47]; exact (sz_put Ac6 10 (.pointer (some ⟨z, 0, none⟩))).trans szAc6
                  have HAc47 := Lib.hid (show Ac6.put (some 10) (.pointer (some ⟨z, 0, none⟩)) = Ac47 from hAc47)
                  clear hAc47 szAc6
                  have d10 := e10
                  clear e10
                  refine wpAnyH_ready (rs := [3]) (by kernel_rfl) (by simp) ?_
                  refine (AllReadyH.cons rfl (fun K hK => ?_) AllReadyH.nil)
                  refine wp_appB rfl rfl OW.out d49 ((HBX.out.grew G.out (fun _ h => by cases h)).byf) c d50 (by have := HX.out; omega) (fun V1 x47 hz g hor => hK.out _ _ (SF.out.fr (Fr.of_grew' g (F := fun i => V0.ownBlock = some i) (fun i e => e)) (own_ne OW.out SF.out (by decide))) (fun _ => ?_))
                  clear hK K
                  have fr0 := Fr.of_grew' g (F := fun i => V0.ownBlock = some i) (fun i e => e)
                  have nG := Lib.hid (grew_fr G.out fr0 (fun i e => OB.out i e))
                  have nSF := Lib.hid (SF.out.fr fr0 (own_ne OW.out SF.out (by decide)))
                  have nZV := Lib.hid (ZV.out.fr fr0 (own_ne OW.out ZV.out (by decide)))
                  clear fr0
                  have nOB := Lib.hid (show ∀ b, V1.ownBlock = some b → W6.heap.size ≤ b from fun b hb => by
                    rcases hor with e | e
                    · rw [e] at hb; exact OB.out b hb
                    · rw [e] at hb; cases hb; exact G.out.size)
                  have nOW := Lib.hid hz
                  clear G
                  clear SF
                  clear ZV
                  clear OW
                  clear OB
                  have G := nG
                  have SF := nSF
                  have ZV := nZV
                  have OW := nOW
                  have OB := nOB
                  clear nG nSF nZV nOW nOB
                  clear hz g hor
                  refine act_letter (fun Ac49 hAc49 => ?_)
                  replace d48 : Ac49.eval (.tmp 48) = f.val := by rw [← hAc49]; exact (ev_ne Ac47 (m := 51) (n := 48) (V1) (by decide)).trans d48
                  replace d52 : Ac49.eval (.tmp 52) = .slice A2 more.length c2 := by rw [← hAc49]; exact (ev_ne Ac47 (m := 51) (n := 52) (V1) (by decide)).trans d52
                  replace d10 : Ac49.eval (.tmp 10) = .pointer (some ⟨z, 0, none⟩) := by rw [← hAc49]; exact (ev_ne Ac47 (m := 51) (n := 10) (V1) (by decide)).trans d10
                  have e51 : Ac49.eval (.tmp 51) = V1 := by rw [← hAc49]; exact ev_self Ac47 51 (V1) (by omega)
                  have szAc49 : Ac49.tmps.size = 97 := by rw [← hAc49]; exact (sz_put Ac47 51 (V1)).trans szAc47
                  have HAc49 := Lib.hid (show Ac47.put (some 51) (V1) = Ac49 from hAc49)
                  clear hAc49 szAc47 d50 d49
                  have d51 := e51
                  clear e51
                  refine wpAnyH_ready (rs := [5]) (by kernel_rfl) (by simp) ?_
                  refine (AllReadyH.cons rfl (fun K hK => ?_) AllReadyH.nil)
                  refine wp_appB rfl rfl OW.out d51 ((HBM.out.grew G.out (fun _ h => by cases h)).byf) c2 d52 (by have := HX.out; have := HMO.out; omega) (fun V2 x49 hz g hor => hK.out _ _ (SF.out.fr (Fr.of_grew' g (F := fun i => V1.ownBlock = some i) (fun i e => e)) (own_ne OW.out SF.out (by decide))) (fun _ => ?_))
                  clear hK K
                  have fr0 := Fr.of_grew' g (F := fun i => V1.ownBlock = some i) (fun i e => e)
                  have nG := Lib.hid (grew_fr G.out fr0 (fun i e => OB.out i e))
                  have nSF := Lib.hid (SF.out.fr fr0 (own_ne OW.out SF.out (by decide)))
                  have nZV := Lib.hid (ZV.out.fr fr0 (own_ne OW.out ZV.out (by decide)))
                  clear fr0
                  have nOB := Lib.hid (show ∀ b, V2.ownBlock = some b → W6.heap.size ≤ b from fun b hb => by
                    rcases hor with e | e
                    · rw [e] at hb; exact OB.out b hb
                    · rw [e] at hb; cases hb; exact G.out.size)
                  have nOW := Lib.hid hz
                  clear G
                  clear SF
                  clear ZV
                  clear OW
                  clear OB
                  have G := nG
                  have SF := nSF
                  have ZV := nZV
                  have OW := nOW
                  have OB := nOB
                  clear nG nSF nZV nOW nOB
                  clear hz g hor
                  refine act_letter (fun Ac51 hAc51 => ?_)
                  replace d48 : Ac51.eval (.tmp 48) = f.val := by rw [← hAc51]; exact (ev_ne Ac49 (m := 53) (n := 48) (V2) (by decide)).trans d48
                  replace d10 : Ac51.eval (.tmp 10) = .pointer (some ⟨z, 0, none⟩) := by rw [← hAc51]; exact (ev_ne Ac49 (m := 53) (n := 10) (V2) (by decide)).trans d10
                  have e53 : Ac51.eval (.tmp 53) = V2 := by rw [← hAc51]; exact ev_self Ac49 53 (V2) (by omega)
                  have szAc51 : Ac51.tmps.size = 97 := by rw [← hAc51]; exact (sz_put Ac49 53 (V2)).trans szAc49
                  have HAc51 := Lib.hid (show Ac49.put (some 53) (V2) = Ac51 from hAc51)
                  clear hAc51 szAc49 d52 d51
                  have d53 := e53
                  clear e53
                  refine wpAnyH_ready (rs := [6]) (by kernel_rfl) (by simp) ?_
                  refine (AllReadyH.cons rfl (fun K hK => ?_) AllReadyH.nil)
                  have OW2 := OW.out
                  rw [HMS.out] at OW2
                  obtain ⟨A3, c3, hV2, hl3, hb3⟩ := byt_of_own OW2
                  have e53 := d53.trans hV2
                  have e48 := d48.trans (val_eq f)
                  refine wp_callG rfl rfl enter_prefix (vs := #[.agg #[.int .i64 f.k, .int .i64 f.s, .int .i64 f.l, .int .i64 f.h, .int .i64 f.t, .slice f.A f.ps.length f.c], .slice A3 ms.length c3, .int .i64 0]) (by simp only [List.map_toArray, List.map_cons, List.map_nil, e48, e53]; rfl) ((CP6.out _ G.out A3 c3 hl3 hb3).mono ?_)
                  rintro e x51 ⟨v, rfl, hv, hnf, g, hhi⟩
                  have VO := Lib.hid (hhi.offn (F := fun i => i = z) (fun i e => by subst e; exact ZV.out.lt))
                  refine ⟨_, rfl, hK.out _ _ (SF.out.grew g (by simp)) (fun _ => ?_)⟩
                  clear hK K
                  have fr0 := fr_of g (F := fun _ => False)
                  have nG := Lib.hid (grew_trans G.out g)
                  have nSF := Lib.hid (SF.out.grew g (by simp))
                  have nZV := Lib.hid (ZV.out.grew g (by simp))
                  clear fr0
                  clear G
                  clear SF
                  clear ZV
                  have G := nG
                  have SF := nSF
                  have ZV := nZV
                  clear nG nSF nZV
                  have CV := Lib.hid (show v.In x51 ∧ v.nf = R.v from ⟨hv, hnf⟩)
                  clear hv hnf g hhi
                  clear hV2 hl3 hb3 e53 e48 OW2
                  refine act_letter (fun Ac53 hAc53 => ?_)
                  replace d10 : Ac53.eval (.tmp 10) = .pointer (some ⟨z, 0, none⟩) := by rw [← hAc53]; exact (ev_ne Ac51 (m := 54) (n := 10) (.tuple #[v.val, .int .i64 (R.n : Int), .int .i64 R.e]) (by decide)).trans d10
                  have e54 : Ac53.eval (.tmp 54) = .tuple #[v.val, .int .i64 (R.n : Int), .int .i64 R.e] := by rw [← hAc53]; exact ev_self Ac51 54 (.tuple #[v.val, .int .i64 (R.n : Int), .int .i64 R.e]) (by omega)
                  have szAc53 : Ac53.tmps.size = 97 := by rw [← hAc53]; exact (sz_put Ac51 54 (.tuple #[v.val, .int .i64 (R.n : Int), .int .i64 R.e])).trans szAc51
                  have HAc53 := Lib.hid (show Ac51.put (some 54) (.tuple #[v.val, .int .i64 (R.n : Int), .int .i64 R.e]) = Ac53 from hAc53)
                  clear hAc53 szAc51 d48 d53
                  have d54 := e54
                  clear e54
                  refine wpAnyH_take (i := 7) (v := .tuple #[v.val, .int .i64 (R.n : Int), .int .i64 R.e]) rfl (by kernel_rfl) (by kernel_rfl) (by kernel_rfl) (fun _ _ _ h => h) (.inl ⟨rfl, fun w g => run_moveV rfl d54 w⟩) SF.out ?_
                  refine act_letter (fun Ac54 hAc54 => ?_)
                  replace d10 : Ac54.eval (.tmp 10) = .pointer (some ⟨z, 0, none⟩) := by rw [← hAc54]; exact (ev_ne Ac53 (m := 47) (n := 10) (.tuple #[v.val, .int .i64 (R.n : Int), .int .i64 R.e]) (by decide)).trans d10
                  have e47 : Ac54.eval (.tmp 47) = .tuple #[v.val, .int .i64 (R.n : Int), .int .i64 R.e] := by rw [← hAc54]; exact ev_self Ac53 47 (.tuple #[v.val, .int .i64 (R.n : Int), .int .i64 R.e]) (by omega)
                  have szAc54 : Ac54.tmps.size = 97 := by rw [← hAc54]; exact (sz_put Ac53 47 (.tuple #[v.val, .int .i64 (R.n : Int), .int .i64 R.e])).trans szAc53
                  have HAc54 := Lib.hid (show Ac53.put (some 47) (.tuple #[v.val, .int .i64 (R.n : Int), .int .i64 R.e]) = Ac54 from hAc54)
                  clear hAc54 szAc53 d54
                  have d47 := e47
                  clear e47
                  refine wpAnyH_take (i := 8) (v := v.val) rfl (by kernel_rfl) (by kernel_rfl) (by kernel_rfl) (fun _ _ _ h => h) (.inl ⟨rfl, fun w g => run_ext30 rfl d47 w⟩) SF.out ?_
                  refine act_letter (fun Ac55 hAc55 => ?_)
                  replace d10 : Ac55.eval (.tmp 10) = .pointer (some ⟨z, 0, none⟩) := by rw [← hAc55]; exact (ev_ne Ac54 (m := 55) (n := 10) (v.val) (by decide)).trans d10
                  replace d47 : Ac55.eval (.tmp 47) = .tuple #[v.val, .int .i64 (R.n : Int), .int .i64 R.e] := by rw [← hAc55]; exact (ev_ne Ac54 (m := 55) (n := 47) (v.val) (by decide)).trans d47
                  have e55 : Ac55.eval (.tmp 55) = v.val := by rw [← hAc55]; exact ev_self Ac54 55 (v.val) (by omega)
                  have szAc55 : Ac55.tmps.size = 97 := by rw [← hAc55]; exact (sz_put Ac54 55 (v.val)).trans szAc54
                  have HAc55 := Lib.hid (show Ac54.put (some 55) (v.val) = Ac55 from hAc55)
                  clear hAc55 szAc54
                  have d55 := e55
                  clear e55
                  refine wpAnyH_take (i := 9) (v := .int .i64 (R.n : Int)) rfl (by kernel_rfl) (by kernel_rfl) (by kernel_rfl) (fun _ _ _ h => h) (.inl ⟨rfl, fun w g => run_ext31 rfl d47 w⟩) SF.out ?_
                  refine act_letter (fun Ac56 hAc56 => ?_)
                  replace d10 : Ac56.eval (.tmp 10) = .pointer (some ⟨z, 0, none⟩) := by rw [← hAc56]; exact (ev_ne Ac55 (m := 56) (n := 10) (.int .i64 (R.n : Int)) (by decide)).trans d10
                  replace d47 : Ac56.eval (.tmp 47) = .tuple #[v.val, .int .i64 (R.n : Int), .int .i64 R.e] := by rw [← hAc56]; exact (ev_ne Ac55 (m := 56) (n := 47) (.int .i64 (R.n : Int)) (by decide)).trans d47
                  replace d55 : Ac56.eval (.tmp 55) = v.val := by rw [← hAc56]; exact (ev_ne Ac55 (m := 56) (n := 55) (.int .i64 (R.n : Int)) (by decide)).trans d55
                  have e56 : Ac56.eval (.tmp 56) = .int .i64 (R.n : Int) := by rw [← hAc56]; exact ev_self Ac55 56 (.int .i64 (R.n : Int)) (by omega)
                  have szAc56 : Ac56.tmps.size = 97 := by rw [← hAc56]; exact (sz_put Ac55 56 (.int .i64 (R.n : Int))).trans szAc55
                  have HAc56 := Lib.hid (show Ac55.put (some 56) (.int .i64 (R.n : Int)) = Ac56 from hAc56)
                  clear hAc56 szAc55
                  have d56 := e56
                  clear e56
                  refine wpAnyH_take (i := 10) (v := .int .i64 R.e) rfl (by kernel_rfl) (by kernel_rfl) (by kernel_rfl) (fun _ _ _ h => h) (.inl ⟨rfl, fun w g => run_ext32 rfl d47 w⟩) SF.out ?_
                  refine act_letter (fun Ac57 hAc57 => ?_)
                  replace d10 : Ac57.eval (.tmp 10) = .pointer (some ⟨z, 0, none⟩) := by rw [← hAc57]; exact (ev_ne Ac56 (m := 57) (n := 10) (.int .i64 R.e) (by decide)).trans d10
                  replace d47 : Ac57.eval (.tmp 47) = .tuple #[v.val, .int .i64 (R.n : Int), .int .i64 R.e] := by rw [← hAc57]; exact (ev_ne Ac56 (m := 57) (n := 47) (.int .i64 R.e) (by decide)).trans d47
                  replace d55 : Ac57.eval (.tmp 55) = v.val := by rw [← hAc57]; exact (ev_ne Ac56 (m := 57) (n := 55) (.int .i64 R.e) (by decide)).trans d55
                  replace d56 : Ac57.eval (.tmp 56) = .int .i64 (R.n : Int) := by rw [← hAc57]; exact (ev_ne Ac56 (m := 57) (n := 56) (.int .i64 R.e) (by decide)).trans d56
                  have e57 : Ac57.eval (.tmp 57) = .int .i64 R.e := by rw [← hAc57]; exact ev_self Ac56 57 (.int .i64 R.e) (by omega)
                  have szAc57 : Ac57.tmps.size = 97 := by rw [← hAc57]; exact (sz_put Ac56 57 (.int .i64 R.e)).trans szAc56
                  have HAc57 := Lib.hid (show Ac56.put (some 57) (.int .i64 R.e) = Ac57 from hAc57)
                  clear hAc57 szAc56
                  have d57 := e57
                  clear e57
                  refine wpAnyH_ready (rs := [12]) (by kernel_rfl) (by simp) ?_
                  refine AllReadyH.cons rfl (fun K hK => ?_) AllReadyH.nil
                  have nSF := Lib.hid (show Whole (put3 x51 z (.int .u64 v.n) (.slice v.B v.bs.length v.d) (.slice v.A v.ls.length v.c)) q f.cells 24 from SF.out.fr (fr_put3 _ _ _ _ _) (fun e => Whole.ne SF.out ZV.out (by decide) e))
                  have nCV := Lib.hid (show v.In (put3 x51 z (.int .u64 v.n) (.slice v.B v.bs.length v.d) (.slice v.A v.ls.length v.c)) ∧ v.nf = R.v from ⟨In.fr2 CV.out.1 (fr_put3 _ _ _ _ _) VO.out, CV.out.2⟩)
                  have nG := Lib.hid (show Grew W6 (put3 x51 z (.int .u64 v.n) (.slice v.B v.bs.length v.d) (.slice v.A v.ls.length v.c)) none from grew_put3 G.out ZL.out _ _ _)
                  have nZV := Lib.hid (show Whole (put3 x51 z (.int .u64 v.n) (.slice v.B v.bs.length v.d) (.slice v.A v.ls.length v.c)) z v.cells 35 from ZV.out.put3 _ _ _)
                  refine wp_skipG rfl (w' := put3 x51 z (.int .u64 v.n) (.slice v.B v.bs.length v.d) (.slice v.A v.ls.length v.c)) (run_storeVa rfl d10 d55 ZV.out) (hK.out _ _ nSF.out (fun _ => ?_))
                  clear hK K
                  clear SF
                  clear CV
                  clear G
                  clear ZV
                  have SF := nSF
                  have CV := nCV
                  have G := nG
                  have ZV := nZV
                  clear nSF nCV nG nZV
                  refine act_letter (fun Ac58 hAc58 => ?_)
                  replace d10 : Ac58.eval (.tmp 10) = .pointer (some ⟨z, 0, none⟩) := by rw [← hAc58]; exact d10
                  replace d47 : Ac58.eval (.tmp 47) = .tuple #[v.val, .int .i64 (R.n : Int), .int .i64 R.e] := by rw [← hAc58]; exact d47
                  replace d55 : Ac58.eval (.tmp 55) = v.val := by rw [← hAc58]; exact d55
                  replace d56 : Ac58.eval (.tmp 56) = .int .i64 (R.n : Int) := by rw [← hAc58]; exact d56
                  replace d57 : Ac58.eval (.tmp 57) = .int .i64 R.e := by rw [← hAc58]; exact d57
                  have szAc58 : Ac58.tmps.size = 97 := by rw [← hAc58]; exact szAc57
                  have HAc58 := Lib.hid (show Ac57 = Ac58 from hAc58)
                  clear hAc58 szAc57
                  refine wpAnyH_take (i := 13) (v := .int .i64 (R.n : Int)) rfl (by kernel_rfl) (by kernel_rfl) (by kernel_rfl) (fun _ _ _ h => h) (.inl ⟨rfl, fun w g => run_assign rfl d56 w⟩) SF.out ?_
                  refine act_letter (fun Ac59 hAc59 => ?_)
                  replace d56 : Ac59.eval (.tmp 56) = .int .i64 (R.n : Int) := by rw [← hAc59]; exact (ev_ne Ac58 (m := 11) (n := 56) (.int .i64 (R.n : Int)) (by decide)).trans d56
                  replace d57 : Ac59.eval (.tmp 57) = .int .i64 R.e := by rw [← hAc59]; exact (ev_ne Ac58 (m := 11) (n := 57) (.int .i64 (R.n : Int)) (by decide)).trans d57
                  have e11 : Ac59.eval (.tmp 11) = .int .i64 (R.n : Int) := by rw [← hAc59]; exact ev_self Ac58 11 (.int .i64 (R.n : Int)) (by omega)
                  have szAc59 : Ac59.tmps.size = 97 := by rw [← hAc59]; exact (sz_put Ac58 11 (.int .i64 (R.n : Int))).trans szAc58
                  have HAc59 := Lib.hid (show Ac58.put (some 11) (.int .i64 (R.n : Int)) = Ac59 from hAc59)
                  clear hAc59 szAc58 d10 d47 d55
                  have d11 := e11
                  clear e11
                  refine wpAnyH_take (i := 14) (v := .int .i64 R.e) rfl (by kernel_rfl) (by kernel_rfl) (by kernel_rfl) (fun _ _ _ h => h) (.inl ⟨rfl, fun w g => run_assign rfl d57 w⟩) SF.out ?_
                  refine act_letter (fun Ac60 hAc60 => ?_)
                  replace d56 : Ac60.eval (.tmp 56) = .int .i64 (R.n : Int) := by rw [← hAc60]; exact (ev_ne Ac59 (m := 12) (n := 56) (.int .i64 R.e) (by decide)).trans d56
                  replace d57 : Ac60.eval (.tmp 57) = .int .i64 R.e := by rw [← hAc60]; exact (ev_ne Ac59 (m := 12) (n := 57) (.int .i64 R.e) (by decide)).trans d57
                  replace d11 : Ac60.eval (.tmp 11) = .int .i64 (R.n : Int) := by rw [← hAc60]; exact (ev_ne Ac59 (m := 12) (n := 11) (.int .i64 R.e) (by decide)).trans d11
                  have e12 : Ac60.eval (.tmp 12) = .int .i64 R.e := by rw [← hAc60]; exact ev_self Ac59 12 (.int .i64 R.e) (by omega)
                  have szAc60 : Ac60.tmps.size = 97 := by rw [← hAc60]; exact (sz_put Ac59 12 (.int .i64 R.e)).trans szAc59
                  have HAc60 := Lib.hid (show Ac59.put (some 12) (.int .i64 R.e) = Ac60 from hAc60)
                  clear hAc60 szAc59
                  have d12 := e12
                  clear e12
                  refine wpAnyH_done (by kernel_rfl) ?_ _
                  refine ⟨v, z, V0, V1, V2, ?_, CV.out.1, CV.out.2, ZV.out, G.out⟩
                  rw [← HAc60.out, ← HAc59.out, ← HAc58.out, ← HAc57.out, ← HAc56.out, ← HAc55.out, ← HAc54.out, ← HAc53.out, ← HAc51.out, ← HAc49.out, ← HAc47.out, ← HAc6.out, ← HAc4.out, ← HAc3.out, ← HAc2.out, ← HAc1.out]
                  try simp only [Act.put, List.setIfInBounds_toArray, List.set_cons_zero, List.set_cons_succ]
              · skip
                refine wp_newVq rfl rfl (fun z x60 hz g hzl => hK.out _ _ (SF.out.grew g (by simp)) (fun _ => ?_))
                clear hK K
                have fr0 := fr_of g (F := fun _ => False)
                have nG := Lib.hid (grew_trans G.out g)
                have nSF := Lib.hid (SF.out.grew g (by simp))
                clear fr0
                have ZL := Lib.hid (show W6.heap.size ≤ z from Nat.le_trans G.out.size hzl)
                clear G
                clear SF
                have G := nG
                have SF := nSF
                clear nG nSF
                have ZV := Lib.hid hz
                clear hz g hzl
                refine act_letter (fun Ac62 hAc62 => ?_)
                replace d48 : Ac62.eval (.tmp 48) = f.val := by rw [← hAc62]; exact (ev_ne Ac4 (m := 10) (n := 48) (.pointer (some ⟨z, 0, none⟩)) (by decide)).trans d48
                replace d50 : Ac62.eval (.tmp 50) = .slice A xs.length c := by rw [← hAc62]; exact (ev_ne Ac4 (m := 10) (n := 50) (.pointer (some ⟨z, 0, none⟩)) (by decide)).trans d50
                replace d52 : Ac62.eval (.tmp 52) = .slice A2 more.length c2 := by rw [← hAc62]; exact (ev_ne Ac4 (m := 10) (n := 52) (.pointer (some ⟨z, 0, none⟩)) (by decide)).trans d52
                have e10 : Ac62.eval (.tmp 10) = .pointer (some ⟨z, 0, none⟩) := by rw [← hAc62]; exact ev_self Ac4 10 (.pointer (some ⟨z, 0, none⟩)) (by omega)
                have szAc62 : Ac62.tmps.size = 97 := by rw [← hAc62]; exact (sz_put Ac4 10 (.pointer (some ⟨z, 0, none⟩))).trans szAc4
                have HAc62 := Lib.hid (show Ac4.put (some 10) (.pointer (some ⟨z, 0, none⟩)) = Ac62 from hAc62)
                clear hAc62 szAc4 d1 d2 d3
                have d10 := e10
                clear e10
                refine wpAnyH_ready (rs := [1]) (by kernel_rfl) (by simp) ?_
                refine (AllReadyH.cons rfl (fun K hK => ?_) AllReadyH.nil)
                refine wp_new0 rfl rfl (fun V0 x62 hz g hzl => hK.out _ _ (SF.out.grew g (by simp)) (fun _ => ?_))
                clear hK K
                have fr0 := fr_of g (F := fun _ => False)
                have nG := Lib.hid (grew_trans G.out g)
                have nSF := Lib.hid (SF.out.grew g (by simp))
                have nZV := Lib.hid (ZV.out.grew g (by simp))
                clear fr0
                have OB := Lib.hid (show ∀ b, V0.ownBlock = some b → W6.heap.size ≤ b from fun b hb => Nat.le_trans G.out.size (hzl b hb))
                clear G
                clear SF
                clear ZV
                have G := nG
                have SF := nSF
                have ZV := nZV
                clear nG nSF nZV
                have OW := Lib.hid hz
                clear hz g hzl
                refine act_letter (fun Ac64 hAc64 => ?_)
                replace d48 : Ac64.eval (.tmp 48) = f.val := by rw [← hAc64]; exact (ev_ne Ac62 (m := 49) (n := 48) (V0) (by decide)).trans d48
                replace d50 : Ac64.eval (.tmp 50) = .slice A xs.length c := by rw [← hAc64]; exact (ev_ne Ac62 (m := 49) (n := 50) (V0) (by decide)).trans d50
                replace d52 : Ac64.eval (.tmp 52) = .slice A2 more.length c2 := by rw [← hAc64]; exact (ev_ne Ac62 (m := 49) (n := 52) (V0) (by decide)).trans d52
                replace d10 : Ac64.eval (.tmp 10) = .pointer (some ⟨z, 0, none⟩) := by rw [← hAc64]; exact (ev_ne Ac62 (m := 49) (n := 10) (V0) (by decide)).trans d10
                have e49 : Ac64.eval (.tmp 49) = V0 := by rw [← hAc64]; exact ev_self Ac62 49 (V0) (by omega)
                have szAc64 : Ac64.tmps.size = 97 := by rw [← hAc64]; exact (sz_put Ac62 49 (V0)).trans szAc62
                have HAc64 := Lib.hid (show Ac62.put (some 49) (V0) = Ac64 from hAc64)
                clear hAc64 szAc62
                have d49 := e49
                clear e49
                refine wpAnyH_ready (rs := [3]) (by kernel_rfl) (by simp) ?_
                refine (AllReadyH.cons rfl (fun K hK => ?_) AllReadyH.nil)
                refine wp_appB rfl rfl OW.out d49 ((HBX.out.grew G.out (fun _ h => by cases h)).byf) c d50 (by have := HX.out; omega) (fun V1 x64 hz g hor => hK.out _ _ (SF.out.fr (Fr.of_grew' g (F := fun i => V0.ownBlock = some i) (fun i e => e)) (own_ne OW.out SF.out (by decide))) (fun _ => ?_))
                clear hK K
                have fr0 := Fr.of_grew' g (F := fun i => V0.ownBlock = some i) (fun i e => e)
                have nG := Lib.hid (grew_fr G.out fr0 (fun i e => OB.out i e))
                have nSF := Lib.hid (SF.out.fr fr0 (own_ne OW.out SF.out (by decide)))
                have nZV := Lib.hid (ZV.out.fr fr0 (own_ne OW.out ZV.out (by decide)))
                clear fr0
                have nOB := Lib.hid (show ∀ b, V1.ownBlock = some b → W6.heap.size ≤ b from fun b hb => by
                  rcases hor with e | e
                  · rw [e] at hb; exact OB.out b hb
                  · rw [e] at hb; cases hb; exact G.out.size)
                have nOW := Lib.hid hz
                clear G
                clear SF
                clear ZV
                clear OW
                clear OB
                have G := nG
                have SF := nSF
                have ZV := nZV
                have OW := nOW
                have OB := nOB
                clear nG nSF nZV nOW nOB
                clear hz g hor
                refine act_letter (fun Ac66 hAc66 => ?_)
                replace d48 : Ac66.eval (.tmp 48) = f.val := by rw [← hAc66]; exact (ev_ne Ac64 (m := 51) (n := 48) (V1) (by decide)).trans d48
                replace d52 : Ac66.eval (.tmp 52) = .slice A2 more.length c2 := by rw [← hAc66]; exact (ev_ne Ac64 (m := 51) (n := 52) (V1) (by decide)).trans d52
                replace d10 : Ac66.eval (.tmp 10) = .pointer (some ⟨z, 0, none⟩) := by rw [← hAc66]; exact (ev_ne Ac64 (m := 51) (n := 10) (V1) (by decide)).trans d10
                have e51 : Ac66.eval (.tmp 51) = V1 := by rw [← hAc66]; exact ev_self Ac64 51 (V1) (by omega)
                have szAc66 : Ac66.tmps.size = 97 := by rw [← hAc66]; exact (sz_put Ac64 51 (V1)).trans szAc64
                have HAc66 := Lib.hid (show Ac64.put (some 51) (V1) = Ac66 from hAc66)
                clear hAc66 szAc64 d50 d49
                have d51 := e51
                clear e51
                refine wpAnyH_ready (rs := [5]) (by kernel_rfl) (by simp) ?_
                refine (AllReadyH.cons rfl (fun K hK => ?_) AllReadyH.nil)
                refine wp_appB rfl rfl OW.out d51 ((HBM.out.grew G.out (fun _ h => by cases h)).byf) c2 d52 (by have := HX.out; have := HMO.out; omega) (fun V2 x66 hz g hor => hK.out _ _ (SF.out.fr (Fr.of_grew' g (F := fun i => V1.ownBlock = some i) (fun i e => e)) (own_ne OW.out SF.out (by decide))) (fun _ => ?_))
                clear hK K
                have fr0 := Fr.of_grew' g (F := fun i => V1.ownBlock = some i) (fun i e => e)
                have nG := Lib.hid (grew_fr G.out fr0 (fun i e => OB.out i e))
                have nSF := Lib.hid (SF.out.fr fr0 (own_ne OW.out SF.out (by decide)))
                have nZV := Lib.hid (ZV.out.fr fr0 (own_ne OW.out ZV.out (by decide)))
                clear fr0
                have nOB := Lib.hid (show ∀ b, V2.ownBlock = some b → W6.heap.size ≤ b from fun b hb => by
                  rcases hor with e | e
                  · rw [e] at hb; exact OB.out b hb
                  · rw [e] at hb; cases hb; exact G.out.size)
                have nOW := Lib.hid hz
                clear G
                clear SF
                clear ZV
                clear OW
                clear OB
                have G := nG
                have SF := nSF
                have ZV := nZV
                have OW := nOW
                have OB := nOB
                clear nG nSF nZV nOW nOB
                clear hz g hor
                refine act_letter (fun Ac68 hAc68 => ?_)
                replace d48 : Ac68.eval (.tmp 48) = f.val := by rw [← hAc68]; exact (ev_ne Ac66 (m := 53) (n := 48) (V2) (by decide)).trans d48
                replace d10 : Ac68.eval (.tmp 10) = .pointer (some ⟨z, 0, none⟩) := by rw [← hAc68]; exact (ev_ne Ac66 (m := 53) (n := 10) (V2) (by decide)).trans d10
                have e53 : Ac68.eval (.tmp 53) = V2 := by rw [← hAc68]; exact ev_self Ac66 53 (V2) (by omega)
                have szAc68 : Ac68.tmps.size = 97 := by rw [← hAc68]; exact (sz_put Ac66 53 (V2)).trans szAc66
                have HAc68 := Lib.hid (show Ac66.put (some 53) (V2) = Ac68 from hAc68)
                clear hAc68 szAc66 d52 d51
                have d53 := e53
                clear e53
                refine wpAnyH_ready (rs := [6]) (by kernel_rfl) (by simp) ?_
                refine (AllReadyH.cons rfl (fun K hK => ?_) AllReadyH.nil)
                have OW2 := OW.out
                rw [HMS.out] at OW2
                obtain ⟨A3, c3, hV2, hl3, hb3⟩ := byt_of_own OW2
                have e53 := d53.trans hV2
                have e48 := d48.trans (val_eq f)
                refine wp_callG rfl rfl enter_prefix (vs := #[.agg #[.int .i64 f.k, .int .i64 f.s, .int .i64 f.l, .int .i64 f.h, .int .i64 f.t, .slice f.A f.ps.length f.c], .slice A3 ms.length c3, .int .i64 0]) (by simp only [List.map_toArray, List.map_cons, List.map_nil, e48, e53]; rfl) ((CP6.out _ G.out A3 c3 hl3 hb3).mono ?_)
                rintro e x68 ⟨v, rfl, hv, hnf, g, hhi⟩
                have VO := Lib.hid (hhi.offn (F := fun i => i = z) (fun i e => by subst e; exact ZV.out.lt))
                refine ⟨_, rfl, hK.out _ _ (SF.out.grew g (by simp)) (fun _ => ?_)⟩
                clear hK K
                have fr0 := fr_of g (F := fun _ => False)
                have nG := Lib.hid (grew_trans G.out g)
                have nSF := Lib.hid (SF.out.grew g (by simp))
                have nZV := Lib.hid (ZV.out.grew g (by simp))
                clear fr0
                clear G
                clear SF
                clear ZV
                have G := nG
                have SF := nSF
                have ZV := nZV
                clear nG nSF nZV
                have CV := Lib.hid (show v.In x68 ∧ v.nf = R.v from ⟨hv, hnf⟩)
                clear hv hnf g hhi
                clear hV2 hl3 hb3 e53 e48 OW2
                refine act_letter (fun Ac70 hAc70 => ?_)
                replace d10 : Ac70.eval (.tmp 10) = .pointer (some ⟨z, 0, none⟩) := by rw [← hAc70]; exact (ev_ne Ac68 (m := 54) (n := 10) (.tuple #[v.val, .int .i64 (R.n : Int), .int .i64 R.e]) (by decide)).trans d10
                have e54 : Ac70.eval (.tmp 54) = .tuple #[v.val, .int .i64 (R.n : Int), .int .i64 R.e] := by rw [← hAc70]; exact ev_self Ac68 54 (.tuple #[v.val, .int .i64 (R.n : Int), .int .i64 R.e]) (by omega)
                have szAc70 : Ac70.tmps.size = 97 := by rw [← hAc70]; exact (sz_put Ac68 54 (.tuple #[v.val, .int .i64 (R.n : Int), .int .i64 R.e])).trans szAc68
                have HAc70 := Lib.hid (show Ac68.put (some 54) (.tuple #[v.val, .int .i64 (R.n : Int), .int .i64 R.e]) = Ac70 from hAc70)
                clear hAc70 szAc68 d48 d53
                have d54 := e54
                clear e54
                refine wpAnyH_take (i := 7) (v := .tuple #[v.val, .int .i64 (R.n : Int), .int .i64 R.e]) rfl (by kernel_rfl) (by kernel_rfl) (by kernel_rfl) (fun _ _ _ h => h) (.inl ⟨rfl, fun w g => run_moveV rfl d54 w⟩) SF.out ?_
                refine act_letter (fun Ac71 hAc71 => ?_)
                replace d10 : Ac71.eval (.tmp 10) = .pointer (some ⟨z, 0, none⟩) := by rw [← hAc71]; exact (ev_ne Ac70 (m := 47) (n := 10) (.tuple #[v.val, .int .i64 (R.n : Int), .int .i64 R.e]) (by decide)).trans d10
                have e47 : Ac71.eval (.tmp 47) = .tuple #[v.val, .int .i64 (R.n : Int), .int .i64 R.e] := by rw [← hAc71]; exact ev_self Ac70 47 (.tuple #[v.val, .int .i64 (R.n : Int), .int .i64 R.e]) (by omega)
                have szAc71 : Ac71.tmps.size = 97 := by rw [← hAc71]; exact (sz_put Ac70 47 (.tuple #[v.val, .int .i64 (R.n : Int), .int .i64 R.e])).trans szAc70
                have HAc71 := Lib.hid (show Ac70.put (some 47) (.tuple #[v.val, .int .i64 (R.n : Int), .int .i64 R.e]) = Ac71 from hAc71)
                clear hAc71 szAc70 d54
                have d47 := e47
                clear e47
                refine wpAnyH_take (i := 8) (v := v.val) rfl (by kernel_rfl) (by kernel_rfl) (by kernel_rfl) (fun _ _ _ h => h) (.inl ⟨rfl, fun w g => run_ext30 rfl d47 w⟩) SF.out ?_
                refine act_letter (fun Ac72 hAc72 => ?_)
                replace d10 : Ac72.eval (.tmp 10) = .pointer (some ⟨z, 0, none⟩) := by rw [← hAc72]; exact (ev_ne Ac71 (m := 55) (n := 10) (v.val) (by decide)).trans d10
                replace d47 : Ac72.eval (.tmp 47) = .tuple #[v.val, .int .i64 (R.n : Int), .int .i64 R.e] := by rw [← hAc72]; exact (ev_ne Ac71 (m := 55) (n := 47) (v.val) (by decide)).trans d47
                have e55 : Ac72.eval (.tmp 55) = v.val := by rw [← hAc72]; exact ev_self Ac71 55 (v.val) (by omega)
                have szAc72 : Ac72.tmps.size = 97 := by rw [← hAc72]; exact (sz_put Ac71 55 (v.val)).trans szAc71
                have HAc72 := Lib.hid (show Ac71.put (some 55) (v.val) = Ac72 from hAc72)
                clear hAc72 szAc71
                have d55 := e55
                clear e55
                refine wpAnyH_take (i := 9) (v := .int .i64 (R.n : Int)) rfl (by kernel_rfl) (by kernel_rfl) (by kernel_rfl) (fun _ _ _ h => h) (.inl ⟨rfl, fun w g => run_ext31 rfl d47 w⟩) SF.out ?_
                refine act_letter (fun Ac73 hAc73 => ?_)
                replace d10 : Ac73.eval (.tmp 10) = .pointer (some ⟨z, 0, none⟩) := by rw [← hAc73]; exact (ev_ne Ac72 (m := 56) (n := 10) (.int .i64 (R.n : Int)) (by decide)).trans d10
                replace d47 : Ac73.eval (.tmp 47) = .tuple #[v.val, .int .i64 (R.n : Int), .int .i64 R.e] := by rw [← hAc73]; exact (ev_ne Ac72 (m := 56) (n := 47) (.int .i64 (R.n : Int)) (by decide)).trans d47
                replace d55 : Ac73.eval (.tmp 55) = v.val := by rw [← hAc73]; exact (ev_ne Ac72 (m := 56) (n := 55) (.int .i64 (R.n : Int)) (by decide)).trans d55
                have e56 : Ac73.eval (.tmp 56) = .int .i64 (R.n : Int) := by rw [← hAc73]; exact ev_self Ac72 56 (.int .i64 (R.n : Int)) (by omega)
                have szAc73 : Ac73.tmps.size = 97 := by rw [← hAc73]; exact (sz_put Ac72 56 (.int .i64 (R.n : Int))).trans szAc72
                have HAc73 := Lib.hid (show Ac72.put (some 56) (.int .i64 (R.n : Int)) = Ac73 from hAc73)
                clear hAc73 szAc72
                have d56 := e56
                clear e56
                refine wpAnyH_take (i := 10) (v := .int .i64 R.e) rfl (by kernel_rfl) (by kernel_rfl) (by kernel_rfl) (fun _ _ _ h => h) (.inl ⟨rfl, fun w g => run_ext32 rfl d47 w⟩) SF.out ?_
                refine act_letter (fun Ac74 hAc74 => ?_)
                replace d10 : Ac74.eval (.tmp 10) = .pointer (some ⟨z, 0, none⟩) := by rw [← hAc74]; exact (ev_ne Ac73 (m := 57) (n := 10) (.int .i64 R.e) (by decide)).trans d10
                replace d47 : Ac74.eval (.tmp 47) = .tuple #[v.val, .int .i64 (R.n : Int), .int .i64 R.e] := by rw [← hAc74]; exact (ev_ne Ac73 (m := 57) (n := 47) (.int .i64 R.e) (by decide)).trans d47
                replace d55 : Ac74.eval (.tmp 55) = v.val := by rw [← hAc74]; exact (ev_ne Ac73 (m := 57) (n := 55) (.int .i64 R.e) (by decide)).trans d55
                replace d56 : Ac74.eval (.tmp 56) = .int .i64 (R.n : Int) := by rw [← hAc74]; exact (ev_ne Ac73 (m := 57) (n := 56) (.int .i64 R.e) (by decide)).trans d56
                have e57 : Ac74.eval (.tmp 57) = .int .i64 R.e := by rw [← hAc74]; exact ev_self Ac73 57 (.int .i64 R.e) (by omega)
                have szAc74 : Ac74.tmps.size = 97 := by rw [← hAc74]; exact (sz_put Ac73 57 (.int .i64 R.e)).trans szAc73
                have HAc74 := Lib.hid (show Ac73.put (some 57) (.int .i64 R.e) = Ac74 from hAc74)
                clear hAc74 szAc73
                have d57 := e57
                clear e57
                refine wpAnyH_ready (rs := [12]) (by kernel_rfl) (by simp) ?_
                refine AllReadyH.cons rfl (fun K hK => ?_) AllReadyH.nil
                have nSF := Lib.hid (show Whole (put3 x68 z (.int .u64 v.n) (.slice v.B v.bs.length v.d) (.slice v.A v.ls.length v.c)) q f.cells 24 from SF.out.fr (fr_put3 _ _ _ _ _) (fun e => Whole.ne SF.out ZV.out (by decide) e))
                have nCV := Lib.hid (show v.In (put3 x68 z (.int .u64 v.n) (.slice v.B v.bs.length v.d) (.slice v.A v.ls.length v.c)) ∧ v.nf = R.v from ⟨In.fr2 CV.out.1 (fr_put3 _ _ _ _ _) VO.out, CV.out.2⟩)
                have nG := Lib.hid (show Grew W6 (put3 x68 z (.int .u64 v.n) (.slice v.B v.bs.length v.d) (.slice v.A v.ls.length v.c)) none from grew_put3 G.out ZL.out _ _ _)
                have nZV := Lib.hid (show Whole (put3 x68 z (.int .u64 v.n) (.slice v.B v.bs.length v.d) (.slice v.A v.ls.length v.c)) z v.cells 35 from ZV.out.put3 _ _ _)
                refine wp_skipG rfl (w' := put3 x68 z (.int .u64 v.n) (.slice v.B v.bs.length v.d) (.slice v.A v.ls.length v.c)) (run_storeVa rfl d10 d55 ZV.out) (hK.out _ _ nSF.out (fun _ => ?_))
                clear hK K
                clear SF
                clear CV
                clear G
                clear ZV
                have SF := nSF
                have CV := nCV
                have G := nG
                have ZV := nZV
                clear nSF nCV nG nZV
                refine act_letter (fun Ac75 hAc75 => ?_)
                replace d10 : Ac75.eval (.tmp 10) = .pointer (some ⟨z, 0, none⟩) := by rw [← hAc75]; exact d10
                replace d47 : Ac75.eval (.tmp 47) = .tuple #[v.val, .int .i64 (R.n : Int), .int .i64 R.e] := by rw [← hAc75]; exact d47
                replace d55 : Ac75.eval (.tmp 55) = v.val := by rw [← hAc75]; exact d55
                replace d56 : Ac75.eval (.tmp 56) = .int .i64 (R.n : Int) := by rw [← hAc75]; exact d56
                replace d57 : Ac75.eval (.tmp 57) = .int .i64 R.e := by rw [← hAc75]; exact d57
                have szAc75 : Ac75.tmps.size = 97 := by rw [← hAc75]; exact szAc74
                have HAc75 := Lib.hid (show Ac74 = Ac75 from hAc75)
                clear hAc75 szAc74
                refine wpAnyH_take (i := 13) (v := .int .i64 (R.n : Int)) rfl (by kernel_rfl) (by kernel_rfl) (by kernel_rfl) (fun _ _ _ h => h) (.inl ⟨rfl, fun w g => run_assign rfl d56 w⟩) SF.out ?_
                refine act_letter (fun Ac76 hAc76 => ?_)
                replace d56 : Ac76.eval (.tmp 56) = .int .i64 (R.n : Int) := by rw [← hAc76]; exact (ev_ne Ac75 (m := 11) (n := 56) (.int .i64 (R.n : Int)) (by decide)).trans d56
                replace d57 : Ac76.eval (.tmp 57) = .int .i64 R.e := by rw [← hAc76]; exact (ev_ne Ac75 (m := 11) (n := 57) (.int .i64 (R.n : Int)) (by decide)).trans d57
                have e11 : Ac76.eval (.tmp 11) = .int .i64 (R.n : Int) := by rw [← hAc76]; exact ev_self Ac75 11 (.int .i64 (R.n : Int)) (by omega)
                have szAc76 : Ac76.tmps.size = 97 := by rw [← hAc76]; exact (sz_put Ac75 11 (.int .i64 (R.n : Int))).trans szAc75
                have HAc76 := Lib.hid (show Ac75.put (some 11) (.int .i64 (R.n : Int)) = Ac76 from hAc76)
                clear hAc76 szAc75 d10 d47 d55
                have d11 := e11
                clear e11
                refine wpAnyH_take (i := 14) (v := .int .i64 R.e) rfl (by kernel_rfl) (by kernel_rfl) (by kernel_rfl) (fun _ _ _ h => h) (.inl ⟨rfl, fun w g => run_assign rfl d57 w⟩) SF.out ?_
                refine act_letter (fun Ac77 hAc77 => ?_)
                replace d56 : Ac77.eval (.tmp 56) = .int .i64 (R.n : Int) := by rw [← hAc77]; exact (ev_ne Ac76 (m := 12) (n := 56) (.int .i64 R.e) (by decide)).trans d56
                replace d57 : Ac77.eval (.tmp 57) = .int .i64 R.e := by rw [← hAc77]; exact (ev_ne Ac76 (m := 12) (n := 57) (.int .i64 R.e) (by decide)).trans d57
                replace d11 : Ac77.eval (.tmp 11) = .int .i64 (R.n : Int) := by rw [← hAc77]; exact (ev_ne Ac76 (m := 12) (n := 11) (.int .i64 R.e) (by decide)).trans d11
                have e12 : Ac77.eval (.tmp 12) = .int .i64 R.e := by rw [← hAc77]; exact ev_self Ac76 12 (.int .i64 R.e) (by omega)
                have szAc77 : Ac77.tmps.size = 97 := by rw [← hAc77]; exact (sz_put Ac76 12 (.int .i64 R.e)).trans szAc76
                have HAc77 := Lib.hid (show Ac76.put (some 12) (.int .i64 R.e) = Ac77 from hAc77)
                clear hAc77 szAc76
                have d12 := e12
                clear e12
                refine wpAnyH_done (by kernel_rfl) ?_ _
                refine ⟨v, z, V0, V1, V2, ?_, CV.out.1, CV.out.2, ZV.out, G.out⟩
                rw [← HAc77.out, ← HAc76.out, ← HAc75.out, ← HAc74.out, ← HAc73.out, ← HAc72.out, ← HAc71.out, ← HAc70.out, ← HAc68.out, ← HAc66.out, ← HAc64.out, ← HAc62.out, ← HAc4.out, ← HAc3.out, ← HAc2.out, ← HAc1.out]
                try simp only [Act.put, List.setIfInBounds_toArray, List.set_cons_zero, List.set_cons_succ]
          · have hbn : (R.e != 0) = true := by simpa using hE
            go_wp2_with fail
            go_ret
            exact ⟨rfl, grew_below (grew_alloc HG5.out _) (Nat.le_refl _) (fun _ h => by cases h)⟩
      · have hcb : (CH != 0) = true := by simpa using hc0
        go_wp2_with fail
        refine (alive6_any w3).mono ?_
        rintro e wz ⟨rfl, gz⟩
        have HGZ := Lib.hid (grew_trans HG3.out gz)
        clear gz
        go_wp2_with fail
        go_ret
        exact ⟨rfl, grew_below HGZ.out (Nat.le_refl _) (fun _ h => by cases h)⟩

set_option maxRecDepth 100000 in
theorem readPrefix_lifted (os : Os) (started : os.Started) (H : Type) (enc : TypeId × Value → H) :
    ReturnsInHanded {} Try.checked os 5 .any (Rows.readPrefixSpec.pre6 enc Try.prog Try.f5 Rows.readPrefixRow.domain false) (Rows.readPrefixSpec.post enc Try.prog Try.f5 false true false false) := by
  refine returnsInHanded_of_change_sized (C := Try.checked) own started (by kernel_rfl) Try.func5
    (ChangeSpec.witness6 (enc := enc) (C := Try.checked) false ⟨#[], #[.agg #[.int .i64 0, .int .i64 0, .int .i64 0, .int .i64 0, .int .i64 0, .slice none 0 0], .slice none 0 0, .slice none 0 0], []⟩ 8 (by kernel_rfl) (by kernel_rfl) (by kernel_rfl) (by kernel_rfl)) ?_
  intro W base args ds gs before hval0 hW hcnd hsz0 _
  have hval : ∀ (j : Nat) t v, Try.f5.params[j]? = some t → args[j]? = some v → Value.okWide Try.prog W .any base t v := hval0
  have hsz : (DataW.weightsEach Try.prog (Try.f5.params.toList ++ Rows.readPrefixSpec.plain.varTypes Try.prog) (ds ++ gs)).all (· ≤ reachBytes) = true := hsz0
  have hW' := hW
  obtain ⟨p, q, hA0, hV, rfl, hfz, hnd⟩ := hW
  have hA : DataW.TrodAll enc Try.prog W 0 (fun _ => true) true Try.f5.params.toList args.toList ds p := hA0
  rw [Try.params5] at hA hval hsz
  obtain ⟨v0, vs0, d0, ds0, p0, q0, hargs, rfl, rfl, h0, r0⟩ := trodAll_cons hA
  obtain ⟨v1, vs1, d1, ds1, p1, q1, rfl, rfl, rfl, h1, r1⟩ := trodAll_cons r0
  obtain ⟨v2, vs2, d2, ds2, p2, q2, rfl, rfl, rfl, h2, r2⟩ := trodAll_cons r1
  obtain ⟨rfl, rfl, rfl⟩ := trodAll_nil r2
  obtain rfl : args = #[v0, v1, v2] := by cases args; simp_all
  obtain ⟨rfl, rfl⟩ := trodVars_none hV
  have k0 := h0
  have lt0 : ∀ x ∈ p0, x.block < W.heap.size := by obtain ⟨m, hm⟩ := k0; exact DataW.trod_lt m _ _ _ hm
  obtain ⟨f0, rfl, n0⟩ := arg_form (hval 0 24 v0 rfl rfl) h0 hsz (j := 0) rfl rfl
  have k1 := h1
  have lt1 : ∀ x ∈ p1, x.block < W.heap.size := by obtain ⟨m, hm⟩ := k1; exact DataW.trod_lt m _ _ _ hm
  obtain ⟨A1, c1, x1, rfl, l1, m1, b1⟩ := arg_bytes (hval 1 25 v1 rfl rfl) h1 hsz (j := 1) rfl rfl
  have k2 := h2
  have lt2 : ∀ x ∈ p2, x.block < W.heap.size := by obtain ⟨m, hm⟩ := k2; exact DataW.trod_lt m _ _ _ hm
  obtain ⟨A2, c2, x2, rfl, l2, m2, b2⟩ := arg_bytes (hval 2 25 v2 rfl rfl) h2 hsz (j := 2) rfl rfl
  clear hA0 hval0 hsz0
  refine (readPrefix_walk W f0 n0 A1 c1 x1 l1 m1 b1 A2 c2 x2 l2 m2 b2).mono fun e W' ⟨he, bel⟩ => ?_
  subst he
  exact ⟨_, rfl, _, _, _, [], _, [], hW', trodAll_mk1 (shut_bool Try.underlying4 _), (trodAll_cons_mk (Below.trod laidOut (by kernel_rfl) (of_decide_eq_true (by kernel_rfl)) k0 bel lt0) (trodAll_cons_mk (Below.trod laidOut (by kernel_rfl) (of_decide_eq_true (by kernel_rfl)) k1 bel lt1) (trodAll_cons_mk (Below.trod laidOut (by kernel_rfl) (of_decide_eq_true (by kernel_rfl)) k2 bel lt2) trodAll_mk0))), rfl, bel.frame _, fun h => by cases h⟩

theorem readPrefix_over : Rows.readPrefixRow.holds Try.pinned (OpenSpec.ofChange Rows.readPrefixSpec) :=
  OpenClaim.holds_of_wide 5 Try.f5 rfl rfl rfl rfl rfl rfl rfl ⟨rfl, rfl, rfl, rfl, rfl⟩ rfl rfl rfl rfl rfl (by kernel_rfl) Try.func5 (by kernel_rfl)
    (of_decide_eq_true (by kernel_rfl)) (by unfold Func.isWrapper; first | (rw [if_pos (by decide +kernel)]; kernel_rfl) | (rw [if_neg (by decide +kernel)]; exact ⟨rfl, rfl⟩))
    (fun os started H enc _ => readPrefix_lifted os started H enc)

theorem readPrefix_holds : Rows.ReadPrefixSaid := readPrefix_over
#print axioms readPrefix_holds
end Go.Proofs.Ytdamjbngopfpkaa

