/- Things in things are read up to the greatest depth, and no deeper: then it is told where: for every number of things and every tag the law returns true. Condition: the table of the package dertag holds what the program's own text lays there (the card). -/
import Derived.Test.YtnjnghbonmdbdaaDoorQ11
namespace Go.Proofs.YtnjnghbonmdbdaaDoor
open Go.ChangeShapes Go.WideShapes Go.ChangeAt Go.RowKit Nd

/-- A null in so many context things. -/
def dB (t : Nat) : Nat → List UInt8
  | 0 => [5, 0]
  | k + 1 => .ofNat (160 + t) :: .ofNat (2 + 2 * k) :: dB t k
theorem dB_len (t k : Nat) : (dB t k).length = 2 + 2 * k := by
  induction k with
  | zero => rfl
  | succ k ih => simp only [dB, List.length_cons, ih]; omega
set_option maxRecDepth 100000 in
theorem dB_deep : ∀ k : Nat, k < 20 → ∀ t : Nat, t < 16 → 8 ≤ k → (rdN (dB t k)).e = 14 ∧ (rdN (dB t k)).n = 16 := by decide +kernel
set_option maxRecDepth 100000 in
theorem dB_read : ∀ k : Nat, k < 8 → ∀ t : Nat, t < 16 → (rdN (dB t k)).e = 0 ∧ (rdN (dB t k)).v.dep = k + 1 := by decide +kernel
theorem and_15 : ∀ n : Nat, n < 256 → bits BinOp.and IntKind.u8 (n : Int) 15 = ((n % 16 : Nat) : Int) := by decide +kernel
theorem or_160 : ∀ n : Nat, n < 16 → bits BinOp.or IntKind.u8 160 (n : Int) = ((160 + n : Nat) : Int) := by decide +kernel
theorem u8_ofNat (n : Nat) (h : n < 256) : ((UInt8.ofNat n).toNat : Int) = (n : Int) := by rw [UInt8.toNat_ofNat']; omega

theorem own8_byt {n : Nat} {w w' : World} {A : Option Addr} {L c : Nat} {xs : List UInt8} (h : Own8 n w w' (.slice A L c) xs) : Byt w' w'.heap.size A xs ∧ L = xs.length ∧ L ≤ c := by
  obtain ⟨A', c', e, hc, hb⟩ := h.form
  injection e with e1 e2 e3
  subst e1 e2 e3
  exact ⟨hb, rfl, hc⟩
theorem tb_mk {w : World} (h : Tb w) : Mk w ⟨0, 0, none⟩ := by
  obtain ⟨t, hW⟩ := h
  exact ⟨_, _, _, hW, by decide⟩

set_option maxRecDepth 100000 in
set_option maxHeartbeats 2000000 in
theorem derDeep_walk (w : World) (n : Int) (_ : (Lit.int .i64 n).wf = true) (y : Int) (hy : (Lit.int .u8 y).wf = true) (hL : laidMetH Tryd.prog laidList w) :
    Calls Tryd.prog 8 #[.int .i64 n, .int .u8 y] w fun e w' => e = .returned (.bool true) ∧ Below w.heap.size w w' := by
  have HT := Lib.hid (tb_of_laid hL)
  have hb := bounds_u8 hy
  obtain ⟨t0, rfl⟩ := Int.eq_ofNat_of_zero_le hb.1
  have ht0 : t0 < 256 := by omega
  obtain ⟨t, ht⟩ : ∃ t, t0 % 16 = t := ⟨_, rfl⟩
  have hand : bits BinOp.and IntKind.u8 (t0 : Int) 15 = (t : Int) := by rw [and_15 t0 ht0, ht]
  have htl : t < 16 := by omega
  have hor : bits BinOp.or IntKind.u8 160 (t : Int) = ((160 + t : Nat) : Int) := or_160 t htl
  obtain ⟨μ, hμ⟩ : ∃ μ, (if (0 : Int) < n then n else 0) = μ := ⟨_, rfl⟩
  have hμ0 : 0 ≤ μ := by rw [← hμ]; split <;> omega
  obtain ⟨k, hk⟩ : ∃ k : Nat, μ.tmod 20 = (k : Int) ∧ k < 20 := by
    rw [Int.tmod_eq_emod_of_nonneg hμ0]
    exact ⟨(μ % 20).toNat, by omega, by omega⟩
  obtain ⟨hk, hk20⟩ := hk
  have HTL := Lib.hid htl
  have HK := Lib.hid hk20
  have hkI : (k : Int) < 20 := by omega
  clear hL hb hy ht0 ht htl hμ0 hk20
  go_enter Tryd.func8, Tryd.ntmps8
  go_upto_region 3 with (fail)
  clear hμ hk
  have own0 := own_new w #[.int .u8 5, .int .u8 0] [5, 0] rfl (by simp)
  have HO := Lib.hid (show Own8 w.heap.size w (w.alloc (.cells #[.int .u8 5, .int .u8 0] 5)) (.slice (some ⟨w.heap.size, 0, none⟩) 2 2) (dB t 0) from ⟨own0, fun k hk => by simp [Value.ownBlock] at hk; omega, (Below.refl _ w).alloc (Nat.le_refl _) _, by simp⟩)
  clear own0
  generalize w.alloc (.cells #[.int .u8 5, .int .u8 0] 5) = w1 at *
  obtain ⟨n0, hn0⟩ : ∃ n0, w.heap.size = n0 := ⟨_, rfl⟩
  rw [hn0] at HO ⊢
  have HN0 := Lib.hid hn0
  clear hn0
  go_upto_region 4 with (fail)
  go_loopw [6, 15] (fun a6 a15 wr => ∃ (i L c : Nat) (A : Option Addr), i ≤ k ∧ a15 = .int .i64 (i : Int) ∧ a6 = .slice A L c ∧ L = 2 + 2 * i ∧ Hid (Own8 n0 w wr (.slice A L c) (dB t i))) (fun _ a15 _ => k - (intOf a15).toNat)
  case atStart => exact ⟨0, 2, 2, some ⟨n0, 0, none⟩, Nat.zero_le _, rfl, rfl, rfl, HO⟩
  case round =>
    clear HO
    obtain ⟨i, L, c, A, hik, rfl, rfl, hL, HO⟩ := hrel
    have hkn : k < 20 := HK.out
    have hLI : (L : Int) ≤ 42 := by omega
    have HL := Lib.hid (show L = (dB t i).length by rw [dB_len]; exact hL)
    have HLI := Lib.hid hL
    clear hL
    by_cases hlt : i < k
    · have hltI : (i : Int) < (k : Int) := by omega
      have hwr : IntKind.u8.wrap (L : Int) = (L : Int) := by show (L : Int) % 256 = L; omega
      have own1 := own_new wr #[.int .u8 ((160 + t : Nat) : Int), .int .u8 (L : Int)] [.ofNat (160 + t), .ofNat L] (by simp only [cellsOf, List.map_cons, List.map_nil]; rw [u8_ofNat _ (by have := HTL.out; omega), u8_ofNat _ (by omega)]) (by simp)
      have ho1 : Own8 n0 w (wr.alloc (.cells #[.int .u8 ((160 + t : Nat) : Int), .int .u8 (L : Int)] 5)) (.slice (some ⟨wr.heap.size, 0, none⟩) 2 2) [.ofNat (160 + t), .ofNat L] := ⟨own1, fun k hk => by simp [Value.ownBlock] at hk; have := HO.out.sz; omega, HO.out.bel.alloc HO.out.sz _, by have := HO.out.sz; simp; omega⟩
      have hbb := ((own8_byt HO.out).1.grew (grew_alloc (grew_refl wr none) (.cells #[.int .u8 ((160 + t : Nat) : Int), .int .u8 (L : Int)] 5)) (fun _ e => by cases e)).more (by simp : wr.heap.size ≤ (wr.alloc (.cells #[.int .u8 ((160 + t : Nat) : Int), .int .u8 (L : Int)] 5)).heap.size)
      have HA := Lib.hid (app_more ho1 hbb c (by rw [← HL.out]; simp; omega))
      rw [← HL.out] at HA
      clear own1 ho1 hbb
      simp only [Int.natCast_add, Int.cast_ofNat_Int] at HA hor
      go_wp2_with (at_builtin; refine wpList_append_run _ rfl (.tmp 23) (.tmp 24) 22 rfl rfl rfl HA.out ?_; rintro v' w2 a2; have A2 := Lib.hid a2; clear a2 HA)
      have hd : [UInt8.ofNat (160 + t), UInt8.ofNat L] ++ dB t i = dB t (i + 1) := by rw [HLI.out]; rfl
      rw [hd] at A2
      obtain ⟨A', c', rfl, _, _⟩ := A2.out.form
      rw [dB_len] at A2
      have HA2 := Lib.hid A2.out
      clear A2
      rw [dB_len]
      go_roundw
      case rel => exact ⟨i + 1, 2 + 2 * (i + 1), c', A', by omega, by go_num, rfl, rfl, HA2⟩
      case measure => simp [intOf]; omega
    · obtain rfl : i = k := by omega
      clear hlt
      have hb := (own8_byt HO.out).1
      have hlc : L ≤ c := (own8_byt HO.out).2.2
      have hrd := derread_any wr (HT.out.below HO.out.bel (by have := HT.out.lt; have := HN0.out; omega)) A c (dB t i) 0 hb (by rw [← HL.out]; exact hlc) (by rw [← HL.out]; omega) (by omega) (by omega)
      rw [← HL.out] at hrd
      have HRD := Lib.hid hrd
      have HDP := Lib.hid (dB_deep i hkn t HTL.out)
      have HDR := Lib.hid (fun h => dB_read i h t HTL.out)
      have HCN := Lib.hid (fun (h : (rdN (dB t i)).e = 0) (v : Nd) (hv : v.nf = (rdN (dB t i)).v) => (wr_rdN h hv).2.2.2.1)
      have hRn : (rdN (dB t i)).n ≤ L := by
        rw [HL.out]
        have := (rn_good 8 (dB t i)).1
        unfold rdN
        split
        · exact this
        · split
          · exact this
          · exact this
      have hRI : ((rdN (dB t i)).n : Int) ≤ 42 := by omega
      generalize rdN (dB t i) = R at *
      have HBL := Lib.hid (And.intro HO.out.bel HO.out.sz)
      clear hb hrd HO hik hlc hRn
      go_wp2_with fail
      refine HRD.out.mono ?_
      rintro e w2 ⟨v, rfl, hnf, hvi, hvc, hvo, b2⟩
      rw [Int.zero_add]
      have HV := Lib.hid (show v.nf = R.v ∧ v.In w2 ∧ v.Cl w2 from ⟨hnf, hvi, hvc⟩)
      have B2 := Lib.hid (show Below n0 w w2 ∧ n0 ≤ w2.heap.size from ⟨HBL.out.1.trans (b2.mono HBL.out.2), Nat.le_trans HBL.out.2 b2.size⟩)
      clear b2 HRD hnf hvi hvc hvo
      go_upto_region 8 with (fail)
      obtain ⟨g, hg⟩ : ∃ g, w2.heap.size = g := ⟨_, rfl⟩
      rw [hg]
      have HN3 := Lib.hid (show Whole (w2.alloc (.cells #[.int .i64 v.k, .int .i64 v.t, .bool v.m, .slice v.B v.bs.length v.d, .slice v.A v.ls.length v.c] 27)) g #[.int .i64 v.k, .int .i64 v.t, .bool v.m, .slice v.B v.bs.length v.d, .slice v.A v.ls.length v.c] 27 by rw [← hg]; exact Whole.new _ _ _)
      have HV3 := Lib.hid (show v.nf = R.v ∧ v.In (w2.alloc (.cells #[.int .i64 v.k, .int .i64 v.t, .bool v.m, .slice v.B v.bs.length v.d, .slice v.A v.ls.length v.c] 27)) ∧ v.Cl (w2.alloc (.cells #[.int .i64 v.k, .int .i64 v.t, .bool v.m, .slice v.B v.bs.length v.d, .slice v.A v.ls.length v.c] 27)) from ⟨HV.out.1, HV.out.2.1.grew (grew_alloc (grew_refl w2 none) _), HV.out.2.2.grew (grew_alloc (grew_refl w2 none) _)⟩)
      have B3 := Lib.hid (show Below n0 w (w2.alloc (.cells #[.int .i64 v.k, .int .i64 v.t, .bool v.m, .slice v.B v.bs.length v.d, .slice v.A v.ls.length v.c] 27)) ∧ n0 ≤ (w2.alloc (.cells #[.int .i64 v.k, .int .i64 v.t, .bool v.m, .slice v.B v.bs.length v.d, .slice v.A v.ls.length v.c] 27)).heap.size from ⟨B2.out.1.alloc B2.out.2 _, by have := B2.out.2; simp; omega⟩)
      generalize w2.alloc (.cells #[.int .i64 v.k, .int .i64 v.t, .bool v.m, .slice v.B v.bs.length v.d, .slice v.A v.ls.length v.c] 27) = w3 at *
      clear hg HV B2 HBL
      have hT3 := HT.out.below B3.out.1 (by have := HT.out.lt; have := HN0.out; omega)
      have HAL := Lib.hid (aliveE w3 hT3)
      rcases Decidable.em (8 ≤ i) with h8 | h8
      · have h8' : (8 : Int) < (i : Int) + 1 := by omega
        obtain ⟨he, hn'⟩ := HDP.out h8
        have HB3 := B3
        rw [he, hn'] at *
        clear hT3 h8 HDP HDR HCN
        go_wp2_with fail
        refine HAL.out.mono ?_
        rintro e w4 ⟨rfl, b4⟩
        have B4 := Lib.hid (B3.out.1.trans (b4.mono B3.out.2))
        clear b4 HAL
        go_wp2_with fail
        go_ret
        exact ⟨rfl, by rw [HN0.out]; exact B4.out⟩
      · have h8' : ¬ (8 : Int) < (i : Int) + 1 := by omega
        obtain ⟨he, hdv⟩ := HDR.out (by omega)
        have HD := Lib.hid (show v.dep = i + 1 by rw [← dep_nf v, HV3.out.1]; exact hdv)
        have HCV := Lib.hid (show v.cnt ≤ 1000000 by have := HCN.out he v HV3.out.1; rw [← HL.out] at this; omega)
        rw [he] at *
        clear hT3 h8 HDP HDR HCN hdv
        go_wp2_with fail
        refine HAL.out.mono ?_
        rintro e w4 ⟨rfl, b4⟩
        have B4 := Lib.hid (show Below n0 w w4 ∧ n0 ≤ w4.heap.size from ⟨B3.out.1.trans (b4.mono B3.out.2), Nat.le_trans B3.out.2 b4.size⟩)
        have HN4 := Lib.hid (HN3.out.below b4 HN3.out.lt)
        have HV4 := Lib.hid (show v.In w4 ∧ v.Cl w4 from ⟨HV3.out.2.1.grew (grew_of_below b4), HV3.out.2.2.grew (grew_of_below b4)⟩)
        have hT4 := HT.out.below B4.out.1 (by have := HT.out.lt; have := HN0.out; omega)
        have hdc := depth_any w4 ⟨0, 0, none⟩ (tb_mk hT4) v HV4.out.1 (HV4.out.2.cx _ HV4.out.1) HCV.out
        rw [HD.out] at hdc
        have HDC := Lib.hid hdc
        have y0 : w4.cell? ⟨g, 0, none⟩ = some (.int .i64 v.k) := HN4.out.cell 0
        have y1 : w4.cell? ⟨g, 1, none⟩ = some (.int .i64 v.t) := HN4.out.cell 1
        have y2 : w4.cell? ⟨g, 2, none⟩ = some (.bool v.m) := HN4.out.cell 2
        have y3 : w4.cell? ⟨g, 3, none⟩ = some (.slice v.B v.bs.length v.d) := HN4.out.cell 3
        have y4 : w4.cell? ⟨g, 4, none⟩ = some (.slice v.A v.ls.length v.c) := HN4.out.cell 4
        clear b4 HAL hT4 hdc HN3 HV3 HN4 HV4
        go_wp2_with fail
        refine HDC.out.mono ?_
        rintro e w5 ⟨rfl, g5⟩
        have B5 := Lib.hid (B4.out.1.trans (grew_below g5 B4.out.2 (fun _ e => by cases e)))
        clear g5 HDC y0 y1 y2 y3 y4
        go_wp2_with fail
        go_ret
        exact ⟨rfl, by rw [HN0.out]; exact B5.out⟩

set_option maxRecDepth 100000 in
theorem derDeep_lifted (os : Os) (started : os.Started) (H : Type) (enc : TypeId × Value → H) :
    ReturnsInHanded {} Tryd.checked os 8 .any (fun w args => (Rows.derDeepSpec.pre enc Tryd.prog Tryd.f8 [] false w args ∧ laidMetH Tryd.prog laidList w) ∧ sizedMet enc Tryd.prog Tryd.f8 (OpenSpec.ofChange Rows.derDeepSpec) false w args)
      (Rows.derDeepSpec.post enc Tryd.prog Tryd.f8 false true false false) := by
  refine returnsInHanded_of_change_and (C := Tryd.checked) (X := fun w _ => laidMetH Tryd.prog laidList w) (fun _ _ _ hh h => h.of_heap hh) own started (by kernel_rfl) Tryd.func8
    (ChangeSpec.witness_shaped (enc := enc) (C := Tryd.checked) (os := os) (X := fun w _ => laidMetH Tryd.prog laidList w) false (World.doorLaid Tryd.prog doorSteps os) #[.int .i64 0, .int .u8 0] 8 rfl (World.shaped_of_RefB (by kernel_rfl) (by kernel_rfl)) (by kernel_rfl) (by kernel_rfl) (by kernel_rfl) (door_met os _)) ?_
  intro W base args ds gs before hval0 hW hcnd hsz0 hL _
  have hval : ∀ (j : Nat) t v, Tryd.f8.params[j]? = some t → args[j]? = some v → Value.okWide Tryd.prog W .any base t v := hval0
  have hsz : (DataW.weightsEach Tryd.prog (Tryd.f8.params.toList ++ Rows.derDeepSpec.plain.varTypes Tryd.prog) (ds ++ gs)).all (· ≤ reachBytes) = true := hsz0
  have hW' := hW
  obtain ⟨p, q, hA0, hV, rfl, hfz, hnd⟩ := hW
  have hA : DataW.TrodAll enc Tryd.prog W 0 (fun _ => true) true Tryd.f8.params.toList args.toList ds p := hA0
  rw [Tryd.params8] at hA hval hsz
  obtain ⟨v0, vs0, d0, ds0, p0, q0, hargs, rfl, rfl, h0, r0⟩ := trodAll_cons hA
  obtain ⟨v1, vs1, d1, ds1, p1, q1, rfl, rfl, rfl, h1, r1⟩ := trodAll_cons r0
  obtain ⟨rfl, rfl, rfl⟩ := trodAll_nil r1
  obtain rfl : args = #[v0, v1] := by cases args; simp_all
  obtain ⟨rfl, rfl⟩ := trodVars_none hV
  obtain ⟨a0, rfl, rfl, rfl, w0⟩ := open_int Tryd.underlying3 (hval 0 3 v0 rfl rfl) h0
  obtain ⟨a1, rfl, rfl, rfl, w1⟩ := open_int Tryd.underlying5 (hval 1 5 v1 rfl rfl) h1
  clear hA0 hval0 hsz0
  refine (derDeep_walk W a0 w0 a1 w1 hL).mono fun e W' ⟨he, bel⟩ => ?_
  subst he
  exact ⟨_, rfl, _, _, _, [], _, [], hW', trodAll_mk1 (shut_bool Tryd.underlying4 _), (trodAll_cons_mk (shut_int Tryd.underlying3 w0) (trodAll_cons_mk (shut_int Tryd.underlying5 w1) trodAll_mk0)), rfl, bel.frame _, fun h => by cases h⟩

theorem derDeep_over : Rows.derDeepRow.holds Tryd.pinned (OpenSpec.ofChange Rows.derDeepSpec) :=
  OpenClaim.holds_of_wide 8 Tryd.f8 rfl rfl rfl rfl rfl rfl rfl ⟨rfl, rfl, rfl, rfl, rfl⟩ rfl rfl rfl rfl rfl (by kernel_rfl) Tryd.func8 (by kernel_rfl)
    (of_decide_eq_true (by kernel_rfl)) (by unfold Func.isWrapper; first | (rw [if_pos (by decide +kernel)]; kernel_rfl) | (rw [if_neg (by decide +kernel)]; exact ⟨rfl, rfl⟩))
    (fun os started H enc _ => derDeep_lifted os started H enc)

theorem derDeep_holds : Rows.DerDeepSaid := derDeep_over
#print axioms derDeep_holds

/-- The row's card: what it lists of the package's variables is what the program's own text lays there. -/
theorem derDeep_card : Rows.DerDeepCardSaid :=
  Claim7.holds_tied_plain_at .later [] [.data] true Rows.derDeepCard.stood.harness false
    derDeep_holds (fun _ h => by cases h) (by kernel_rfl) (fun _ h => by cases h) derDeep_row_tie rfl ⟨rfl, rfl⟩ (by kernel_rfl) rfl
    (fun f fn hf hfn => by
      obtain rfl : f = 8 := Option.some.inj ((show Tryd.prog.funcNamed "passepartout/passepartoutlaw11.DerDeep" = some 8 by kernel_rfl).symm.trans hf) |>.symm
      obtain rfl : fn = Tryd.f8 := (Option.some.inj (Tryd.func8.symm.trans hfn)).symm
      exact ⟨by kernel_rfl, fun j t ht => by
        rw [Tryd.params8] at ht
        have hm : t ∈ [3, 5] := by simpa using Array.mem_of_getElem? ht
        have hall : ([3, 5].all fun u => !Tryd.prog.wantsStandIn u) = true := by kernel_rfl
        exact (show Tryd.prog.wantsStandIn t = false by simpa using List.all_eq_true.1 hall t hm)⟩)
    (by kernel_rfl)
#print axioms derDeep_card
end Go.Proofs.YtnjnghbonmdbdaaDoor

