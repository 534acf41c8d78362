/- What is put is read, whatever stands behind it; cut off it is told so: for every head and every bytes behind it the law returns true, and they read as they did. Condition: the table of the package holds what the program's own text lays there (the card). -/
import Derived.Test.YtbeknillegkidaaDoorLz9
import Derived.Test.YtbeknillegkidaaDoorLb9
import Derived.Test.YtbeknillegkidaaDoorOh
namespace Go.Proofs.YtbeknillegkidaaDoor
open Go.ChangeShapes Go.WideShapes Go.ChangeAt Go.RowKit

theorem own_cap {w : World} {e : TypeId} {A : Option Addr} {n c : Nat} {xs : List Value} (h : w.ownsRow 0 e 1 (.slice A n c) n xs) : n ≤ c := by
  rcases h.2 with ⟨h0, h1⟩ | ⟨b, cap, cur, h1, _, _, hle, _⟩
  · cases h0; exact Nat.le_refl _
  · cases h1; exact hle
/-- The first append, to new memory of no byte; the second one, to what that left. -/
theorem app_new (w : World) {b c n : Nat} {ys : List UInt8} (hb : Byt w w.heap.size (some ⟨b, 0, none⟩) ys) (hn : n = ys.length) (h5 : n ≤ 5) :
    ∀ ty, ∃ v' w', (Builtin.append_ #[22, 22] ty #[.slice (some ⟨w.heap.size, 0, none⟩) 0 0, .slice (some ⟨b, 0, none⟩) n c]).run Tryd.prog (w.alloc (.cells #[] 5)) = .ok v' w' ∧
      (w'.ownsRow 0 5 1 v' n (cellsOf ys) ∧ Below w.heap.size w w' ∧ w.heap.size < w'.heap.size ∧ ∀ k, v'.ownBlock = some k → w.heap.size ≤ k) := fun ty => by
  subst hn
  have h1 := own_new w #[] [] rfl (by simp)
  have h2 : Byt (w.alloc (.cells #[] 5)) w.heap.size (some ⟨b, 0, none⟩) ys := byt_below hb ((Below.refl _ w).alloc (Nat.le_refl _) _) (Nat.le_refl _)
  obtain ⟨v', w', hr, k1, k2, k3⟩ := append_bytes (P := Tryd.prog) _ 22 ty 5 Tryd.underlying22 info_u8 h1 h2.byf c (by simp; omega)
  refine ⟨v', w', hr, ?_, ?_, ?_, ?_⟩
  · have e : ([] : List UInt8).length + ys.length = ys.length := by simp
    rw [← e]
    exact k1
  · refine ((Below.refl _ w).alloc (Nat.le_refl _) _).trans (grew_below k2 (by simp) (fun k hk => ?_))
    simp [Value.ownBlock] at hk
    omega
  · have := k2.size
    simp at this
    omega
  · intro k hk
    rcases k3 with e | e
    · rw [e] at hk; simp [Value.ownBlock] at hk; omega
    · rw [e] at hk; simp at hk; omega
theorem app_more (w : World) {v : Value} {n : Nat} {ys : List UInt8} (own : w.ownsRow 0 5 1 v n (cellsOf ys)) {A : Option Addr} {bs : List UInt8} {B c m : Nat} (hb : Byt w B A bs) (hm : m = bs.length) (hs : n + m ≤ 140737488355328) (q : Nat) (hq : q ≤ w.heap.size) (hv : ∀ k, v.ownBlock = some k → q ≤ k) :
    ∀ ty, ∃ v' w', (Builtin.append_ #[22, 22] ty #[v, .slice A m c]).run Tryd.prog w = .ok v' w' ∧ (w'.ownsRow 0 5 1 v' (n + m) (cellsOf (ys ++ bs)) ∧ Below q w w' ∧ w.heap.size ≤ w'.heap.size) := fun ty => by
  subst hm
  obtain ⟨v', w', hr, k1, k2, _⟩ := append_bytes (P := Tryd.prog) w 22 ty 5 Tryd.underlying22 info_u8 own hb.byf c hs
  exact ⟨v', w', hr, k1, grew_below k2 hq hv, k2.size⟩

set_option maxRecDepth 100000 in
set_option maxHeartbeats 4000000 in
theorem dertagBack_walk (w : World) (h : Hd) (_ : (Lit.int .i64 h.l).wf = true) (A : Option Addr) (c : Nat) (xs : List UInt8) (hl : xs.length ≤ c) (hc : c ≤ 140737488351232) (hb : Byt w w.heap.size A xs) (hL : laidMetH Tryd.prog laidList w) :
    Calls Tryd.prog 5 #[h.agg, .slice A xs.length c] w fun e w' => e = .returned (.bool true) ∧ Below w.heap.size w w' := by
  have HT := Lib.hid (tb_of_laid hL)
  have HB := Lib.hid hb
  have HLC := Lib.hid (Nat.le_trans hl hc)
  clear hL hb hl hc
  obtain ⟨q, hq⟩ : ∃ q, w.heap.size = q := ⟨_, rfl⟩
  have hq0 : 0 < q := by rw [← hq]; exact HT.out.lt
  obtain ⟨M, hM⟩ : ∃ M, xs.length = M := ⟨_, rfl⟩
  rw [hM]
  have HM := Lib.hid hM
  clear hM
  have put : ∀ W, Tb W → Calls Tryd.prog 12 #[h.agg] W fun e w' =>
      ((∃ x, (x != (0 : Int)) = true ∧ e = .returned (.tuple #[.slice none 0 0, .int .i64 x])) ∨
        (kd h.c h.t h.m = true ∧ (0 ≤ h.l ∧ h.l ≤ 16777215)) ∧ ∃ v, e = .returned (.tuple #[v, .int .i64 0]) ∧ w'.ownsRow 0 5 1 v (putH h).length (cellsOf (putH h)) ∧ (∀ k, v.ownBlock = some k → W.heap.size ≤ k)) ∧ Below W.heap.size W w' := by
    intro W hW
    cases hkd : kd h.c h.t h.m with
    | false => exact (put_no W hW h hkd).mono (fun e w' ⟨h1, h2⟩ => ⟨.inl ⟨13, rfl, h1⟩, h2⟩)
    | true => exact (put_yes W hW h hkd).mono (fun e w' ⟨h1, h2⟩ => ⟨h1.elim (fun g => .inl ⟨5, rfl, g.2⟩) (fun g => .inr ⟨⟨rfl, g.1⟩, g.2⟩), h2⟩)
  have hlen := putH_len h
  have hrd := fun hk hr => rdH_put h hk hr
  have hct := fun hk hr => rdH_cut h hk hr
  obtain ⟨ys, hys⟩ : ∃ ys, putH h = ys := ⟨_, rfl⟩
  rw [hys] at hlen hrd hct put
  obtain ⟨N, hN⟩ : ∃ N, ys.length = N := ⟨_, rfl⟩
  rw [hN] at hlen hrd hct put
  obtain ⟨hn2, hn5⟩ := hlen
  have HRD := Lib.hid hrd
  have HCT := Lib.hid hct
  have HNN := Lib.hid hN
  clear hys hrd hct hN
  obtain ⟨h0, h1, h2, h3⟩ := h
  have hbox := Whole.new w #[.int .i64 h0, .int .i64 h1, .bool h2, .int .i64 h3] 24
  have b0 : Below q w (w.alloc (.cells #[.int .i64 h0, .int .i64 h1, .bool h2, .int .i64 h3] 24)) := by rw [← hq]; exact (Below.refl _ w).alloc (Nat.le_refl _) _
  have s0 : q < (w.alloc (.cells #[.int .i64 h0, .int .i64 h1, .bool h2, .int .i64 h3] 24)).heap.size := by rw [World.size_alloc]; omega
  dsimp only [Hd.agg] at put ⊢
  rw [hq] at hbox ⊢
  have HP := Lib.hid put
  have HBOX := Lib.hid hbox
  have B0 := Lib.hid (And.intro b0 s0)
  clear put hbox b0 s0
  go_enter Tryd.func5, Tryd.ntmps5
  go_wp2_with fail
  generalize w.alloc (.cells #[.int .i64 h0, .int .i64 h1, .bool h2, .int .i64 h3] 24) = W0 at *
  refine (HP.out W0 (HT.out.below B0.out.1 hq0)).mono ?_
  rintro e w1 ⟨hor, hB1⟩
  have HBOX1 := Lib.hid (whole_below HBOX.out hB1 HBOX.out.lt)
  have B1 := Lib.hid (show Below q w w1 ∧ q < w1.heap.size from ⟨B0.out.1.trans (hB1.mono (Nat.le_of_lt B0.out.2)), Nat.lt_of_lt_of_le B0.out.2 hB1.size⟩)
  clear hB1 HBOX B0 HP
  rcases hor with ⟨x, hx, rfl⟩ | ⟨hgood, v, rfl, own, -⟩
  · go_wp2_with fail
    refine (alive9_any w1 (HT.out.below B1.out.1 hq0)).mono ?_
    rintro e w2 ⟨rfl, hB2⟩
    have B2 := Lib.hid (B1.out.1.trans (hB2.mono (Nat.le_of_lt B1.out.2)))
    clear hB2 B1
    go_wp2_with fail
    go_ret
    exact ⟨rfl, B2.out⟩
  · have HRG := Lib.hid (HRD.out hgood.1 hgood.2)
    have HCG := Lib.hid (HCT.out hgood.1 hgood.2)
    obtain ⟨bo, cap, rfl, -, -⟩ := own_slice own (by omega)
    have HCAP := Lib.hid (own_cap own)
    have HBC := Lib.hid (show Byt w1 w1.heap.size (some ⟨bo, 0, none⟩) ys from (own_by own).byt)
    have HBX := Lib.hid ((byt_below HB.out B1.out.1 (by omega)).more (B' := w1.heap.size) (by have := B1.out.2; omega))
    have HA1 := Lib.hid (fun ty => app_new w1 (c := cap) HBC.out HNN.out.symm hn5 ty)
    clear own hgood HRD HCT HB
    go_wp2_with (at_builtin; first
      | (refine wpList_append_run _ rfl (.tmp 28) (.tmp 29) 22 rfl rfl rfl HA1.out ?_; rintro v1 w2 a1; have A1 := Lib.hid a1; clear a1 HA1; have HA2 := Lib.hid (fun ty => app_more w2 (c := c) A1.out.1 (byt_below HBX.out A1.out.2.1 (Nat.le_refl _)) HM.out.symm (by have := HLC.out; have := HM.out; omega) w1.heap.size (Nat.le_of_lt A1.out.2.2.1) A1.out.2.2.2 ty))
      | (refine wpList_append_run _ rfl (.tmp 30) (.tmp 31) 22 rfl rfl rfl HA2.out ?_; rintro v2 w3 a2; have A2 := Lib.hid a2; clear a2 HA2))
    have own2 := A2.out.1
    obtain ⟨b2, cap2, rfl, hn, -⟩ := own_slice own2 (by omega)
    have hw3 : w1.heap.size ≤ w3.heap.size := Nat.le_trans (Nat.le_of_lt A1.out.2.2.1) A2.out.2.2
    have B3 := Lib.hid (show Below q w w3 ∧ q < w3.heap.size from ⟨B1.out.1.trans ((A1.out.2.1.trans A2.out.2.1).mono (Nat.le_of_lt B1.out.2)), Nat.lt_of_lt_of_le B1.out.2 hw3⟩)
    have HBOX3 := Lib.hid (whole_below HBOX1.out (A1.out.2.1.trans A2.out.2.1) HBOX1.out.lt)
    have HBC3 := Lib.hid ((byt_below HBC.out (A1.out.2.1.trans A2.out.2.1) (Nat.le_refl _)).more (B' := w3.heap.size) hw3)
    have hr := read_big w3 (HT.out.below B3.out.1 hq0) (some ⟨b2, 0, none⟩) cap2 (ys ++ xs) (own_by own2).byt (by rw [← hn]; exact own_cap own2)
    rw [← hn, HRG.out xs] at hr
    dsimp only [Hd.agg] at hr
    clear own2 hn hw3 A1 A2 B1 HBOX1 HBC HBX HRG
    refine hr.mono ?_
    rintro e w4 ⟨rfl, hB4⟩
    clear hr
    have HBOX4 := Lib.hid (whole_below HBOX3.out hB4 HBOX3.out.lt)
    have B4 := Lib.hid (show Below q w w4 ∧ q < w4.heap.size from ⟨B3.out.1.trans (hB4.mono (Nat.le_of_lt B3.out.2)), Nat.lt_of_lt_of_le B3.out.2 hB4.size⟩)
    have HBC4 := Lib.hid ((byt_below HBC3.out hB4 (Nat.le_refl _)).more (B' := w4.heap.size) hB4.size)
    clear hB4 B3 HBOX3 HBC3
    obtain ⟨p, W, hp, hW, hs, hqp, k1, b1, keep⟩ := new_block B4.out.1 (Nat.le_of_lt B4.out.2) #[.int .i64 h0, .int .i64 h1, .bool h2, .int .i64 h3] 24
    obtain ⟨c0, c1, c2, c3⟩ := whole_head k1
    obtain ⟨d0, d1, d2, d3⟩ := whole_head (keep _ _ _ HBOX4.out)
    have B5 := Lib.hid (show Below q w W ∧ q < W.heap.size from ⟨b1, by omega⟩)
    have HBC5 := Lib.hid ((byt_below HBC4.out (show Below w4.heap.size w4 W by rw [← hW]; exact (Below.refl _ w4).alloc (Nat.le_refl _) _) (Nat.le_refl _)).more (B' := W.heap.size) (by omega))
    have g1 : ¬ (N : Int) < 2 := by omega
    have g2 : ¬ 5 < (N : Int) := by omega
    clear k1 b1 keep hs HBOX4 B4 HBC4
    go_wp2_with fail
    clear hW hp c0 c1 c2 c3 d0 d1 d2 d3 g1 g2
    have hsl := fun (V : World) (j : Nat) (hj : j ≤ cap) => slice_to V bo 0 N cap j hj
    have HSL := Lib.hid hsl
    clear hsl
    go_loopw [60] (fun i wr => ∃ j : Nat, j ≤ N ∧ i = .int .i64 j ∧ Hid (Below q w wr ∧ q < wr.heap.size) ∧ Hid (Byt wr wr.heap.size (some ⟨bo, 0, none⟩) ys)) (fun i _ => N - (intOf i).toNat)
    case atStart => exact ⟨0, Nat.zero_le _, rfl, B5, HBC5⟩
    case round =>
      clear B5 HBC5
      obtain ⟨j, hj, rfl, hR, hY⟩ := hrel
      by_cases hlt : j < N
      · have hlt' : (j : Int) < (N : Int) := by omega
        have hjc : j ≤ cap := by have := HCAP.out; omega
        have hs1 := fun V => HSL.out V j hjc
        have hlj : (ys.take j).length = j := by rw [List.length_take, HNN.out]; omega
        have hr := read_big wr (HT.out.below hR.out.1 hq0) (some ⟨bo, 0, none⟩) cap (ys.take j) (hY.out.take j) (by rw [hlj]; exact hjc)
        rw [hlj, HCG.out j hlt] at hr
        dsimp only [Hd.agg, Hd.z] at hr
        have HR1 := Lib.hid hr
        clear hr hlj
        go_wp2_with fail
        refine HR1.out.mono ?_
        rintro e w5 ⟨rfl, hB5⟩
        have hs5 := hB5.size
        have B6 := Lib.hid (show Below q w (w5.alloc (.cells #[.int .i64 0, .int .i64 0, .bool false, .int .i64 0] 24)) ∧ q < (w5.alloc (.cells #[.int .i64 0, .int .i64 0, .bool false, .int .i64 0] 24)).heap.size from
          ⟨(hR.out.1.trans (hB5.mono (Nat.le_of_lt hR.out.2))).alloc (by have := hR.out.2; omega) _, by have := hR.out.2; rw [World.size_alloc]; omega⟩)
        have HBC6 := Lib.hid (show Byt (w5.alloc (.cells #[.int .i64 0, .int .i64 0, .bool false, .int .i64 0] 24)) (w5.alloc (.cells #[.int .i64 0, .int .i64 0, .bool false, .int .i64 0] 24)).heap.size (some ⟨bo, 0, none⟩) ys from
          (byt_below (byt_below hY.out hB5 (Nat.le_refl _)) ((Below.refl wr.heap.size w5).alloc hs5 _) (Nat.le_refl _)).more (by rw [World.size_alloc]; omega))
        clear hB5 hs5 HR1 hR hY hs1
        go_wp2_with fail
        generalize w5.alloc (.cells #[.int .i64 0, .int .i64 0, .bool false, .int .i64 0] 24) = W5 at *
        go_roundw
        case rel => exact ⟨j + 1, hlt, rfl, B6, HBC6⟩
        case measure => simp [intOf]; omega
      · obtain rfl : j = N := by omega
        go_wp2_with fail
        refine (alive9_any wr (HT.out.below hR.out.1 hq0)).mono ?_
        rintro e w5 ⟨rfl, hB5⟩
        have B6 := Lib.hid (hR.out.1.trans (hB5.mono (Nat.le_of_lt hR.out.2)))
        clear hB5 hR hY
        go_wp2_with fail
        go_ret
        exact ⟨rfl, B6.out⟩

set_option maxRecDepth 100000 in
theorem dertagBack_lifted (os : Os) (started : os.Started) (H : Type) (enc : TypeId × Value → H) :
    ReturnsInHanded {} Tryd.checked os 5 .any (fun w args => (Rows.dertagBackSpec.pre enc Tryd.prog Tryd.f5 [] false w args ∧ laidMetH Tryd.prog laidList w) ∧ sizedMet enc Tryd.prog Tryd.f5 (OpenSpec.ofChange Rows.dertagBackSpec) false w args)
      (Rows.dertagBackSpec.post enc Tryd.prog Tryd.f5 false true false false) := by
  refine returnsInHanded_of_change_and (C := Tryd.checked) (X := fun w _ => laidMetH Tryd.prog laidList w) (fun _ _ _ hh h => h.of_heap hh) own started (by kernel_rfl) Tryd.func5
    (ChangeSpec.witness_shaped (enc := enc) (C := Tryd.checked) (os := os) (X := fun w _ => laidMetH Tryd.prog laidList w) false (World.doorLaid Tryd.prog doorSteps os) #[.agg #[.int .i64 0, .int .i64 0, .bool false, .int .i64 0], .slice none 0 0] 8 rfl (World.shaped_of_RefB (by kernel_rfl) (by kernel_rfl)) (by kernel_rfl) (by kernel_rfl) (by kernel_rfl) (door_met os _)) ?_
  intro W base args ds gs before hval0 hW hcnd hsz0 hL _
  have hval : ∀ (j : Nat) t v, Tryd.f5.params[j]? = some t → args[j]? = some v → Value.okWide Tryd.prog W .any base t v := hval0
  have hsz : (DataW.weightsEach Tryd.prog (Tryd.f5.params.toList ++ Rows.dertagBackSpec.plain.varTypes Tryd.prog) (ds ++ gs)).all (· ≤ reachBytes) = true := hsz0
  have hW' := hW
  obtain ⟨p, q, hA0, hV, rfl, hfz, hnd⟩ := hW
  have hA : DataW.TrodAll enc Tryd.prog W 0 (fun _ => true) true Tryd.f5.params.toList args.toList ds p := hA0
  rw [Tryd.params5] at hA hval hsz
  obtain ⟨v0, vs0, d0, ds0, p0, q0, hargs, rfl, rfl, h0, r0⟩ := trodAll_cons hA
  obtain ⟨v1, vs1, d1, ds1, p1, q1, rfl, rfl, rfl, h1, r1⟩ := trodAll_cons r0
  obtain ⟨rfl, rfl, rfl⟩ := trodAll_nil r1
  obtain rfl : args = #[v0, v1] := by cases args; simp_all
  obtain ⟨rfl, rfl⟩ := trodVars_none hV
  have k0 := h0
  have lt0 : ∀ x ∈ p0, x.block < W.heap.size := by obtain ⟨m, hm⟩ := k0; exact DataW.trod_lt m _ _ _ hm
  obtain ⟨f0, rfl, n0⟩ := arg_head (hval 0 24 v0 rfl rfl) h0
  have k1 := h1
  have lt1 : ∀ x ∈ p1, x.block < W.heap.size := by obtain ⟨m, hm⟩ := k1; exact DataW.trod_lt m _ _ _ hm
  obtain ⟨A1, c1, x1, rfl, l1, m1, b1⟩ := arg_bytes (hval 1 22 v1 rfl rfl) h1 hsz (j := 1) rfl rfl
  clear hA0 hval0 hsz0
  refine (dertagBack_walk W f0 n0 A1 c1 x1 l1 m1 b1 hL).mono fun e W' ⟨he, bel⟩ => ?_
  subst he
  exact ⟨_, rfl, _, _, _, [], _, [], hW', trodAll_mk1 (shut_bool Tryd.underlying4 _), (trodAll_cons_mk (Below.trod laidOut (by kernel_rfl) (of_decide_eq_true (by kernel_rfl)) k0 bel lt0) (trodAll_cons_mk (Below.trod laidOut (by kernel_rfl) (of_decide_eq_true (by kernel_rfl)) k1 bel lt1) trodAll_mk0)), rfl, bel.frame _, fun h => by cases h⟩

theorem dertagBack_over : Rows.dertagBackRow.holds Tryd.pinned (OpenSpec.ofChange Rows.dertagBackSpec) :=
  OpenClaim.holds_of_wide 5 Tryd.f5 rfl rfl rfl rfl rfl rfl rfl ⟨rfl, rfl, rfl, rfl, rfl⟩ rfl rfl rfl rfl rfl (by kernel_rfl) Tryd.func5 (by kernel_rfl)
    (of_decide_eq_true (by kernel_rfl)) (by unfold Func.isWrapper; first | (rw [if_pos (by decide +kernel)]; kernel_rfl) | (rw [if_neg (by decide +kernel)]; exact ⟨rfl, rfl⟩))
    (fun os started H enc _ => dertagBack_lifted os started H enc)

theorem dertagBack_holds : Rows.DertagBackSaid := dertagBack_over
#print axioms dertagBack_holds

/-- The row's card: what it lists of the package's variables is what the program's own text lays there. -/
theorem dertagBack_card : Rows.DertagBackCardSaid :=
  Claim7.holds_tied_plain_at .later [] [.data] true Rows.dertagBackCard.stood.harness false
    dertagBack_holds (fun _ h => by cases h) (by kernel_rfl) (fun _ h => by cases h) dertagBack_row_tie rfl ⟨rfl, rfl⟩ (by kernel_rfl) rfl
    (fun f fn hf hfn => by
      obtain rfl : f = 5 := Option.some.inj ((show Tryd.prog.funcNamed "passepartout/passepartoutlaw09.DertagBack" = some 5 by kernel_rfl).symm.trans hf) |>.symm
      obtain rfl : fn = Tryd.f5 := (Option.some.inj (Tryd.func5.symm.trans hfn)).symm
      exact ⟨by kernel_rfl, fun j t ht => by
        rw [Tryd.params5] at ht
        have hm : t ∈ [24, 22] := by simpa using Array.mem_of_getElem? ht
        have hall : ([24, 22].all fun u => !Tryd.prog.wantsStandIn u) = true := by kernel_rfl
        exact (show Tryd.prog.wantsStandIn t = false by simpa using List.all_eq_true.1 hall t hm)⟩)
    (by kernel_rfl)
#print axioms dertagBack_card
end Go.Proofs.YtbeknillegkidaaDoor

