/- Of anything that is written each answer is the document's, how many bytes there are, how many parts are open, and, in the end, all bytes: for every number and acts the law returns true, and they read as they did. No condition. -/
import Derived.Test.YtkeiamihgcbcbaaSim2
import Derived.Deep.RegionLaw
namespace Go.Proofs.Ytkeiamihgcbcbaa
open Go.ChangeShapes Go.WideShapes Go.ChangeAt Go.RowKit

theorem Acts.grew {w w' : World} {A : Option Addr} {zs : List Ac} (h : Acts w A zs) (g : Grew w w' none) : Acts w' A zs := by
  intro hn
  obtain ⟨b, o, e, hb, hcell⟩ := h hn
  exact ⟨b, o, e, Nat.lt_of_lt_of_le hb g.size, fun i hi j v hv => g.cell (hcell i hi j v hv) (by simp)⟩

set_option maxRecDepth 100000 in
set_option maxHeartbeats 4000000 in
theorem builderActs_great (w : World) (a : Int) (A : Option Addr) (c : Nat) (zs : List Ac) (hl : zs.length ≤ c) (hc : c ≤ 140737488351232) (hz : Acts w A zs) (hg : grt zs = true) :
    Calls Try.prog 3 #[.int .i64 a, .slice A zs.length c] w fun e w' => e = .returned (.bool true) ∧ Below w.heap.size w w' := by
  have HZ := Lib.hid hz
  have HG := Lib.hid hg
  clear hz hg
  go_enter Try.func3, Try.ntmps3
  go_wp2_with fail
  refine (alive2_any w).mono ?_
  rintro e w1 ⟨rfl, g1⟩
  go_wp2_with fail
  refine (great_any w1 A c zs hc hl (HZ.out.grew g1)).mono ?_
  rintro e w2 ⟨rfl, g2⟩
  rw [HG.out]
  go_wp2_with fail
  refine (alive2_any w2).mono ?_
  rintro e w3 ⟨rfl, g3⟩
  go_wp2_with fail
  go_ret
  exact ⟨rfl, grew_below (grew_trans (grew_trans g1 g2) g3) (Nat.le_refl _) (fun _ h => by cases h)⟩

/-- What is apart from F stays apart from what F has become. -/
theorem apart_new {w : World} {F F' G : Nat → Prop} (hn : ∀ i, F' i → F i ∨ w.heap.size ≤ i) (ha : ∀ i, F i → ¬ G i) (hG : ∀ i, G i → i < w.heap.size) : ∀ i, F' i → ¬ G i := by
  intro i hi hg
  rcases hn i hi with h | h
  · exact ha i h hg
  · have := hG i hg; omega

/-- Both builders hold the same, apart from each other; nothing old has turned. -/
def ActRel (w wr : World) (p m n : Nat) (xs : List UInt8) (ps : List (Nat × Nat)) : Prop :=
  ∃ F G parts sizes, Bd wr F p n xs ps ∧ Rb wr G m n parts sizes ∧ Sim xs ps parts sizes ∧ (∀ i, F i → ¬ G i) ∧ (∀ i, F i → w.heap.size ≤ i) ∧ (∀ i, G i → w.heap.size ≤ i) ∧ Grew w wr none

set_option maxRecDepth 100000 in
set_option maxHeartbeats 8000000 in
theorem builderActs_less (w : World) (a : Int) (A : Option Addr) (c : Nat) (zs : List Ac) (hl : zs.length ≤ c) (hc : c ≤ 140737488351232) (hz : Acts w A zs) (hok : ∀ z ∈ zs, z.ok w) (hg : grt zs = false)
    (M n : Nat) (hM : (if (0 : Int) < a then a else 0) = (M : Int)) (hn : (M : Int) % 2000 = (n : Int)) :
    Calls Try.prog 3 #[.int .i64 a, .slice A zs.length c] w fun e w' => e = .returned (.bool true) ∧ Below w.heap.size w w' := by
  have hn2 : n < 2000 := by omega
  have HZ := Lib.hid hz
  have HG := Lib.hid hg
  have HOK := Lib.hid hok
  clear hz hg hok
  go_enter Try.func3, Try.ntmps3
  go_wp2_with fail
  refine (alive2_any w).mono ?_
  rintro e w1 ⟨rfl, g1⟩
  go_wp2_with fail
  refine (great_any w1 A c zs hc hl (HZ.out.grew g1)).mono ?_
  rintro e w2 ⟨rfl, g2⟩
  rw [HG.out]
  have g3 := grew_trans g1 g2
  clear g1 g2
  go_wp2_with fail
  refine (bnew_ok w2 n (by omega)).mono ?_
  rintro e w3 ⟨rfl, h3, g4⟩
  have hps : w.heap.size ≤ w2.heap.size := g3.size
  have H3 := Lib.hid h3
  have g5 := grew_trans g3 g4
  clear h3 g3 g4
  generalize w2.heap.size = p at *
  go_wp2_with fail
  refine (rnew_ok w3 n (by omega)).mono ?_
  rintro e w4 ⟨m, rfl, ⟨G, h4, hG4⟩, g6⟩
  have HR := Lib.hid (show ActRel w w4 p m n [] [] from ⟨_, G, _, _, H3.out.fr (Fr.of_grew g6) (fun _ _ h => by cases h), h4, ⟨rfl, rfl, rfl⟩, fun i hi hg => by
    have := hG4 i hg
    have := H3.out.has i hi
    omega, fun i hi => by omega, fun i hi => by have := hG4 i hi; have := g5.size; omega, grew_trans g5 g6⟩)
  clear h4 hG4 g5 g6 H3 hM hn
  go_wp2_with fail
  go_loopw [38] (fun i wr => ∃ (k : Nat) (xs : List UInt8) (ps : List (Nat × Nat)), k ≤ zs.length ∧ i = .int .i64 k ∧ Hid (ActRel w wr p m n xs ps)) (fun i _ => zs.length - (intOf i).toNat)
  case atStart => exact ⟨0, [], [], Nat.zero_le _, rfl, HR⟩
  case round =>
    obtain ⟨k, xs, ps, hk, rfl, R⟩ := hrel
    by_cases hlt : k < zs.length
    · obtain ⟨F, G, parts, sizes, r1, r2, r3, r4, r5, r6, r7⟩ := R.out
      obtain ⟨b, o, rfl, hb, c0, c1, c2, c3, c4⟩ := HZ.out.cell r7 hlt
      have hm : zs.getD k default ∈ zs := by
        rw [List.getD, List.getElem?_eq_getElem hlt]
        exact List.getElem_mem hlt
      have hx := (HOK.out _ hm).1
      have hby := (HOK.out _ hm).2.grew r7 (fun _ h => by cases h)
      generalize zs.getD k default = ac at *
      obtain ⟨kd, sz, nn, x, B, cB, bs⟩ := ac
      simp only at c0 c1 c2 c3 c4 hx hby
      clear hm
      -- the act in its box
      have fb : Fr wr (wr.alloc (.cells #[.int .i64 kd, .int .i64 sz, .int .i64 nn, .int .u64 x, .slice B bs.length cB] 34)).drew (fun _ => False) := ((Fr.refl _ _).alloc _).drew
      have hbox : Whole (wr.alloc (.cells #[.int .i64 kd, .int .i64 sz, .int .i64 nn, .int .u64 x, .slice B bs.length cB] 34)).drew wr.heap.size #[.int .i64 kd, .int .i64 sz, .int .i64 nn, .int .u64 x, .slice B bs.length cB] 34 := Whole.new wr _ _
      have hby1 := (hby.byf).fr fb (fun _ _ h => h)
      have hdo := do_any _ F p n xs ps (r1.fr fb (fun _ _ h => h)) ⟨kd, sz, nn, x, B, cB, bs⟩ hx _ hby1
      have hmo := fun (w5 : World) (h : Rb w5 G m n parts sizes) (hb : ByF w5 (fun i => i < w.heap.size) B bs) => model_any w5 G m n parts sizes h xs ps r3 ⟨kd, sz, nn, x, B, cB, bs⟩ hx _ hb
      simp only [Ac.cells] at hdo hmo
      have hnF : ¬ F wr.heap.size := fun h => by have := r1.has _ h; omega
      have hnG : ¬ G wr.heap.size := fun h => by have := r2.has _ h; omega
      have hz5 : wr.heap.size < (wr.alloc (.cells #[.int .i64 kd, .int .i64 sz, .int .i64 nn, .int .u64 x, .slice B bs.length cB] 34)).drew.heap.size := by simp
      generalize doE n xs ps ⟨kd, sz, nn, x, B, cB, bs⟩ = E at *
      generalize doX n xs ps ⟨kd, sz, nn, x, B, cB, bs⟩ = X at *
      generalize doP n xs ps ⟨kd, sz, nn, x, B, cB, bs⟩ = Z at *
      have HMO := Lib.hid hmo
      have HDO := Lib.hid hdo
      have HBOX := Lib.hid hbox
      have R2 := Lib.hid (r2.fr fb (fun _ _ h => h))
      have R4 := Lib.hid r4
      have R5 := Lib.hid r5
      have R6 := Lib.hid r6
      have R7 := Lib.hid (grew_fr r7 fb (fun _ h => h.elim))
      have HNF := Lib.hid hnF
      have HNG := Lib.hid hnG
      have HBY := Lib.hid hby1
      have hzw : w.heap.size ≤ wr.heap.size := r7.size
      clear r1 r2 r3 r4 r5 r6 r7 hdo hmo hbox hnF hnG hby hby1 fb R hx
      go_wp2_with fail
      have hbox0 : Whole (wr.alloc (.cells #[.int .i64 kd, .int .i64 sz, .int .i64 nn, .int .u64 x, .slice B bs.length cB] 34)) wr.heap.size #[.int .i64 kd, .int .i64 sz, .int .i64 nn, .int .u64 x, .slice B bs.length cB] 34 := Whole.new wr _ _
      have HBOX0 := Lib.hid hbox0
      clear c0 c1 c2 c3 c4 hbox0
      generalize wr.alloc (.cells #[.int .i64 kd, .int .i64 sz, .int .i64 nn, .int .u64 x, .slice B bs.length cB] 34) = W0 at *
      generalize wr.heap.size = z at *
      have ks : ∀ V : World, Whole V z #[.int .i64 kd, .int .i64 sz, .int .i64 nn, .int .u64 x, .slice B bs.length cB] 34 → V.cell? ⟨z, 0, none⟩ = some (.int .i64 kd) ∧ V.cell? ⟨z, 1, none⟩ = some (.int .i64 sz) ∧ V.cell? ⟨z, 2, none⟩ = some (.int .i64 nn) ∧ V.cell? ⟨z, 3, none⟩ = some (.int .u64 x) ∧ V.cell? ⟨z, 4, none⟩ = some (.slice B bs.length cB) :=
        fun V h => ⟨h.cell 0, h.cell 1, h.cell 2, h.cell 3, h.cell 4⟩
      have KS := Lib.hid ks
      obtain ⟨e0, e1, e2, e3, e4⟩ := ks _ HBOX0.out
      clear ks
      go_region_law ((go_simp; first
          | (go_at_call 13; refine HDO.out.mono ?_; rintro e w5 ⟨rfl, F5, b5, f5, n5⟩; have HBOX4 := Lib.hid (HBOX.out.fr f5 HNF.out); have hmc := HMO.out w5 (R2.out.fr f5 (fun i hi hf => R4.out i hf hi)) (HBY.out.fr f5 (fun i hi hf => by have := R5.out i hf; omega)); have HMC := Lib.hid hmc; have A5 := Lib.hid (apart_new n5 R4.out R2.out.has); have F5' := Lib.hid (show ∀ i, F5 i → w.heap.size ≤ i from fun i hi => by rcases n5 i hi with h | h; exact R5.out i h; (have := HBOX.out.lt; omega)); have G5 := Lib.hid (grew_fr R7.out f5 R5.out); have B5 := Lib.hid b5; obtain ⟨d0, d1, d2, d3, d4⟩ := KS.out _ HBOX4.out; clear b5 f5 n5 hmc)
          | (go_at_call 14; refine HMC.out.mono ?_; rintro e w6 ⟨rfl, parts6, sizes6, ⟨G6, c6, f6, n6⟩, s6⟩; have b6 := B5.out.fr f6 A5.out; have hl6 := blen_any w6 F5 p n X Z b6; have hr6 := rlen_any w6 G6 m n parts6 sizes6 c6; have hd6 := bdeep_any w6 F5 p n X Z b6; rw [s6.len.1] at hr6; rw [s6.len.2] at hd6; have HL6 := Lib.hid hl6; have HR6 := Lib.hid hr6; have HD6 := Lib.hid hd6; obtain ⟨vP6, vS6, vs6, q1, q2, q3, _⟩ := id c6; obtain ⟨AS6, cS6, rfl, _⟩ := own_form q3; have hcm := q1.cell 2; simp only [List.getElem?_toArray, List.getElem?_cons_succ, List.getElem?_cons_zero] at hcm; have HREL := Lib.hid (show ActRel w w6 p m n X Z from ⟨F5, G6, parts6, sizes6, b6, c6, s6, fun i hf hg => apart_new n6 (fun i hg hf => A5.out i hf hg) B5.out.has i hg hf, F5'.out, fun i hi => by rcases n6 i hi with h | h; exact R6.out i h; (have := G5.out.size; omega), grew_fr G5.out f6 R6.out⟩); clear q1 q2 q3 b6 hl6 hr6 hd6 c6 f6 n6 s6)
          | (go_at_call 15; refine HL6.out.mono ?_; rintro e w7 ⟨rfl, rfl⟩)
          | (go_at_call 16; refine HR6.out.mono ?_; rintro e w7 ⟨rfl, rfl⟩)
          | (go_at_call 17; refine HD6.out.mono ?_; rintro e w7 ⟨rfl, rfl⟩)))
      all_goals
        go_wp2_with fail
        go_roundw
        case rel => exact ⟨k + 1, X, Z, by omega, by go_num, HREL⟩
        case measure => simp [intOf]; omega
    · obtain ⟨F, G, parts, sizes, r1, r2, r3, r4, r5, r6, r7⟩ := R.out
      obtain ⟨ht, hpl⟩ := r3.len
      obtain ⟨vP, vS, vs, q1, q2, q3, q4, _⟩ := id r2
      obtain ⟨AS, cS, rfl, _⟩ := own_form q3
      have R1 := Lib.hid r1
      have R3 := Lib.hid r3
      have R7 := Lib.hid r7
      by_cases hs0 : 0 < sizes.length
      · have hcm := q1.cell 2
        simp only [List.getElem?_toArray, List.getElem?_cons_succ, List.getElem?_cons_zero] at hcm
        have hps : 0 < ps.length := by omega
        clear r1 r2 r3 r4 r5 r6 r7 q1 q2 q3 q4 ht hpl R
        generalize sizes.length = ns at *
        go_wp2_with fail
        refine (bdone_state wr F p n xs ps R1.out hps).mono ?_
        rintro e w8 ⟨rfl, rfl⟩
        go_wp2_with fail
        go_ret
        exact ⟨rfl, grew_below R7.out (Nat.le_refl _) (fun _ h => by cases h)⟩
      · have hs1 : sizes = [] := List.eq_nil_of_length_eq_zero (by omega)
        subst hs1
        have hp0 : ps = [] := List.eq_nil_of_length_eq_zero (by rw [hpl]; rfl)
        subst hp0
        obtain ⟨P0, hparts⟩ : ∃ P0, parts = [P0] := by
          have := r3.2.2
          match parts, this with
          | [P0], _ => exact ⟨P0, rfl⟩
        subst hparts
        have hx0 : xs = P0 := r3.1
        subst hx0
        have hvl : vs.length = 1 := q4.1
        rw [hvl] at q2
        obtain ⟨gP, cP, rfl, _, hgl⟩ := q2.form (by omega)
        have ho := q4.2 0 (by simp)
        have e0 : ([xs] : List (List UInt8)).getD 0 [] = xs := rfl
        rw [e0] at ho
        obtain ⟨A0, cc0, e1, _⟩ := own_form ho
        rw [e1] at ho
        have hcv : wr.cell? ⟨gP, 0, none⟩ = some (.slice A0 xs.length cc0) := by
          rw [q2.cellAt 0 (by omega), List.getElem?_eq_getElem (by omega), ← e1]
          simp [List.getD, hvl]
        have hcm := q1.cell 2
        have hcp := q1.cell 1
        simp only [List.getElem?_toArray, List.getElem?_cons_succ, List.getElem?_cons_zero, List.length_nil] at hcm hcp
        have HO := Lib.hid ho
        clear r1 r2 r3 r4 r5 r6 r7 q1 q2 q3 q4 ht hpl R ho e0 e1 hvl hs0
        go_wp2_with fail
        refine (bdone_ok wr F p n xs R1.out).mono ?_
        rintro e w8 ⟨rfl, b8, g8, l8⟩
        have hcm8 := g8.cell hcm (by simp)
        have hcp8 := g8.cell hcp (by simp)
        have hcv8 := g8.cell hcv (by simp)
        have hcv1 : ∀ k', (convert 32 9 (.slice (some ⟨wr.heap.size, 0, none⟩) xs.length xs.length)).run Try.prog (w8.drewN k') = .ok (.string (txt xs)) (w8.drewN k') := fun k' => conv_txt (w8.drewN k') Try.underlying32 Try.underlying5 Try.underlying9 (b8.fr (G := fun _ => False) ((Fr.refl _ _).drewN k') (fun _ _ h => h)).byt rfl xs.length
        have hcv2 : ∀ k', (convert 32 9 (.slice A0 xs.length cc0)).run Try.prog (w8.drewN k') = .ok (.string (txt xs)) (w8.drewN k') := fun k' => conv_txt (w8.drewN k') Try.underlying32 Try.underlying5 Try.underlying9 (((own_by HO.out).fr (Fr.of_grew g8) (fun _ _ h => by cases h)).fr (G := fun _ => False) ((Fr.refl _ _).drewN k') (fun _ _ h => h)).byt rfl cc0
        generalize txt xs = T at *
        have hfin := grew_trans R7.out g8
        clear b8 hcm hcp hcv g8
        generalize wr.heap.size = d at *
        go_wp2_with fail
        go_quiet (fail)
        go_wp2_with fail
        go_ret
        exact ⟨rfl, grew_below (grew_drewN hfin _) (Nat.le_refl _) (fun _ h => by cases h)⟩

theorem builderActs_walk (w : World) (a : Int) (_ : (Lit.int .i64 a).wf = true) (A : Option Addr) (c : Nat) (zs : List Ac) (hl : zs.length ≤ c) (hc : c ≤ 140737488351232) (hz : Acts w A zs) (hok : ∀ z ∈ zs, z.ok w) :
    Calls Try.prog 3 #[.int .i64 a, .slice A zs.length c] w fun e w' => e = .returned (.bool true) ∧ Below w.heap.size w w' := by
  obtain ⟨M, hM⟩ : ∃ M : Nat, (if (0 : Int) < a then a else 0) = (M : Int) := by
    by_cases h : (0 : Int) < a
    · exact ⟨a.toNat, by rw [if_pos h]; omega⟩
    · exact ⟨0, by rw [if_neg h]; rfl⟩
  cases hg : grt zs with
  | true => exact builderActs_great w a A c zs hl hc hz hg
  | false => exact builderActs_less w a A c zs hl hc hz hok hg M (M % 2000) hM (by omega)

set_option maxRecDepth 100000 in
theorem builderActs_lifted (os : Os) (started : os.Started) (H : Type) (enc : TypeId × Value → H) :
    ReturnsInHanded {} Try.checked os 3 .any (Rows.builderActsSpec.pre6 enc Try.prog Try.f3 Rows.builderActsRow.domain false) (Rows.builderActsSpec.post enc Try.prog Try.f3 false true false false) := by
  refine returnsInHanded_of_change_sized (C := Try.checked) own started (by kernel_rfl) Try.func3
    (ChangeSpec.witness6 (enc := enc) (C := Try.checked) false ⟨#[], #[.int .i64 0, .slice none 0 0], []⟩ 8 (by kernel_rfl) (by kernel_rfl) (by kernel_rfl) (by kernel_rfl)) ?_
  intro W base args ds gs before hval0 hW hcnd hsz0 _
  have hval : ∀ (j : Nat) t v, Try.f3.params[j]? = some t → args[j]? = some v → Value.okWide Try.prog W .any base t v := hval0
  have hsz : (DataW.weightsEach Try.prog (Try.f3.params.toList ++ Rows.builderActsSpec.plain.varTypes Try.prog) (ds ++ gs)).all (· ≤ reachBytes) = true := hsz0
  have hW' := hW
  obtain ⟨p, q, hA0, hV, rfl, hfz, hnd⟩ := hW
  have hA : DataW.TrodAll enc Try.prog W 0 (fun _ => true) true Try.f3.params.toList args.toList ds p := hA0
  rw [Try.params3] at hA hval hsz
  obtain ⟨v0, vs0, d0, ds0, p0, q0, hargs, rfl, rfl, h0, r0⟩ := trodAll_cons hA
  obtain ⟨v1, vs1, d1, ds1, p1, q1, rfl, rfl, rfl, h1, r1⟩ := trodAll_cons r0
  obtain ⟨rfl, rfl, rfl⟩ := trodAll_nil r1
  obtain rfl : args = #[v0, v1] := by cases args; simp_all
  obtain ⟨rfl, rfl⟩ := trodVars_none hV
  obtain ⟨a0, rfl, rfl, rfl, w0⟩ := open_int Try.underlying3 (hval 0 3 v0 rfl rfl) h0
  have k1 := h1
  have lt1 : ∀ x ∈ p1, x.block < W.heap.size := by obtain ⟨m, hm⟩ := k1; exact DataW.trod_lt m _ _ _ hm
  obtain ⟨A1, c1, x1, rfl, l1, m1, b1, w1⟩ := arg_acts (hval 1 22 v1 rfl rfl) h1 hsz (j := 1) rfl rfl
  clear hA0 hval0 hsz0
  refine (builderActs_walk W a0 w0 A1 c1 x1 l1 m1 b1 w1).mono fun e W' ⟨he, bel⟩ => ?_
  subst he
  exact ⟨_, rfl, _, _, _, [], _, [], hW', trodAll_mk1 (shut_bool Try.underlying4 _), (trodAll_cons_mk (shut_int Try.underlying3 w0) (trodAll_cons_mk (Below.trod laidOut (by kernel_rfl) (of_decide_eq_true (by kernel_rfl)) k1 bel lt1) trodAll_mk0)), rfl, bel.frame _, fun h => by cases h⟩

theorem builderActs_over : Rows.builderActsRow.holds Try.pinned (OpenSpec.ofChange Rows.builderActsSpec) :=
  OpenClaim.holds_of_wide 3 Try.f3 rfl rfl rfl rfl rfl rfl rfl ⟨rfl, rfl, rfl, rfl, rfl⟩ rfl rfl rfl rfl rfl (by kernel_rfl) Try.func3 (by kernel_rfl)
    (of_decide_eq_true (by kernel_rfl)) (by unfold Func.isWrapper; first | (rw [if_pos (by decide +kernel)]; kernel_rfl) | (rw [if_neg (by decide +kernel)]; exact ⟨rfl, rfl⟩))
    (fun os started H enc _ => builderActs_lifted os started H enc)

theorem builderActs_holds : Rows.BuilderActsSaid := builderActs_over
#print axioms builderActs_holds
end Go.Proofs.Ytkeiamihgcbcbaa

