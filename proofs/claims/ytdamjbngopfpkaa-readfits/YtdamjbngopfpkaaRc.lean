/- What is wrong with a form: the document's answer. -/
import Derived.Test.YtdamjbngopfpkaaOw1
import Derived.Test.YtdamjbngopfpkaaOw2
import Derived.Test.YtdamjbngopfpkaaRf
import Derived.Test.YtdamjbngopfpkaaFc
namespace Go.Proofs.Ytdamjbngopfpkaa
open Go.RowKit Fo

theorem own1_any (w : World) (s l h t : Int) (A : Option Addr) (n c : Nat) :
    Calls Try.prog 41 #[.agg #[.int .i64 1, .int .i64 s, .int .i64 l, .int .i64 h, .int .i64 t, .slice A n c]] w fun e w' => e = .returned (.int .i64 (alone 1 s l h t n)) ∧ Grew w w' none := by
  rw [alone_12 (by omega)]
  by_cases h1 : s < 1
  · rw [if_neg (by omega)]; exact own1_small w s l h t A n c h1
  by_cases h3 : 3 < s
  · rw [if_neg (by omega)]; exact own1_wide w s l h t A n c h3
  rw [if_pos (by omega)]
  have key : s = 1 ∨ s = 2 ∨ s = 3 := by omega
  rcases key with rfl | rfl | rfl
  · have e0 : (256 : Int) ^ ((1 : Int).toNat) - 1 = 255 := by decide
    rw [e0]
    by_cases ha : l < 0
    · rw [if_neg (by omega)]; exact own1_1_a w l h t A n c ha
    by_cases hb : h < l
    · rw [if_neg (by omega)]; exact own1_1_b w l h t A n c (by omega) hb
    by_cases hc : 255 < h
    · rw [if_neg (by omega)]; exact own1_1_c w l h t A n c (by omega) (by omega) hc
    by_cases hd : t < 1
    · rw [if_neg (by omega)]; exact own1_1_d w l h t A n c (by omega) (by omega) (by omega) hd
    by_cases he : 65536 < t
    · rw [if_neg (by omega)]; exact own1_1_e w l h t A n c (by omega) (by omega) (by omega) he
    rw [if_pos (by omega)]
    rw [if_neg (by omega)]; exact own1_1_ok w l h t A n c (by omega) (by omega) (by omega) (by omega) (by omega)
  · have e0 : (256 : Int) ^ ((2 : Int).toNat) - 1 = 65535 := by decide
    rw [e0]
    by_cases ha : l < 0
    · rw [if_neg (by omega)]; exact own1_2_a w l h t A n c ha
    by_cases hb : h < l
    · rw [if_neg (by omega)]; exact own1_2_b w l h t A n c (by omega) hb
    by_cases hc : 65535 < h
    · rw [if_neg (by omega)]; exact own1_2_c w l h t A n c (by omega) (by omega) hc
    by_cases hd : t < 1
    · rw [if_neg (by omega)]; exact own1_2_d w l h t A n c (by omega) (by omega) (by omega) hd
    by_cases he : 65536 < t
    · rw [if_neg (by omega)]; exact own1_2_e w l h t A n c (by omega) (by omega) (by omega) he
    rw [if_pos (by omega)]
    rw [if_neg (by omega)]; exact own1_2_ok w l h t A n c (by omega) (by omega) (by omega) (by omega) (by omega)
  · have e0 : (256 : Int) ^ ((3 : Int).toNat) - 1 = 16777215 := by decide
    rw [e0]
    by_cases ha : l < 0
    · rw [if_neg (by omega)]; exact own1_3_a w l h t A n c ha
    by_cases hb : h < l
    · rw [if_neg (by omega)]; exact own1_3_b w l h t A n c (by omega) hb
    by_cases hc : 16777215 < h
    · rw [if_neg (by omega)]; exact own1_3_c w l h t A n c (by omega) (by omega) hc
    by_cases hd : t < 1
    · rw [if_neg (by omega)]; exact own1_3_d w l h t A n c (by omega) (by omega) (by omega) hd
    by_cases he : 65536 < t
    · rw [if_neg (by omega)]; exact own1_3_e w l h t A n c (by omega) (by omega) (by omega) he
    rw [if_pos (by omega)]
    rw [if_neg (by omega)]; exact own1_3_ok w l h t A n c (by omega) (by omega) (by omega) (by omega) (by omega)

theorem own2_any (w : World) (s l h t : Int) (A : Option Addr) (n c : Nat) :
    Calls Try.prog 41 #[.agg #[.int .i64 2, .int .i64 s, .int .i64 l, .int .i64 h, .int .i64 t, .slice A n c]] w fun e w' => e = .returned (.int .i64 (alone 2 s l h t n)) ∧ Grew w w' none := by
  rw [alone_12 (by omega)]
  by_cases h1 : s < 1
  · rw [if_neg (by omega)]; exact own2_small w s l h t A n c h1
  by_cases h3 : 3 < s
  · rw [if_neg (by omega)]; exact own2_wide w s l h t A n c h3
  rw [if_pos (by omega)]
  have key : s = 1 ∨ s = 2 ∨ s = 3 := by omega
  rcases key with rfl | rfl | rfl
  · have e0 : (256 : Int) ^ ((1 : Int).toNat) - 1 = 255 := by decide
    rw [e0]
    by_cases ha : l < 0
    · rw [if_neg (by omega)]; exact own2_1_a w l h t A n c ha
    by_cases hb : h < l
    · rw [if_neg (by omega)]; exact own2_1_b w l h t A n c (by omega) hb
    by_cases hc : 255 < h
    · rw [if_neg (by omega)]; exact own2_1_c w l h t A n c (by omega) (by omega) hc
    by_cases hd : t < 1
    · rw [if_neg (by omega)]; exact own2_1_d w l h t A n c (by omega) (by omega) (by omega) hd
    by_cases he : 65536 < t
    · rw [if_neg (by omega)]; exact own2_1_e w l h t A n c (by omega) (by omega) (by omega) he
    rw [if_pos (by omega)]
    by_cases hn : n = 1
    · rw [if_neg (by omega)]; exact own2_1_ok w l h t A n c (by omega) (by omega) (by omega) (by omega) (by omega) (by subst hn; rfl)
    · rw [if_pos (by omega)]; exact own2_1_many w l h t A n c (by omega) (by omega) (by omega) (by omega) (by omega) (ne_bne (by omega))
  · have e0 : (256 : Int) ^ ((2 : Int).toNat) - 1 = 65535 := by decide
    rw [e0]
    by_cases ha : l < 0
    · rw [if_neg (by omega)]; exact own2_2_a w l h t A n c ha
    by_cases hb : h < l
    · rw [if_neg (by omega)]; exact own2_2_b w l h t A n c (by omega) hb
    by_cases hc : 65535 < h
    · rw [if_neg (by omega)]; exact own2_2_c w l h t A n c (by omega) (by omega) hc
    by_cases hd : t < 1
    · rw [if_neg (by omega)]; exact own2_2_d w l h t A n c (by omega) (by omega) (by omega) hd
    by_cases he : 65536 < t
    · rw [if_neg (by omega)]; exact own2_2_e w l h t A n c (by omega) (by omega) (by omega) he
    rw [if_pos (by omega)]
    by_cases hn : n = 1
    · rw [if_neg (by omega)]; exact own2_2_ok w l h t A n c (by omega) (by omega) (by omega) (by omega) (by omega) (by subst hn; rfl)
    · rw [if_pos (by omega)]; exact own2_2_many w l h t A n c (by omega) (by omega) (by omega) (by omega) (by omega) (ne_bne (by omega))
  · have e0 : (256 : Int) ^ ((3 : Int).toNat) - 1 = 16777215 := by decide
    rw [e0]
    by_cases ha : l < 0
    · rw [if_neg (by omega)]; exact own2_3_a w l h t A n c ha
    by_cases hb : h < l
    · rw [if_neg (by omega)]; exact own2_3_b w l h t A n c (by omega) hb
    by_cases hc : 16777215 < h
    · rw [if_neg (by omega)]; exact own2_3_c w l h t A n c (by omega) (by omega) hc
    by_cases hd : t < 1
    · rw [if_neg (by omega)]; exact own2_3_d w l h t A n c (by omega) (by omega) (by omega) hd
    by_cases he : 65536 < t
    · rw [if_neg (by omega)]; exact own2_3_e w l h t A n c (by omega) (by omega) (by omega) he
    rw [if_pos (by omega)]
    by_cases hn : n = 1
    · rw [if_neg (by omega)]; exact own2_3_ok w l h t A n c (by omega) (by omega) (by omega) (by omega) (by omega) (by subst hn; rfl)
    · rw [if_pos (by omega)]; exact own2_3_many w l h t A n c (by omega) (by omega) (by omega) (by omega) (by omega) (ne_bne (by omega))

theorem own_any (w : World) (k s l h t : Int) (A : Option Addr) (n c : Nat) :
    Calls Try.prog 41 #[.agg #[.int .i64 k, .int .i64 s, .int .i64 l, .int .i64 h, .int .i64 t, .slice A n c]] w fun e w' => e = .returned (.int .i64 (alone k s l h t n)) ∧ Grew w w' none := by
  by_cases h0 : k = 0
  · subst h0
    by_cases hs : s = 1 ∨ s = 2 ∨ s = 3 ∨ s = 4 ∨ s = 8
    · have e : alone 0 s l h t n = 0 := by unfold alone; rw [if_pos rfl, if_pos hs]
      rw [e]
      rcases hs with rfl | rfl | rfl | rfl | rfl
      · exact own0_1 w l h t A n c
      · exact own0_2 w l h t A n c
      · exact own0_3 w l h t A n c
      · exact own0_4 w l h t A n c
      · exact own0_8 w l h t A n c
    · have e : alone 0 s l h t n = 3 := by unfold alone; rw [if_pos rfl, if_neg hs]
      rw [e]; exact own0_no w s l h t A n c (ne_bne (by omega)) (ne_bne (by omega)) (ne_bne (by omega)) (ne_bne (by omega)) (ne_bne (by omega))
  by_cases h4 : k = 4
  · subst h4
    have e : alone 4 s l h t n = if 0 ≤ l ∧ l ≤ h ∧ h ≤ 16777215 then 0 else 5 := by unfold alone; rw [if_neg (by omega), if_pos rfl]
    rw [e]
    by_cases ha : l < 0
    · rw [if_neg (by omega)]; exact own4_a w s l h t A n c ha
    by_cases hb : h < l
    · rw [if_neg (by omega)]; exact own4_b w s l h t A n c (by omega) hb
    by_cases hc : 16777215 < h
    · rw [if_neg (by omega)]; exact own4_c w s l h t A n c (by omega) (by omega) hc
    rw [if_pos (by omega)]; exact own4_ok w s l h t A n c (by omega) (by omega) (by omega)
  by_cases h5 : k = 5
  · subst h5
    have e : alone 5 s l h t n = if 0 ≤ l ∧ l ≤ 16777215 then 0 else 5 := by unfold alone; rw [if_neg (by omega), if_neg (by omega), if_pos rfl]
    rw [e]
    by_cases ha : l < 0
    · rw [if_neg (by omega)]; exact own5_a w s l h t A n c ha
    by_cases hb : 16777215 < l
    · rw [if_neg (by omega)]; exact own5_b w s l h t A n c (by omega) hb
    rw [if_pos (by omega)]; exact own5_ok w s l h t A n c (by omega) (by omega)
  by_cases h1 : k = 1
  · subst h1; exact own1_any w s l h t A n c
  by_cases h2 : k = 2
  · subst h2; exact own2_any w s l h t A n c
  by_cases h3 : k = 3
  · subst h3
    have e : alone 3 s l h t n = if n ≤ 32 then 0 else 15 := by unfold alone; rw [if_neg (by omega), if_neg (by omega), if_neg (by omega), if_neg (by omega), if_pos rfl]
    rw [e]
    by_cases hs : n ≤ 32
    · rw [if_pos hs]; exact own3_ok w s l h t A n c hs
    · rw [if_neg hs]; exact own3_no w s l h t A n c (by omega)
  have e : alone k s l h t n = 2 := by unfold alone; rw [if_neg h0, if_neg h4, if_neg h5, if_neg (by omega), if_neg h3]
  rw [e]
  by_cases hk : k < 0
  · exact own_neg w k s l h t A n c hk
  · exact own_big w k s l h t A n c (by omega)

/-- An open part where it may not stand. -/
theorem mis_true {k : Int} {ps : List Fo} {j : Nat} {p : Fo} (hk : k = 2 ∨ k = 3) (hj : ps[j]? = some p) (ho : p.opn = true) (hw : k = 2 ∨ j + 1 < ps.length) : mis k ps = true := by
  unfold mis
  by_cases h2 : k = 2
  · rw [if_pos h2, List.any_eq_true]
    exact ⟨p, List.mem_of_getElem? hj, by simp [ho]⟩
  · rw [if_neg h2, if_pos (by omega), List.any_eq_true]
    refine ⟨p, ?_, ho⟩
    have : ps.dropLast[j]? = some p := by rw [List.dropLast_eq_take, List.getElem?_take, if_pos (by omega)]; exact hj
    exact List.mem_of_getElem? this
/-- None of them. -/
def Shut (k : Int) (qs : List Fo) (i : Nat) : Prop := ∀ (j : Nat) (p : Fo), j < i → qs[j]? = some p → (k = 2 ∨ j + 1 < qs.length) → p.opn = false
theorem mis_three_false {ps : List Fo} (h : Shut 3 ps ps.length) : mis 3 ps = false := by
  unfold mis
  rw [if_neg (by omega), if_pos rfl, List.any_eq_false]
  intro p hp
  obtain ⟨j, hj⟩ := List.mem_iff_getElem?.1 hp
  rw [List.dropLast_eq_take, List.getElem?_take] at hj
  split at hj
  · have hl : j < ps.length := by
      rcases Nat.lt_or_ge j ps.length with h | h
      · exact h
      · rw [List.getElem?_eq_none h] at hj; cases hj
    have := h j p hl hj (.inr (by omega))
    simp [this]
  · cases hj
theorem mis_two_shut {p : Fo} (h : Shut 2 [p] 1) : mis 2 [p] = decide (p.len false = 0) := by
  have := h 0 p (by omega) rfl (.inl rfl)
  simp [mis, this]
theorem mis_else_false {k : Int} {ps : List Fo} (h : ¬ (k = 2 ∨ k = 3)) : mis k ps = false := by
  unfold mis
  rw [if_neg (by omega), if_neg (by omega)]

set_option maxRecDepth 100000 in
set_option maxHeartbeats 4000000 in
theorem rcheck_any (f : Fo) : ∀ (w : World), f.In w →
    Calls Try.prog 32 #[f.val] w fun e w' => e = .returned (.int .i64 f.wrg) ∧ Grew w w' none := by
  induction f using Fo.ind with
  | H k s l h t A c ps ih =>
  intro w hin
  obtain ⟨A', c', qs, hv, hqs, hlz, hlie, hmem⟩ := hin.inner
  have hW := wrg_eq k s l h t A c ps
  rw [hqs] at hW
  have h2 : k = 2 → alone k s l h t ps.length = 0 → ps.length = 1 := fun hk h0 => by subst hk; exact alone_two h0
  have hqk : (k = 2 ∨ k = 3) → qs = ps := fun hk => by rw [← hqs, inn, if_pos hk]
  have hqn : ¬ (k = 2 ∨ k = 3) → qs = [] := fun hk => by rw [← hqs, inn, if_neg hk]
  generalize hX : wrg (.mk k s l h t A c ps) = X at *
  have HX := Lib.hid hW
  have HAL := Lib.hid (fun w => own_any w k s l h t A ps.length c)
  have H2 := Lib.hid h2
  have HQK := Lib.hid hqk
  have HQN := Lib.hid hqn
  have IH := Lib.hid ih
  have HL := Lib.hid hlie
  have HM := Lib.hid hmem
  have HV := Lib.hid hv
  clear ih hlie hmem hv hqs hin hW h2 hX hqk hqn
  change Calls Try.prog 32 #[.agg #[.int .i64 k, .int .i64 s, .int .i64 l, .int .i64 h, .int .i64 t, .slice A ps.length c]] w _
  generalize alone k s l h t ps.length = E at *
  go_enter Try.func32, Try.ntmps32
  go_wp2_with fail
  refine (HAL.out _).mono ?_
  rintro e w1 ⟨rfl, g1⟩
  by_cases he : E = 0
  · have HX2 := Lib.hid (show X = if wrgs qs ≠ 0 then wrgs qs else if mis k ps then 15 else 0 by rw [HX.out, if_neg (by simpa using he)])
    have H21 := Lib.hid (show k = 2 → ps.length = 1 from fun hk => H2.out hk he)
    clear H2 HX
    subst he
    have hw1 := (Whole.new w #[.int .i64 k, .int .i64 s, .int .i64 l, .int .i64 h, .int .i64 t, .slice A ps.length c] 24).grew g1 (by simp)
    obtain ⟨c0, c1, c2, c3, c4, c5⟩ := hw1.six
    have HW1 := Lib.hid hw1
    have HG1 := Lib.hid (grew_trans (grew_alloc (grew_refl w none) _) g1)
    have HQ := Lib.hid (show ∃ q, q = w.heap.size from ⟨_, rfl⟩)
    clear g1 hw1
    generalize w.heap.size = q at *
    go_wp2_with fail
    refine (parts_any _ (.mk k s l h t A c ps)).mono ?_
    rintro e w2 ⟨rfl, g2⟩
    rw [HV.out]
    have HR := Lib.hid (show Grew w w2 none ∧ Whole w2 q #[.int .i64 k, .int .i64 s, .int .i64 l, .int .i64 h, .int .i64 t, .slice A ps.length c] 24 ∧ wrgs (qs.take 0) = 0 from ⟨grew_trans HG1.out g2, HW1.out.grew g2 (by simp), by simp [wrgs]⟩)
    clear g2 c0 c1 c2 c3 c4 c5 HAL
    go_wp2_with fail
    go_loopw [5] (fun i wr => ∃ n : Nat, n ≤ qs.length ∧ i = .int .i64 n ∧ Hid (Grew w wr none ∧ Whole wr q #[.int .i64 k, .int .i64 s, .int .i64 l, .int .i64 h, .int .i64 t, .slice A ps.length c] 24 ∧ wrgs (qs.take n) = 0)) (fun i _ => qs.length - (intOf i).toNat)
    case atStart => exact ⟨0, Nat.zero_le _, rfl, HR⟩
    case round =>
      obtain ⟨n, hn, rfl, R⟩ := hrel
      by_cases hlt : n < qs.length
      · obtain ⟨b, o, p, rfl, hp, hpm, c0, c1, c2, c3, c4, c5⟩ := (HL.out.grew R.out.1).at hlt
        have HP := Lib.hid (show qs[n]? = some p ∧ p ∈ qs from ⟨hp, hpm⟩)
        clear hp hpm
        go_wp2_with fail
        refine (IH.out p (HM.out p HP.out.2).1 _ ((HM.out p HP.out.2).2.grew R.out.1)).mono ?_
        rintro e w3 ⟨rfl, g3⟩
        have HG3 := Lib.hid (grew_trans R.out.1 g3)
        by_cases hd : wrg p = 0
        · have HR2 := Lib.hid (show Grew w w3 none ∧ Whole w3 q #[.int .i64 k, .int .i64 s, .int .i64 l, .int .i64 h, .int .i64 t, .slice A ps.length c] 24 ∧ wrgs (qs.take (n + 1)) = 0 from
            ⟨HG3.out, R.out.2.1.grew g3 (by simp), by rw [wrgs_take HP.out.1 R.out.2.2, hd]⟩)
          rw [hd]
          clear hd R g3 c0 c1 c2 c3 c4 c5 HG3
          go_wp2_with fail
          go_roundw
          case rel => exact ⟨n + 1, by omega, by go_num, HR2⟩
          case measure => simp [intOf]; omega
        · have HE := Lib.hid (show wrgs qs = wrg p from wrgs_some HP.out.1 R.out.2.2 hd)
          have hb := ne_beq hd
          have hb2 := ne_bne hd
          have HD := Lib.hid hd
          clear R g3 c0 c1 c2 c3 c4 c5
          generalize wrg p = y at *
          go_wp2_with fail
          go_ret
          refine ⟨?_, HG3.out⟩
          rw [HX2.out, HE.out, if_pos HD.out]
          rfl
      · have HE := Lib.hid (show wrgs qs = 0 by
          have h3 := R.out.2.2
          have : n = qs.length := by omega
          rw [this, List.take_length] at h3
          exact h3)
        have HX3 := Lib.hid (show X = if mis k ps then 15 else 0 by rw [HX2.out, HE.out, if_neg (by simp)])
        have HR5 := Lib.hid (show Grew w wr none ∧ Whole wr q #[.int .i64 k, .int .i64 s, .int .i64 l, .int .i64 h, .int .i64 t, .slice A ps.length c] 24 ∧ Shut k qs 0 from ⟨R.out.1, R.out.2.1, fun j p hj => by omega⟩)
        have hnq : n = qs.length := by omega
        subst hnq
        clear R HX2 HR
        go_wp2_with fail
        go_loopw [6] (fun i wr => ∃ n : Nat, n ≤ qs.length ∧ i = .int .i64 n ∧ Hid (Grew w wr none ∧ Whole wr q #[.int .i64 k, .int .i64 s, .int .i64 l, .int .i64 h, .int .i64 t, .slice A ps.length c] 24 ∧ Shut k qs n)) (fun i _ => qs.length - (intOf i).toNat)
        case atStart => exact ⟨0, Nat.zero_le _, rfl, HR5⟩
        case round =>
          obtain ⟨m, hm, rfl, R⟩ := hrel
          obtain ⟨d0, d1, d2, d3, d4, d5⟩ := R.out.2.1.six
          by_cases hlt2 : m < qs.length
          · have hk : k = 2 ∨ k = 3 := by
              by_cases hk : k = 2 ∨ k = 3
              · exact hk
              · have := HQN.out hk; rw [this] at hlt2; simp at hlt2
            have HQP := Lib.hid (HQK.out hk)
            obtain ⟨b, o, p, rfl, hp, hpm, c0, c1, c2, c3, c4, c5⟩ := (HL.out.grew R.out.1).at hlt2
            have HP := Lib.hid (show qs[m]? = some p ∧ p ∈ qs from ⟨hp, hpm⟩)
            have HK := Lib.hid hk
            clear hp hpm hk
            go_wp2_with fail
            refine (ropen_any p _ ((HM.out p HP.out.2).2.grew R.out.1)).mono ?_
            rintro e w3 ⟨rfl, g3⟩
            have HG3 := Lib.hid (grew_trans R.out.1 g3)
            have hw3 := R.out.2.1.grew g3 (by simp)
            obtain ⟨e0, e1, e2, e3, e4, e5⟩ := hw3.six
            have HW3 := Lib.hid hw3
            clear hw3 c0 c1 c2 c3 c4 c5 d0 d1 d2 d3 d4 d5 g3
            cases ho : p.opn with
            | true =>
              by_cases hk2 : k = 2
              · have HF := Lib.hid (show X = 15 by rw [HX3.out, mis_true HK.out (by rw [← HQP.out]; exact HP.out.1) ho (.inl hk2)]; rfl)
                subst hk2
                clear ho R
                go_wp2_with fail
                go_ret
                exact ⟨by rw [HF.out]; rfl, HG3.out⟩
              · have hb2 := ne_beq hk2
                by_cases hl1 : m + 1 < qs.length
                · have HF := Lib.hid (show X = 15 by rw [HX3.out, mis_true HK.out (by rw [← HQP.out]; exact HP.out.1) ho (.inr (by rw [← HQP.out]; exact hl1))]; rfl)
                  clear ho R
                  have hd1 : decide ((m : Int) + 1 < qs.length) = true := by simp; omega
                  go_wp2_with fail
                  go_ret
                  exact ⟨by rw [HF.out]; rfl, HG3.out⟩
                · have HR6 := Lib.hid (show Grew w w3 none ∧ Whole w3 q #[.int .i64 k, .int .i64 s, .int .i64 l, .int .i64 h, .int .i64 t, .slice A ps.length c] 24 ∧ Shut k qs (m + 1) from ⟨HG3.out, HW3.out, fun j p' hj hjp hw => by
                    rcases Nat.lt_or_ge j m with hjm | hjm
                    · exact R.out.2.2 j p' hjm hjp hw
                    · omega⟩)
                  clear ho R
                  have hd1 : decide ((m : Int) + 1 < qs.length) = false := by simp; omega
                  go_wp2_with fail
                  go_roundw
                  case rel => exact ⟨m + 1, by omega, by go_num, HR6⟩
                  case measure => simp [intOf]; omega
            | false =>
              have HR6 := Lib.hid (show Grew w w3 none ∧ Whole w3 q #[.int .i64 k, .int .i64 s, .int .i64 l, .int .i64 h, .int .i64 t, .slice A ps.length c] 24 ∧ Shut k qs (m + 1) from ⟨HG3.out, HW3.out, fun j p' hj hjp hw => by
                rcases Nat.lt_or_ge j m with hjm | hjm
                · exact R.out.2.2 j p' hjm hjp hw
                · have : j = m := by omega
                  subst this
                  rw [HP.out.1] at hjp
                  injection hjp with hjp
                  rw [← hjp]; exact ho⟩)
              clear ho R
              go_wp2_with fail
              go_roundw
              case rel => exact ⟨m + 1, by omega, by go_num, HR6⟩
              case measure => simp [intOf]; omega
          · have hmq : m = qs.length := by omega
            subst hmq
            by_cases hk2 : k = 2
            · have hqp : qs = ps := HQK.out (.inl hk2)
              have hl1 : ps.length = 1 := H21.out hk2
              have hq0 : 0 < qs.length := by rw [hqp]; omega
              obtain ⟨b, o, p, rfl, hp, hpm, c0, c1, c2, c3, c4, c5⟩ := (HL.out.grew R.out.1).at hq0
              have HPI := Lib.hid (show In wr p ∧ wrg p = 0 from ⟨(HM.out p hpm).2.grew R.out.1, wrgs_zero HE.out p hpm⟩)
              have HF := Lib.hid (show X = if p.len false = 0 then 15 else 0 by
                obtain ⟨p', rfl⟩ := List.length_eq_one_iff.1 hl1
                rw [hqp] at hp
                obtain rfl : p' = p := by simpa using hp
                have hsh := R.out.2.2
                rw [hqp, hk2] at hsh
                rw [HX3.out, hk2, mis_two_shut hsh]
                by_cases hz : p'.len false = 0
                · simp [hz]
                · simp [hz])
              have HG := Lib.hid R.out.1
              clear hqp hl1 hp hpm R H21 HQK HQN
              simp only [Nat.zero_mul, Nat.add_zero] at c0 c1 c2 c3 c4 c5
              subst hk2
              go_wp2_with fail
              refine (rleast_any p _ HPI.out.1 HPI.out.2).mono ?_
              rintro e w3 ⟨rfl, g3⟩
              have HG3 := Lib.hid (grew_trans HG.out g3)
              clear g3 c0 c1 c2 c3 c4 c5 d0 d1 d2 d3 d4 d5 HPI
              generalize p.len false = y at *
              by_cases hy : y = 0
              · rw [if_pos hy] at HF
                subst hy
                go_wp2_with fail
                go_ret
                exact ⟨by rw [HF.out]; rfl, HG3.out⟩
              · rw [if_neg hy] at HF
                have hb := ne_beq hy
                go_wp2_with fail
                go_ret
                exact ⟨by rw [HF.out]; rfl, HG3.out⟩
            · have hb2 := ne_beq hk2
              have HF := Lib.hid (show X = 0 by
                have hms : mis k ps = false := by
                  by_cases hk3 : k = 3
                  · have hsh := R.out.2.2
                    rw [HQK.out (.inr hk3), hk3] at hsh
                    rw [hk3]; exact mis_three_false hsh
                  · exact mis_else_false (by omega)
                rw [HX3.out, hms]; rfl)
              have HG := Lib.hid R.out.1
              clear R
              go_wp2_with fail
              go_ret
              exact ⟨by rw [HF.out]; rfl, HG.out⟩
  · have hb := ne_beq he
    have hb2 := ne_bne he
    have HG1 := Lib.hid (grew_trans (grew_alloc (grew_refl w none) _) g1)
    have HE := Lib.hid he
    clear g1
    go_wp2_with fail
    go_ret
    exact ⟨by rw [HX.out, if_pos HE.out]; rfl, HG1.out⟩

/-- Check: the document's. -/
theorem rchk_any (w : World) (f : Fo) (hf : f.In w) :
    Calls Try.prog 17 #[f.val] w fun e w' => e = .returned (.int .i64 f.chk) ∧ Grew w w' none := by
  have HD := Lib.hid (fun (w1 : World) (g : Grew w w1 none) => depth_any f 9 w1 (by omega) (by omega) (hf.grew g))
  have HW := Lib.hid (fun (w1 : World) (g : Grew w w1 none) => rcheck_any f w1 (hf.grew g))
  clear hf
  have hC : f.chk = if 8 < f.dep then 14 else f.wrg := rfl
  generalize f.chk = C at *
  rw [val_eq] at *
  by_cases hd : 8 < f.dep
  · rw [if_pos hd] at hC
    have hy : (8 : Int) < min (f.dep : Int) (9 + 1) := by omega
    generalize min (f.dep : Int) (9 + 1) = y at *
    subst hC
    clear hd
    go_enter Try.func17, Try.ntmps17
    go_wp2_with fail
    refine (HD.out _ (grew_alloc (grew_refl _ _) _)).mono ?_
    rintro e w1 ⟨rfl, g1⟩
    go_wp2_with fail
    go_ret
    exact ⟨rfl, grew_trans (grew_alloc (grew_refl _ _) _) g1⟩
  · rw [if_neg hd] at hC
    have hy : ¬ (8 : Int) < min (f.dep : Int) (9 + 1) := by omega
    generalize min (f.dep : Int) (9 + 1) = y at *
    subst hC
    clear hd
    go_enter Try.func17, Try.ntmps17
    go_wp2_with fail
    refine (HD.out _ (grew_alloc (grew_refl _ _) _)).mono ?_
    rintro e w1 ⟨rfl, g1⟩
    have hw1 := (Whole.new w #[.int .i64 f.k, .int .i64 f.s, .int .i64 f.l, .int .i64 f.h, .int .i64 f.t, .slice f.A f.ps.length f.c] 24).grew g1 (by simp)
    obtain ⟨c0, c1, c2, c3, c4, c5⟩ := hw1.six
    have HG := Lib.hid (grew_trans (grew_alloc (grew_refl w none) _) g1)
    clear hw1 g1
    go_wp2_with fail
    refine (HW.out _ HG.out).mono ?_
    rintro e w2 ⟨rfl, g2⟩
    go_wp2_with fail
    go_ret
    exact ⟨rfl, grew_trans HG.out g2⟩

end Go.Proofs.Ytdamjbngopfpkaa

