/- What is wrong with a form: the code's answer. -/
import Derived.Test.YtdamjbngopfpkaaFw2
import Derived.Test.YtdamjbngopfpkaaFw3
import Derived.Test.YtdamjbngopfpkaaFx
import Derived.Test.YtdamjbngopfpkaaFd
namespace Go.Proofs.Ytdamjbngopfpkaa
open Go.RowKit Fo

theorem alone_12 {k s l h t : Int} {n : Nat} (hk : k = 1 ∨ k = 2) : alone k s l h t n = if 1 ≤ s ∧ s ≤ 3 then (if 0 ≤ l ∧ l ≤ h ∧ h ≤ 256 ^ s.toNat - 1 ∧ 1 ≤ t ∧ t ≤ 65536 then (if k = 2 ∧ n ≠ 1 then 15 else 0) else 5) else 3 := by
  unfold alone; rw [if_neg (by omega), if_neg (by omega), if_neg (by omega), if_pos hk]

theorem alone1_any (w : World) (s l h t : Int) (A : Option Addr) (n c : Nat) :
    Calls Try.prog 53 #[.agg #[.int .i64 1, .int .i64 s, .int .i64 l, .int .i64 h, .int .i64 t, .slice A n c]] w fun e w' => e = .returned (.int .i64 (alone 1 s l h t n)) ∧ Grew w w' none := by
  rw [alone_12 (by omega)]
  by_cases h1 : s < 1
  · rw [if_neg (by omega)]; exact alone1_small w s l h t h1 A n c
  by_cases h3 : 3 < s
  · rw [if_neg (by omega)]; exact alone1_wide w s l h t h3 A n c
  rw [if_pos (by omega)]
  have key : s = 1 ∨ s = 2 ∨ s = 3 := by omega
  rcases key with rfl | rfl | rfl
  · have e0 : (256 : Int) ^ ((1 : Int).toNat) - 1 = 255 := by decide
    rw [e0]
    by_cases hs : 0 ≤ l ∧ l ≤ h ∧ h ≤ 255
    · by_cases ht : t < 1
      · rw [if_neg (by omega)]; exact alone1_1_low w l h t hs ht A n c
      · by_cases hu : 65536 < t
        · rw [if_neg (by omega)]; exact alone1_1_high w l h t hs hu A n c
        · rw [if_pos (by omega)]
          rw [if_neg (by omega)]; exact alone1_1_ok w l h t hs (by omega) (by omega) A n c
    · rw [if_neg (by omega)]; exact alone1_1_span w l h t hs A n c
  · have e0 : (256 : Int) ^ ((2 : Int).toNat) - 1 = 65535 := by decide
    rw [e0]
    by_cases hs : 0 ≤ l ∧ l ≤ h ∧ h ≤ 65535
    · by_cases ht : t < 1
      · rw [if_neg (by omega)]; exact alone1_2_low w l h t hs ht A n c
      · by_cases hu : 65536 < t
        · rw [if_neg (by omega)]; exact alone1_2_high w l h t hs hu A n c
        · rw [if_pos (by omega)]
          rw [if_neg (by omega)]; exact alone1_2_ok w l h t hs (by omega) (by omega) A n c
    · rw [if_neg (by omega)]; exact alone1_2_span w l h t hs A n c
  · have e0 : (256 : Int) ^ ((3 : Int).toNat) - 1 = 16777215 := by decide
    rw [e0]
    by_cases hs : 0 ≤ l ∧ l ≤ h ∧ h ≤ 16777215
    · by_cases ht : t < 1
      · rw [if_neg (by omega)]; exact alone1_3_low w l h t hs ht A n c
      · by_cases hu : 65536 < t
        · rw [if_neg (by omega)]; exact alone1_3_high w l h t hs hu A n c
        · rw [if_pos (by omega)]
          rw [if_neg (by omega)]; exact alone1_3_ok w l h t hs (by omega) (by omega) A n c
    · rw [if_neg (by omega)]; exact alone1_3_span w l h t hs A n c

theorem alone2_any (w : World) (s l h t : Int) (A : Option Addr) (n c : Nat) :
    Calls Try.prog 53 #[.agg #[.int .i64 2, .int .i64 s, .int .i64 l, .int .i64 h, .int .i64 t, .slice A n c]] w fun e w' => e = .returned (.int .i64 (alone 2 s l h t n)) ∧ Grew w w' none := by
  rw [alone_12 (by omega)]
  by_cases h1 : s < 1
  · rw [if_neg (by omega)]; exact alone2_small w s l h t h1 A n c
  by_cases h3 : 3 < s
  · rw [if_neg (by omega)]; exact alone2_wide w s l h t h3 A n c
  rw [if_pos (by omega)]
  have key : s = 1 ∨ s = 2 ∨ s = 3 := by omega
  rcases key with rfl | rfl | rfl
  · have e0 : (256 : Int) ^ ((1 : Int).toNat) - 1 = 255 := by decide
    rw [e0]
    by_cases hs : 0 ≤ l ∧ l ≤ h ∧ h ≤ 255
    · by_cases ht : t < 1
      · rw [if_neg (by omega)]; exact alone2_1_low w l h t hs ht A n c
      · by_cases hu : 65536 < t
        · rw [if_neg (by omega)]; exact alone2_1_high w l h t hs hu A n c
        · rw [if_pos (by omega)]
          by_cases hn : n = 1
          · rw [if_neg (by omega)]; exact alone2_1_ok w l h t A n c hs (by omega) (by omega) (by subst hn; rfl)
          · rw [if_pos (by omega)]; exact alone2_1_many w l h t A n c hs (by omega) (by omega) (ne_beq (by omega))
    · rw [if_neg (by omega)]; exact alone2_1_span w l h t hs A n c
  · have e0 : (256 : Int) ^ ((2 : Int).toNat) - 1 = 65535 := by decide
    rw [e0]
    by_cases hs : 0 ≤ l ∧ l ≤ h ∧ h ≤ 65535
    · by_cases ht : t < 1
      · rw [if_neg (by omega)]; exact alone2_2_low w l h t hs ht A n c
      · by_cases hu : 65536 < t
        · rw [if_neg (by omega)]; exact alone2_2_high w l h t hs hu A n c
        · rw [if_pos (by omega)]
          by_cases hn : n = 1
          · rw [if_neg (by omega)]; exact alone2_2_ok w l h t A n c hs (by omega) (by omega) (by subst hn; rfl)
          · rw [if_pos (by omega)]; exact alone2_2_many w l h t A n c hs (by omega) (by omega) (ne_beq (by omega))
    · rw [if_neg (by omega)]; exact alone2_2_span w l h t hs A n c
  · have e0 : (256 : Int) ^ ((3 : Int).toNat) - 1 = 16777215 := by decide
    rw [e0]
    by_cases hs : 0 ≤ l ∧ l ≤ h ∧ h ≤ 16777215
    · by_cases ht : t < 1
      · rw [if_neg (by omega)]; exact alone2_3_low w l h t hs ht A n c
      · by_cases hu : 65536 < t
        · rw [if_neg (by omega)]; exact alone2_3_high w l h t hs hu A n c
        · rw [if_pos (by omega)]
          by_cases hn : n = 1
          · rw [if_neg (by omega)]; exact alone2_3_ok w l h t A n c hs (by omega) (by omega) (by subst hn; rfl)
          · rw [if_pos (by omega)]; exact alone2_3_many w l h t A n c hs (by omega) (by omega) (ne_beq (by omega))
    · rw [if_neg (by omega)]; exact alone2_3_span w l h t hs A n c

theorem alone_any (w : World) (k s l h t : Int) (A : Option Addr) (n c : Nat) :
    Calls Try.prog 53 #[.agg #[.int .i64 k, .int .i64 s, .int .i64 l, .int .i64 h, .int .i64 t, .slice A n c]] w fun e w' => e = .returned (.int .i64 (alone k s l h t n)) ∧ Grew w w' none := by
  by_cases h0 : k = 0
  · subst h0
    by_cases hs : s = 1 ∨ s = 2 ∨ s = 3 ∨ s = 4 ∨ s = 8
    · have e : alone 0 s l h t n = 0 := by unfold alone; rw [if_pos rfl, if_pos hs]
      rw [e]; exact alone0_ok w s l h t hs A n c
    · have e : alone 0 s l h t n = 3 := by unfold alone; rw [if_pos rfl, if_neg hs]
      rw [e]; exact alone0_no w s l h t hs A n c
  by_cases h4 : k = 4
  · subst h4
    by_cases hs : 0 ≤ l ∧ l ≤ h ∧ h ≤ 16777215
    · have e : alone 4 s l h t n = 0 := by unfold alone; rw [if_neg (by omega), if_pos rfl, if_pos hs]
      rw [e]; exact alone4_ok w s l h t hs A n c
    · have e : alone 4 s l h t n = 5 := by unfold alone; rw [if_neg (by omega), if_pos rfl, if_neg hs]
      rw [e]; exact alone4_no w s l h t hs A n c
  by_cases h5 : k = 5
  · subst h5
    by_cases hs : 0 ≤ l ∧ l ≤ 16777215
    · have e : alone 5 s l h t n = 0 := by unfold alone; rw [if_neg (by omega), if_neg (by omega), if_pos rfl, if_pos hs]
      rw [e]; exact alone5_ok w s l h t hs A n c
    · have e : alone 5 s l h t n = 5 := by unfold alone; rw [if_neg (by omega), if_neg (by omega), if_pos rfl, if_neg hs]
      rw [e]; exact alone5_no w s l h t hs A n c
  by_cases h1 : k = 1
  · subst h1; exact alone1_any w s l h t A n c
  by_cases h2 : k = 2
  · subst h2; exact alone2_any w s l h t A n c
  by_cases h3 : k = 3
  · subst h3
    by_cases hs : n ≤ 32
    · have e : alone 3 s l h t n = 0 := by unfold alone; rw [if_neg (by omega), if_neg (by omega), if_neg (by omega), if_neg (by omega), if_pos rfl, if_pos hs]
      rw [e]; exact alone3_ok w s l h t A n c hs
    · have e : alone 3 s l h t n = 15 := by unfold alone; rw [if_neg (by omega), if_neg (by omega), if_neg (by omega), if_neg (by omega), if_pos rfl, if_neg hs]
      rw [e]; exact alone3_no w s l h t A n c hs
  have e : alone k s l h t n = 2 := by unfold alone; rw [if_neg h0, if_neg h4, if_neg h5, if_neg (by omega), if_neg h3]
  rw [e]; exact aloneX w k s l h t (ne_beq h0) (ne_beq h1) (ne_beq h2) (ne_beq h3) (ne_beq h4) (ne_beq h5) A n c

theorem mis_any (w : World) (k s l h t : Int) (A : Option Addr) (c : Nat) (ps : List Fo) (hin : (Fo.mk k s l h t A c ps).In w) (hk : k = 2 → ps.length = 1) :
    Calls Try.prog 54 #[(Fo.mk k s l h t A c ps).val] w fun e w' => e = .returned (.bool (mis k ps)) ∧ Grew w w' none := by
  by_cases h2 : k = 2
  · subst h2
    obtain ⟨p, rfl⟩ := List.length_eq_one_iff.1 (hk rfl)
    exact mis_two w s l h t A c p hin
  by_cases h3 : k = 3
  · subst h3; exact mis_three w s l h t A c ps hin
  exact mis_else w k s l h t A c ps (ne_beq h2) (ne_beq h3)

theorem wrgs_append (xs ys : List Fo) : wrgs (xs ++ ys) = if wrgs xs ≠ 0 then wrgs xs else wrgs ys := by
  induction xs with
  | nil => simp [wrgs]
  | cons x xs ih =>
    simp only [List.cons_append, wrgs, ih]
    by_cases hx : wrg x ≠ 0
    · simp [hx]
    · simp [hx]
theorem wrgs_take {qs : List Fo} {n : Nat} {p : Fo} (h : qs[n]? = some p) (h0 : wrgs (qs.take n) = 0) : wrgs (qs.take (n + 1)) = wrg p := by
  rw [take_succ' h, wrgs_append, h0, if_neg (by simp)]
  simp only [wrgs]
  by_cases hp : wrg p ≠ 0
  · rw [if_pos hp]
  · rw [if_neg hp]; omega
theorem wrgs_some {qs : List Fo} {n : Nat} {p : Fo} (h : qs[n]? = some p) (h0 : wrgs (qs.take n) = 0) (hp : wrg p ≠ 0) : wrgs qs = wrg p := by
  have e := List.take_append_drop (n + 1) qs
  rw [← e, wrgs_append, wrgs_take h h0, if_pos hp]
theorem wrg_eq (k s l h t : Int) (A : Option Addr) (c : Nat) (ps : List Fo) : wrg (.mk k s l h t A c ps) = if alone k s l h t ps.length ≠ 0 then alone k s l h t ps.length else if wrgs (inn (.mk k s l h t A c ps)) ≠ 0 then wrgs (inn (.mk k s l h t A c ps)) else if mis k ps then 15 else 0 := by
  rw [wrg, inn]
  by_cases hk : k = 2 ∨ k = 3
  · simp only [if_pos hk]
  · simp only [if_neg hk, wrgs]; simp
theorem alone_two {s l h t : Int} {n : Nat} (h0 : alone 2 s l h t n = 0) : n = 1 := by
  rw [alone_12 (by omega)] at h0
  split at h0
  · split at h0
    · split at h0
      · omega
      · omega
    · omega
  · omega

theorem Whole.six {w : World} {q : Nat} {a0 a1 a2 a3 a4 a5 : Value} {t : TypeId} (h : Whole w q #[a0, a1, a2, a3, a4, a5] t) :
    w.cell? ⟨q, 0, none⟩ = some a0 ∧ w.cell? ⟨q, 1, none⟩ = some a1 ∧ w.cell? ⟨q, 2, none⟩ = some a2 ∧ w.cell? ⟨q, 3, none⟩ = some a3 ∧ w.cell? ⟨q, 4, none⟩ = some a4 ∧ w.cell? ⟨q, 5, none⟩ = some a5 :=
  ⟨h.cell 0, h.cell 1, h.cell 2, h.cell 3, h.cell 4, h.cell 5⟩

set_option maxRecDepth 100000 in
set_option maxHeartbeats 2000000 in
theorem wrong_any (f : Fo) : ∀ (w : World), f.In w →
    Calls Try.prog 43 #[f.val] w fun e w' => e = .returned (.int .i64 f.wrg) ∧ Grew w w' none := by
  induction f using Fo.ind with
  | H k s l h t A c ps ih =>
  intro w hin
  obtain ⟨A', c', qs, hv, hqs, hlz, hlie, hmem⟩ := hin.inner
  have hW := wrg_eq k s l h t A c ps
  rw [hqs] at hW
  have h2 : k = 2 → alone k s l h t ps.length = 0 → ps.length = 1 := fun hk h0 => by subst hk; exact alone_two h0
  generalize hX : wrg (.mk k s l h t A c ps) = X at *
  have HX := Lib.hid hW
  have HAL := Lib.hid (fun w => alone_any w k s l h t A ps.length c)
  have HMI := Lib.hid (fun w1 (g : Grew w w1 none) (h0 : alone k s l h t ps.length = 0) => mis_any w1 k s l h t A c ps (hin.grew g) (fun hk => h2 hk h0))
  have IH := Lib.hid ih
  have HL := Lib.hid hlie
  have HM := Lib.hid hmem
  have HV := Lib.hid hv
  clear ih hlie hmem hv hqs hin hW h2 hX
  change Calls Try.prog 43 #[.agg #[.int .i64 k, .int .i64 s, .int .i64 l, .int .i64 h, .int .i64 t, .slice A ps.length c]] w _
  generalize alone k s l h t ps.length = E at *
  generalize mis k ps = M at *
  go_enter Try.func43, Try.ntmps43
  go_wp2_with fail
  refine (HAL.out _).mono ?_
  rintro e w1 ⟨rfl, g1⟩
  by_cases he : E = 0
  · subst he
    have hw1 := (Whole.new w #[.int .i64 k, .int .i64 s, .int .i64 l, .int .i64 h, .int .i64 t, .slice A ps.length c] 24).grew g1 (by simp)
    obtain ⟨c0, c1, c2, c3, c4, c5⟩ := hw1.six
    have HW1 := Lib.hid hw1
    have HG1 := Lib.hid (grew_trans (grew_alloc (grew_refl w none) _) g1)
    have HQ := Lib.hid (show ∃ q, q = w.heap.size from ⟨_, rfl⟩)
    clear g1 hw1
    generalize w.heap.size = q at *
    go_wp2_with fail
    refine (inside_any _ (.mk k s l h t A c ps)).mono ?_
    rintro e w2 ⟨rfl, g2⟩
    rw [HV.out]
    have HR := Lib.hid (show Grew w w2 none ∧ Whole w2 q #[.int .i64 k, .int .i64 s, .int .i64 l, .int .i64 h, .int .i64 t, .slice A ps.length c] 24 ∧ wrgs (qs.take 0) = 0 from ⟨grew_trans HG1.out g2, HW1.out.grew g2 (by simp), by simp [wrgs]⟩)
    clear g2 c0 c1 c2 c3 c4 c5
    go_wp2_with fail
    go_loopw [15] (fun i wr => ∃ n : Nat, n ≤ qs.length ∧ i = .int .i64 n ∧ Hid (Grew w wr none ∧ Whole wr q #[.int .i64 k, .int .i64 s, .int .i64 l, .int .i64 h, .int .i64 t, .slice A ps.length c] 24 ∧ wrgs (qs.take n) = 0)) (fun i _ => qs.length - (intOf i).toNat)
    case atStart => exact ⟨0, Nat.zero_le _, rfl, HR⟩
    case round =>
      obtain ⟨n, hn, rfl, R⟩ := hrel
      by_cases hlt : n < qs.length
      · obtain ⟨b, o, p, rfl, hp, hpm, c0, c1, c2, c3, c4, c5⟩ := (HL.out.grew R.out.1).at hlt
        have HP := Lib.hid (show qs[n]? = some p ∧ p ∈ qs from ⟨hp, hpm⟩)
        clear hp hpm
        go_wp2_with fail
        refine (IH.out p (HM.out p HP.out.2).1 _ ((HM.out p HP.out.2).2.grew (grew_alloc R.out.1 _))).mono ?_
        rintro e w3 ⟨rfl, g3⟩
        have HG3 := Lib.hid (grew_trans (grew_alloc R.out.1 _) g3)
        by_cases hd : wrg p = 0
        · have HR2 := Lib.hid (show Grew w w3 none ∧ Whole w3 q #[.int .i64 k, .int .i64 s, .int .i64 l, .int .i64 h, .int .i64 t, .slice A ps.length c] 24 ∧ wrgs (qs.take (n + 1)) = 0 from
            ⟨HG3.out, R.out.2.1.grew (grew_trans (grew_alloc (grew_refl _ none) _) g3) (by simp), by rw [wrgs_take HP.out.1 R.out.2.2, hd]⟩)
          rw [hd]
          clear hd R g3 c0 c1 c2 c3 c4 c5 HG3
          go_wp2_with fail
          go_roundw
          case rel => exact ⟨n + 1, by omega, by go_num, HR2⟩
          case measure => simp [intOf]; omega
        · have HE := Lib.hid (show wrgs qs = wrg p from wrgs_some HP.out.1 R.out.2.2 hd)
          have hb := ne_beq hd
          have HD := Lib.hid hd
          clear R g3 c0 c1 c2 c3 c4 c5
          generalize wrg p = y at *
          go_wp2_with fail
          go_ret
          refine ⟨?_, HG3.out⟩
          rw [HX.out, if_neg (by simp), HE.out, if_pos HD.out]
          rfl
      · have HE := Lib.hid (show wrgs qs = 0 by
          have h3 := R.out.2.2
          have : n = qs.length := by omega
          rw [this, List.take_length] at h3
          exact h3)
        have HG := Lib.hid R.out.1
        obtain ⟨c0, c1, c2, c3, c4, c5⟩ := R.out.2.1.six
        clear R
        go_wp2_with fail
        refine (HMI.out _ HG.out (by trivial)).mono ?_
        rintro e w3 ⟨rfl, g3⟩
        have HG3 := Lib.hid (grew_trans HG.out g3)
        clear g3 c0 c1 c2 c3 c4 c5
        cases M with
        | true =>
          go_wp2_with fail
          go_ret
          refine ⟨?_, HG3.out⟩
          rw [HX.out, if_neg (by simp), HE.out]
          rfl
        | false =>
          go_wp2_with fail
          go_ret
          refine ⟨?_, HG3.out⟩
          rw [HX.out, if_neg (by simp), HE.out]
          rfl
  · have hb := ne_beq he
    have HG1 := Lib.hid (grew_trans (grew_alloc (grew_refl w none) _) g1)
    have HE := Lib.hid he
    clear g1
    go_wp2_with fail
    go_ret
    exact ⟨by rw [HX.out, if_pos HE.out]; rfl, HG1.out⟩

end Go.Proofs.Ytdamjbngopfpkaa

