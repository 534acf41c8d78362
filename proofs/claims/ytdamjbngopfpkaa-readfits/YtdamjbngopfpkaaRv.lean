/- The document's Same of values. -/
import Derived.Test.YtdamjbngopfpkaaVm
import Derived.Test.YtdamjbngopfpkaaPad
import Derived.Laws.Strings
namespace Go.Proofs.Ytdamjbngopfpkaa
open Go.RowKit Va

set_option maxRecDepth 100000 in
set_option maxHeartbeats 1000000 in
theorem rsamev_any (a : Va) : ∀ (b : Va) (w : World), a.In w → b.In w →
    Calls Try.prog 15 #[a.val, b.val] w fun e w' => e = .returned (.bool (same a b)) ∧ Grew w w' none := by
  induction a using Va.ind with
  | H n B d bs A c ls ih =>
  intro u w ha hu
  have IH := Lib.hid ih
  have HA := Lib.hid ha
  have HU := Lib.hid hu
  have hE : same (.mk n B d bs A c ls) u = (decide (n = u.n) && decide (bs = u.bs) && decide (ls.length = u.ls.length) && sames ls u.ls) := by rw [same]
  have HE := Lib.hid hE
  generalize same (.mk n B d bs A c ls) u = E at *
  have hz := ha.list.2.2
  have hz2 := hu.list.2.2
  simp only [Va.ls] at hz
  clear ih hE
  have hg2 := grew_alloc (grew_alloc (grew_refl w none) (.cells #[.int .u64 n, .slice B bs.length d, .slice A ls.length c] 35)) (.cells #[.int .u64 u.n, .slice u.B u.bs.length u.d, .slice u.A u.ls.length u.c] 35)
  have hcv1 : (convert 25 9 (.slice B bs.length d)).run Try.prog ((w.alloc (.cells #[.int .u64 n, .slice B bs.length d, .slice A ls.length c] 35)).alloc (.cells #[.int .u64 u.n, .slice u.B u.bs.length u.d, .slice u.A u.ls.length u.c] 35)) = .ok (.string (txt bs)) ((w.alloc (.cells #[.int .u64 n, .slice B bs.length d, .slice A ls.length c] 35)).alloc (.cells #[.int .u64 u.n, .slice u.B u.bs.length u.d, .slice u.A u.ls.length u.c] 35)) := conv_txt (P := Try.prog) _ Try.underlying25 Try.underlying5 Try.underlying9 (ha.grew hg2).bytes.1 rfl d
  have hcv2 := conv_txt (P := Try.prog) _ Try.underlying25 Try.underlying5 Try.underlying9 (hu.grew hg2).bytes.1 rfl u.d
  clear ha hu
  change Calls Try.prog 15 #[.agg #[.int .u64 n, .slice B bs.length d, .slice A ls.length c], .agg #[.int .u64 u.n, .slice u.B u.bs.length u.d, .slice u.A u.ls.length u.c]] w _
  by_cases hn : n = u.n
  · by_cases hb : bs = u.bs
    · by_cases hl : ls.length = u.ls.length
      · have HE2 := Lib.hid (show E = sames ls u.ls by rw [HE.out, decide_eq_true hn, decide_eq_true hb, decide_eq_true hl]; rfl)
        have hnb : (n != u.n) = false := by simpa using hn
        have htt : txt u.bs = txt bs := by rw [hb]
        rw [htt] at hcv2
        clear htt
        generalize txt bs = T1 at *
        have hlb : ((ls.length : Int) != (u.ls.length : Int)) = false := by simp; omega
        have HLN := Lib.hid hl
        have HNB := Lib.hid (show n = u.n ∧ bs = u.bs from ⟨hn, hb⟩)
        clear hn hb hl HE
        have hw2 := Whole.new_at (w.alloc (.cells #[.int .u64 n, .slice B bs.length d, .slice A ls.length c] 35)) #[.int .u64 u.n, .slice u.B u.bs.length u.d, .slice u.A u.ls.length u.c] 35 (p := w.heap.size + 1) (by simp)
        have hw1 := (Whole.new w #[.int .u64 n, .slice B bs.length d, .slice A ls.length c] 35).grew (grew_alloc (grew_refl _ none) (.cells #[.int .u64 u.n, .slice u.B u.bs.length u.d, .slice u.A u.ls.length u.c] 35)) (by simp)
        have HR := Lib.hid (show Grew w _ none ∧ Whole _ w.heap.size _ 35 ∧ Whole _ (w.heap.size + 1) _ 35 ∧ sames (ls.drop 0) (u.ls.drop 0) = E from ⟨hg2, hw1, hw2, HE2.out.symm⟩)
        clear hw1 hw2 hg2
        go_enter Try.func15, Try.ntmps15
        go_wp2_with fail
        clear hcv1 hcv2 hnb hlb
        generalize (w.alloc (.cells #[.int .u64 n, .slice B bs.length d, .slice A ls.length c] 35)).alloc (.cells #[.int .u64 u.n, .slice u.B u.bs.length u.d, .slice u.A u.ls.length u.c] 35) = W2 at *
        generalize w.heap.size + 1 = q2 at *
        generalize w.heap.size = q1 at *
        go_loopw [5] (fun i wr => ∃ (j : Nat), j ≤ ls.length ∧ i = .int .i64 j ∧ Hid (Grew w wr none ∧ Whole wr q1 #[.int .u64 n, .slice B bs.length d, .slice A ls.length c] 35 ∧ Whole wr q2 #[.int .u64 u.n, .slice u.B u.bs.length u.d, .slice u.A u.ls.length u.c] 35 ∧ sames (ls.drop j) (u.ls.drop j) = E)) (fun i _ => ls.length - (intOf i).toNat)
        case atStart => exact ⟨0, Nat.zero_le _, rfl, HR⟩
        case round =>
          obtain ⟨j, hj, rfl, R⟩ := hrel
          obtain ⟨a0, a1, a2⟩ := R.out.2.1.three
          by_cases hlt : j < ls.length
          · have hlu : j < u.ls.length := by have := HLN.out; omega
            go_wp2_with fail
            obtain ⟨b1, o1, p, hA, hp, hpm, d0, d1, d2⟩ := (HA.out.list.1.grew R.out.1).at hlt
            obtain ⟨b2, o2, r, hB, hr, hrm, e0, e1, e2⟩ := (HU.out.list.1.grew R.out.1).at hlu
            obtain ⟨k0, k1, k2⟩ := R.out.2.2.1.three
            simp only [Va.A] at hA
            subst hA
            rw [hB] at k2
            change ls[j]? = some p at hp
            have hI := IH.out p hpm r
            have hIp := (HA.out.grew R.out.1).parts p hpm
            have hIr := (HU.out.grew R.out.1).parts r hrm
            have hs : sames (ls.drop j) (u.ls.drop j) = (same p r && sames (ls.drop (j + 1)) (u.ls.drop (j + 1))) := by
              rw [Va.drop_at hp, Va.drop_at hr, sames]
            have hS := R.out.2.2.2
            rw [hs] at hS
            generalize same p r = Z at *
            have HCV : Hid (∀ x, Calls Try.prog 15 #[.agg #[.int .u64 p.n, .slice p.B p.bs.length p.d, .slice p.A p.ls.length p.c], .agg #[.int .u64 r.n, .slice r.B r.bs.length r.d, .slice r.A r.ls.length r.c]] (World.pad wr x) fun e w'' => e = .returned (.bool Z) ∧ Grew (World.pad wr x) w'' none) := Lib.hid (fun x => hI _ (hIp.grew (grew_pad _ _)) (hIr.grew (grew_pad _ _)))
            have HS := Lib.hid hS
            have l2 : ∀ x, (World.pad wr x).cell? ⟨q1, 2, none⟩ = some (.slice (some ⟨b1, o1, none⟩) ls.length c) := fun x => pad_cell a2 x
            have l3 : ∀ x, (World.pad wr x).cell? ⟨q2, 2, none⟩ = some (.slice (some ⟨b2, o2, none⟩) u.ls.length u.c) := fun x => pad_cell k2 x
            have f0 := fun x => pad_cell d0 x
            have f1 := fun x => pad_cell d1 x
            have f2 := fun x => pad_cell d2 x
            have g0 := fun x => pad_cell e0 x
            have g1 := fun x => pad_cell e1 x
            have g2 := fun x => pad_cell e2 x
            have i0 : (0 : Int) ≤ (j : Int) := by omega
            have i1 : (j : Int) < (ls.length : Int) := by omega
            have i2 : (j : Int) < (u.ls.length : Int) := by omega
            clear d0 d1 d2 e0 e1 e2 a0 a1 a2 k0 k1 k2 hB hI hIp hIr hs hS hp hpm hr hrm
            refine wp_region_pad (by kernel_rfl) (by kernel_rfl) ?_
            repeat (go_big_quiet_step ((go_at_call 15; exact pad_call (HCV.out _))))
            refine wpQuiet_nil ?_
            rintro _ ⟨xq, rfl⟩
            clear l2 l3 f0 f1 f2 g0 g1 g2
            have HG := Lib.hid (show Grew w (World.pad wr xq) none ∧ Whole (World.pad wr xq) q1 _ _ ∧ Whole (World.pad wr xq) q2 _ _ from ⟨grew_trans R.out.1 (grew_pad _ _), R.out.2.1.grew (grew_pad _ _) (by simp), R.out.2.2.1.grew (grew_pad _ _) (by simp)⟩)
            clear R
            cases Z with
            | true =>
              have HR2 := Lib.hid (show Grew w (World.pad wr xq) none ∧ Whole (World.pad wr xq) q1 #[.int .u64 n, .slice B bs.length d, .slice (some ⟨b1, o1, none⟩) ls.length c] 35 ∧ Whole (World.pad wr xq) q2 #[.int .u64 u.n, .slice u.B u.bs.length u.d, .slice u.A u.ls.length u.c] 35 ∧ sames (ls.drop (j + 1)) (u.ls.drop (j + 1)) = E from ⟨HG.out.1, HG.out.2.1, HG.out.2.2, by have := HS.out; simpa using this⟩)
              clear HS HG
              go_wp2_with fail
              go_roundw
              case rel => exact ⟨j + 1, by omega, by go_num, HR2⟩
              case measure => simp [intOf]; omega
            | false =>
              have HE3 := Lib.hid (show E = false by have := HS.out; simpa using this.symm)
              go_wp2_with fail
              go_ret
              exact ⟨by rw [HE3.out]; rfl, HG.out.1⟩
          · have HE3 := Lib.hid (show E = true by
              have h3 := R.out.2.2.2
              have : j = ls.length := by omega
              rw [this, List.drop_length, sames] at h3
              exact h3.symm)
            have HG := Lib.hid R.out.1
            clear R
            go_wp2_with fail
            go_ret
            exact ⟨by rw [HE3.out]; rfl, HG.out⟩
      · have HE2 := Lib.hid (show E = false by rw [HE.out, decide_eq_false hl]; simp)
        have hnb : (n != u.n) = false := by simpa using hn
        have htt : txt u.bs = txt bs := by rw [hb]
        rw [htt] at hcv2
        clear htt
        generalize txt bs = T1 at *
        have hlb : ((ls.length : Int) != (u.ls.length : Int)) = true := by simp; omega
        have HG := Lib.hid hg2
        clear hn hb hl HE hg2
        go_enter Try.func15, Try.ntmps15
        go_wp2_with fail
        go_ret
        exact ⟨by rw [HE2.out]; rfl, HG.out⟩
    · have HE2 := Lib.hid (show E = false by rw [HE.out, decide_eq_false hb]; simp)
      have hnb : (n != u.n) = false := by simpa using hn
      have htb : ¬ (txt bs).toList = (txt u.bs).toList := fun e => hb (by rw [ByteArray.toList_eq, ByteArray.toList_eq] at e; simpa [txt] using e)
      have HG := Lib.hid hg2
      clear hn hb HE hg2
      generalize txt bs = T1 at *
      generalize txt u.bs = T2 at *
      go_enter Try.func15, Try.ntmps15
      go_wp2_with fail
      go_ret
      exact ⟨by rw [HE2.out]; rfl, HG.out⟩
  · have HE2 := Lib.hid (show E = false by rw [HE.out, decide_eq_false hn]; simp)
    have hnb : (n != u.n) = true := by simpa using hn
    have HG := Lib.hid hg2
    clear hn HE hg2 hcv1 hcv2
    go_enter Try.func15, Try.ntmps15
    go_wp2_with fail
    go_ret
    exact ⟨by rw [HE2.out]; rfl, HG.out⟩

theorem sames_refl {ls : List Va} (h : ∀ p ∈ ls, same p p = true) : sames ls ls = true := by
  induction ls with
  | nil => rw [sames]
  | cons p ps ih => rw [sames, h p (by simp), ih (fun q hq => h q (by simp [hq]))]; rfl
theorem samev_refl (v : Va) : same v v = true := by
  induction v using Va.ind with
  | H n B d bs A c ls ih => rw [same]; simp [Va.n, Va.bs, Va.ls, sames_refl ih]
/-- Where things lie plays no part. -/
theorem samev_self (n : Int) (B B' : Option Addr) (d d' : Nat) (bs : List UInt8) (A A' : Option Addr) (c c' : Nat) (ls : List Va) : same (.mk n B d bs A c ls) (.mk n B' d' bs A' c' ls) = true := by
  rw [same]; simp [Va.n, Va.bs, Va.ls, sames_refl (fun p _ => samev_refl p)]
end Go.Proofs.Ytdamjbngopfpkaa

