/- Numbers and bytes that are written are read by a cursor as they were: for every acts the law returns true, and they read as they did. No condition. -/
import Derived.Test.YtkeiamihgcbcbaaTook2
import Derived.Test.YtkeiamihgcbcbaaCr
namespace Go.Proofs.Ytkeiamihgcbcbaa
open Go.ChangeShapes Go.WideShapes Go.ChangeAt Go.RowKit

set_option maxRecDepth 100000 in
set_option maxHeartbeats 4000000 in
theorem builderBack_great (w : World) (A : Option Addr) (c : Nat) (zs : List Ac) (hl : zs.length ≤ c) (hc : c ≤ 140737488351232) (hz : Acts w A zs) (hg : grt zs = true) :
    Calls Try.prog 5 #[.slice A zs.length c] w fun e w' => e = .returned (.bool true) ∧ Below w.heap.size w w' := by
  have HZ := Lib.hid hz
  have HG := Lib.hid hg
  clear hz hg
  go_enter Try.func5, Try.ntmps5
  go_wp2_with fail
  refine (alive2_any w).mono ?_
  rintro e w1 ⟨rfl, g1⟩
  go_wp2_with fail
  refine (great_any w1 A c zs hc hl ?_).mono ?_
  · intro hn
    obtain ⟨b, o, e, hb, hcell⟩ := HZ.out hn
    exact ⟨b, o, e, Nat.lt_of_lt_of_le hb g1.size, fun i hi j v hv => g1.cell (hcell i hi j v hv) (by simp)⟩
  rintro e w2 ⟨rfl, g2⟩
  rw [HG.out]
  go_wp2_with fail
  refine (alive2_any w2).mono ?_
  rintro e w3 ⟨rfl, g3⟩
  go_wp2_with fail
  go_ret
  exact ⟨rfl, grew_below (grew_trans (grew_trans g1 g2) g3) (Nat.le_refl _) (fun _ h => by cases h)⟩

/-- What holds ahead of each round of the first loop. -/
def BackRel (w wr : World) (p : Nat) (v : Value) (zs ts : List Ac) : Prop :=
  ∃ F, Bd wr F p 1048576 (encs ts) [] ∧ Took wr F v ts ∧ (∀ i, F i → w.heap.size ≤ i) ∧ (∀ g, v.ownBlock = some g → w.heap.size ≤ g) ∧ Grew w wr none ∧ ∀ t ∈ ts, t ∈ zs ∧ TkOk t

theorem Acts.grew {w w' : World} {A : Option Addr} {zs : List Ac} (h : Acts w A zs) (g : Grew w w' none) : Acts w' A zs := by
  intro hn
  obtain ⟨b, o, e, hb, hcell⟩ := h hn
  exact ⟨b, o, e, Nat.lt_of_lt_of_le hb g.size, fun i hi j v hv => g.cell (hcell i hi j v hv) (by simp)⟩

theorem BackRel.box {w wr : World} {p : Nat} {v : Value} {zs ts : List Ac} (h : BackRel w wr p v zs ts) (o : Obj) : BackRel w (wr.alloc o) p v zs ts := by
  obtain ⟨F, h1, h2, h3, h4, h5, h6⟩ := h
  have hf : Fr wr (wr.alloc o) (fun _ => False) := (Fr.refl _ _).alloc o
  exact ⟨F, h1.fr hf (fun _ _ h => h), ⟨own_fr h2.1 hf (fun _ _ h => h), h2.2⟩, h3, h4, grew_alloc h5 o, h6⟩

/-- Behind an act that was done. -/
theorem BackRel.done {w wr w1 w2 : World} {p : Nat} {v v' : Value} {zs ts : List Ac} {a : Ac} {F F' : Nat → Prop} (hT : Took wr F v ts) (hF : ∀ i, F i → w.heap.size ≤ i) (hv : ∀ g, v.ownBlock = some g → w.heap.size ≤ g)
    (hG : Grew w wr none) (ht : ∀ t ∈ ts, t ∈ zs ∧ TkOk t) (hb : Bd w1 F' p 1048576 (encs ts ++ encA a) []) (hfr : Fr wr w1 F) (hn : ∀ i, F' i → F i ∨ wr.heap.size ≤ i) (ha : a ∈ zs) (hok : TkOk a)
    (ho : w2.ownsRow 0 34 5 v' (ts.length + 1) (actCells ts ++ a.cells.toList)) (o : Obj) (hg : (w1.alloc o).grownBy w2 v.ownBlock) (hat : v'.ownBlock = v.ownBlock ∨ ∃ g, v'.ownBlock = some g ∧ (w1.alloc o).heap.size ≤ g) :
    BackRel w w2 p v' zs (ts ++ [a]) := by
  have hT1 : Took w1 F' v ts := hT.fr hfr hn
  have hsz : (w1.alloc o).heap.size = w1.heap.size + 1 := by simp
  have hf1 : Fr w1 w2 (fun i => v.ownBlock = some i) := ((Fr.refl w1 _).alloc o).trans (Fr.of_grew hg) (fun i _ e => e.symm)
  have hle := hfr.size
  have hGs := hG.size
  refine ⟨F', ?_, hT1.more hb.has ho ?_, fun i hi => ?_, fun g hk => ?_, ?_, ?_⟩
  · have : encs (ts ++ [a]) = encs ts ++ encA a := by simp [encs]
    rw [this]
    exact hb.fr hf1 (fun i hi e => hT1.2 i e hi)
  · rcases hat with e | ⟨g, e, h⟩
    · exact .inl e
    · exact .inr ⟨g, e, by omega⟩
  · rcases hn i hi with h | h
    · exact hF i h
    · omega
  · rcases hat with e | ⟨g', e, h⟩
    · exact hv g (by rw [← e]; exact hk)
    · rw [hk] at e; injection e with e; omega
  · exact grew_fr (grew_fr hG hfr hF) hf1 (fun i hi => hv i hi)
  · intro t htm
    rw [List.mem_append, List.mem_singleton] at htm
    rcases htm with h | rfl
    · exact ht t h
    · exact ⟨ha, hok⟩

/-- What holds ahead of each round of the second loop. -/
def BackRead (w wr : World) (q d : Nat) (v : Value) (ts : List Ac) (k : Nat) : Prop :=
  (∃ pl, Cr wr q (d + 1) (encs (ts.drop k)) pl) ∧ wr.ownsRow 0 34 5 v ts.length (actCells ts) ∧ Grew w wr none

/-- Behind an act that was refused. -/
theorem BackRel.skip {w wr w1 : World} {p : Nat} {v : Value} {zs ts : List Ac} {F F' : Nat → Prop} (hT : Took wr F v ts) (hF : ∀ i, F i → w.heap.size ≤ i) (hv : ∀ g, v.ownBlock = some g → w.heap.size ≤ g)
    (hG : Grew w wr none) (ht : ∀ t ∈ ts, t ∈ zs ∧ TkOk t) (hb : Bd w1 F' p 1048576 (encs ts) []) (hfr : Fr wr w1 F) (hn : ∀ i, F' i → F i ∨ wr.heap.size ≤ i) : BackRel w w1 p v zs ts := by
  have hGs := hG.size
  refine ⟨F', hb, hT.fr hfr hn, fun i hi => ?_, hv, grew_fr hG hfr hF, ht⟩
  rcases hn i hi with h | h
  · exact hF i h
  · omega

set_option maxRecDepth 100000 in
set_option maxHeartbeats 8000000 in
theorem builderBack_less (w : World) (A : Option Addr) (c : Nat) (zs : List Ac) (hl : zs.length ≤ c) (hc : c ≤ 140737488351232) (hz : Acts w A zs) (hok : ∀ z ∈ zs, z.ok w) (hg : grt zs = false) :
    Calls Try.prog 5 #[.slice A zs.length c] w fun e w' => e = .returned (.bool true) ∧ Below w.heap.size w w' := by
  obtain ⟨hn60, hb300⟩ := grt_false hg
  have HZ := Lib.hid hz
  have HG := Lib.hid hg
  have HOK := Lib.hid hok
  have HB3 := Lib.hid hb300
  clear hz hg hok hb300
  go_enter Try.func5, Try.ntmps5
  go_wp2_with fail
  refine (alive2_any w).mono ?_
  rintro e w1 ⟨rfl, g1⟩
  go_wp2_with fail
  refine (great_any w1 A c zs hc hl (HZ.out.grew g1)).mono ?_
  rintro e w2 ⟨rfl, g2⟩
  rw [HG.out]
  go_wp2_with fail
  refine (bnew_ok w2 1048576 (by omega)).mono ?_
  rintro e w3 ⟨rfl, h3, g3⟩
  have g4 := grew_trans (grew_trans g1 g2) g3
  have hps : w.heap.size ≤ w2.heap.size := (grew_trans g1 g2).size
  have HR := Lib.hid (show BackRel w w3 w2.heap.size (.slice none 0 0) zs [] from ⟨_, h3, ⟨World.ownsRow_nil _ _ _ _, fun g h => by simp [Value.ownBlock] at h⟩, fun i hi => by omega, fun g h => by simp [Value.ownBlock] at h, g4, fun t h => by simp at h⟩)
  clear h3 g1 g2 g3 g4
  generalize w2.heap.size = p at *
  go_wp2_with fail
  go_loopw [5, 36] (fun v i wr => ∃ (k : Nat) (ts : List Ac), k ≤ zs.length ∧ ts.length ≤ k ∧ i = .int .i64 k ∧ Hid (BackRel w wr p v zs ts)) (fun _ i _ => zs.length - (intOf i).toNat)
  case atStart => exact ⟨0, [], Nat.zero_le _, Nat.le_refl _, rfl, HR⟩
  case round =>
    obtain ⟨k, ts, hk, htk, rfl, R⟩ := hrel
    by_cases hlt : k < zs.length
    · obtain ⟨F, r1, r2, r3, r4, r5, r6⟩ := R.out
      obtain ⟨b, o, rfl, hb, c0, c1, c2, c3, c4⟩ := HZ.out.cell r5 hlt
      have hm : zs.getD k default ∈ zs := by
        rw [List.getD, List.getElem?_eq_getElem hlt]
        exact List.getElem_mem hlt
      have hx := (HOK.out _ hm).1
      have hby := (HOK.out _ hm).2.grew r5 (fun _ h => by cases h)
      generalize zs.getD k default = a at *
      obtain ⟨kd, sz, n, x, B, cB, bs⟩ := a
      simp only at c0 c1 c2 c3 c4 hx hby
      have HM := Lib.hid hm
      have hboxed := Lib.hid (R.out.box (.cells #[.int .i64 kd, .int .i64 sz, .int .i64 n, .int .u64 x, .slice B bs.length cB] 34))
      have R1 := Lib.hid r1
      have R2 := Lib.hid r2
      have R3 := Lib.hid r3
      have R4 := Lib.hid r4
      have R5 := Lib.hid r5
      have R6 := Lib.hid r6
      clear r1 r2 r3 r4 r5 r6 hm
      by_cases hk01 : kd = 0 ∨ kd = 1
      · have hfb := (Fr.refl wr (fun _ => False)).alloc (.cells #[.int .i64 kd, .int .i64 sz, .int .i64 n, .int .u64 x, .slice B bs.length cB] 34)
        have hwn := Whole.new wr #[.int .i64 kd, .int .i64 sz, .int .i64 n, .int .u64 x, .slice B bs.length cB] 34
        have hdo := do_any _ F p 1048576 (encs ts) [] (R1.out.fr hfb (fun _ _ h => h)) ⟨kd, sz, n, x, B, cB, bs⟩ hx w.heap.size (hby.grew (grew_alloc (grew_refl wr none) (.cells #[.int .i64 kd, .int .i64 sz, .int .i64 n, .int .u64 x, .slice B bs.length cB] 34)) (fun _ h => by cases h))
        rw [back_doP _ _ _ hk01] at hdo
        have hst := back_step 1048576 (encs ts) ⟨kd, sz, n, x, B, cB, bs⟩ hk01
        simp only [Ac.cells] at hdo
        have HDO := Lib.hid hdo
        have HWN := Lib.hid hwn
        have HFB := Lib.hid hfb
        have hd0 : (kd != 0) = true ∧ (kd != 1) = false ∨ (kd != 0) = false := by
          rcases hk01 with rfl | rfl <;> simp
        have hd1 : (kd == 0) = false ∧ (kd == 1) = true ∨ (kd == 0) = true := by
          rcases hk01 with rfl | rfl <;> simp
        clear hdo hwn hfb hby hx
        generalize hE : doE 1048576 (encs ts) [] ⟨kd, sz, n, x, B, cB, bs⟩ = E at *
        generalize hX : doX 1048576 (encs ts) [] ⟨kd, sz, n, x, B, cB, bs⟩ = X at *
        clear hE hX
        have hz1 : wr.heap.size < (wr.alloc (.cells #[.int .i64 kd, .int .i64 sz, .int .i64 n, .int .u64 x, .slice B bs.length cB] 34)).heap.size := by simp
        have HST := Lib.hid hst
        have hnz : ¬ F wr.heap.size := fun h => by have := R1.out.has _ h; omega
        have HNZ := Lib.hid hnz
        clear hd1 hst hnz
        obtain ⟨i0, hi0, hz0, hz1', hz2⟩ := info_parts act_info
        have HI := Lib.hid hi0
        have HI0 := Lib.hid hz0
        have HI1 := Lib.hid hz1'
        have HI2 := Lib.hid hz2
        clear hi0 hz0 hz1' hz2
        clear hk01
        rcases hd0 with ⟨hd0, hd1⟩ | hd0
        all_goals
          go_wp2_with fail
          refine HDO.out.mono ?_
          rintro e w4 ⟨rfl, F4, b4, f4, n4⟩
          have f5 : Fr wr w4 F := (HFB.out.mono (fun _ _ h => h.elim)).trans f4 (fun _ _ h => h)
          have n5 : ∀ i, F4 i → F i ∨ wr.heap.size ≤ i := fun i hi => (n4 i hi).imp id (fun h => by omega)
          have hw4 := HWN.out.fr f4 HNZ.out
          have e0 := hw4.cell 0
          have e1 := hw4.cell 1
          have e2 := hw4.cell 2
          have e3 := hw4.cell 3
          have e4 := hw4.cell 4
          simp only [List.getElem?_toArray, List.getElem?_cons_succ, List.getElem?_cons_zero] at e0 e1 e2 e3 e4
          have HF5 := Lib.hid f5
          have HN5 := Lib.hid n5
          have HB4 := Lib.hid b4
          have hzl := f4.size
          clear f5 n5 b4 f4 n4 hw4 HDO HWN HFB HNZ c0 c1 c2 c3 c4
          rcases HST.out with ⟨rfl, hok, hX⟩ | ⟨hE, hX⟩
          · have HX := Lib.hid hX
            have HTO := Lib.hid hok
            clear hX hok HST
            rw [HX.out] at HB4
            have hown := own_fr (R2.out.fr HF5.out HN5.out).1 ((Fr.refl w4 (fun _ => False)).alloc (.cells #[.int .i64 kd, .int .i64 sz, .int .i64 n, .int .u64 x, .slice B bs.length cB] 34)) (fun _ _ h => h)
            have HOWN := Lib.hid hown
            clear hown HX
            go_wp2_with (at_builtin; refine wpList_append_lies _ rfl _ _ _ rfl 0 34 i0 _ 5 56 Try.underlying22 HI.out HI0.out HI1.out HI2.out rfl (by omega) u5 ts.length (actCells ts) rfl HOWN.out ⟨w4.heap.size, 0, none⟩ 1 1 [.int .i64 kd, .int .i64 sz, .int .i64 n, .int .u64 x, .slice B bs.length cB] rfl rfl (World.news_of_block (cs := #[.int .i64 kd, .int .i64 sz, .int .i64 n, .int .u64 x, .slice B bs.length cB]) (t := 34) (fr := (0, 0)) (heap_alloc_new w4 _)) (by simp [Value.oneCell']) (by omega) (by unfold maxLen; omega) (by omega) (Nat.zero_le _) (w4.heap.size + 1) (by simp) ?_; intro gg cap w5 hown1 hgrow hat hlt5; have HO1 := Lib.hid hown1; have HG1 := Lib.hid hgrow; have HAT := Lib.hid hat; clear hown1 hgrow hat)
            have HR2 := Lib.hid (BackRel.done (a := ⟨kd, sz, n, x, B, cB, bs⟩) R2.out R3.out R4.out R5.out R6.out HB4.out HF5.out HN5.out HM.out HTO.out HO1.out _ HG1.out (HAT.out.elim (fun e => .inl e.symm) (fun e => .inr ⟨gg, rfl, by simp; omega⟩)))
            go_roundw
            case rel => exact ⟨k + 1, _, by omega, by simp; omega, by go_num, HR2⟩
            case measure => simp [intOf]; omega
          · rw [hX] at HB4
            have hE' : (E == 0) = false := by simpa using hE
            have HR2 := Lib.hid (BackRel.skip R2.out R3.out R4.out R5.out R6.out HB4.out HF5.out HN5.out)
            clear hE hX HST
            go_wp2_with fail
            go_roundw
            case rel => exact ⟨k + 1, ts, by omega, by omega, by go_num, HR2⟩
            case measure => simp [intOf]; omega
      · have hd0 : (kd != 0) = true := by simp; omega
        have hd1 : (kd != 1) = true := by simp; omega
        have hd2 : (kd == 0) = false := by simp; omega
        have hd3 : (kd == 1) = false := by simp; omega
        clear hk01
        go_wp2_with fail
        go_roundw
        case rel => exact ⟨k + 1, ts, by omega, by omega, by go_num, hboxed⟩
        case measure => simp [intOf]; omega
    · obtain ⟨F, r1, r2, r3, r4, r5, r6⟩ := R.out
      have hxl := r1.le.1
      have hne : ∀ k', (.slice none 0 0 : Value).ownBlock = some k' → False := fun k' h => by simp [Value.ownBlock] at h
      clear hne
      have R1 := Lib.hid r1
      have R2 := Lib.hid r2
      have R5 := Lib.hid r5
      have R6 := Lib.hid r6
      obtain ⟨A', c', rfl, hnc, hcm, _⟩ := own_form r2.1
      clear r1 r2 r3 r4 r5 r6 R HR
      go_wp2_with fail
      refine (bdone_ok wr F p 1048576 (encs ts) R1.out).mono ?_
      rintro e w5 ⟨rfl, b5, g5, l5⟩
      have R2' := Lib.hid (own_fr R2.out.1 (Fr.of_grew g5) (fun _ _ h => by cases h))
      have hgl : ∀ g, (Value.slice A' ts.length c').ownBlock = some g → g < w5.heap.size := own_lt R2'.out
      have hcn := cr_new w5 (some ⟨wr.heap.size, 0, none⟩) (encs ts).length (encs ts) 0 (Nat.le_refl _) (by omega) (wr.heap.size + 1) (fun hn => by obtain ⟨b, o, e, hb, hcell⟩ := b5 hn; exact ⟨b, o, e, by omega, hcell⟩) (by omega) (by omega) (by omega)
      have HCN := Lib.hid hcn
      have g6 := grew_trans R5.out g5
      clear hcn b5 g5 R1 R2 R5
      go_wp2_with fail
      refine HCN.out.mono ?_
      rintro e w6 ⟨rfl, h6, g7⟩
      have hq6 : w.heap.size ≤ w5.heap.size := g6.size
      have H6 := Lib.hid h6
      have HO6 := Lib.hid (own_fr R2'.out (Fr.of_grew g7) (fun _ _ h => by cases h))
      have G6 := Lib.hid (grew_trans g6 g7)
      have HGL := Lib.hid hgl
      generalize w5.heap.size = q at *
      generalize wr.heap.size = d at *
      clear h6 g7 g6 HCN R2' hgl
      go_wp2_with fail
      go_loopw [72] (fun i wr => ∃ k : Nat, k ≤ ts.length ∧ i = .int .i64 k ∧ Hid (BackRead w wr q d (.slice A' ts.length c') ts k)) (fun i _ => ts.length - (intOf i).toNat)
      case atStart => exact ⟨0, Nat.zero_le _, rfl, Lib.hid ⟨⟨0, by simpa using H6.out⟩, HO6.out, G6.out⟩⟩
      case round =>
        obtain ⟨k2, hk2, rfl, S⟩ := hrel
        by_cases hlt2 : k2 < ts.length
        · obtain ⟨⟨pl, s1⟩, s2, s3⟩ := S.out
          obtain ⟨g, cg, hv, _, hgl⟩ := s2.form (by omega)
          injection hv with hA _ hcg
          subst hA hcg
          have hgq : g < q := HGL.out g rfl
          have hT : Took wr (fun _ => False) (.slice (some ⟨g, 0, none⟩) ts.length c') ts := ⟨s2, fun _ _ h => h⟩
          have c0 := hT.cell (j := 0) hlt2 (by omega)
          have c1 := hT.cell (j := 1) hlt2 (by omega)
          have c2 := hT.cell (j := 2) hlt2 (by omega)
          have c3 := hT.cell (j := 3) hlt2 (by omega)
          have c4 := hT.cell (j := 4) hlt2 (by omega)
          have hm : ts.getD k2 default ∈ ts := by
            rw [List.getD, List.getElem?_eq_getElem hlt2]
            exact List.getElem_mem hlt2
          have hdr : ts.drop k2 = ts.getD k2 default :: ts.drop (k2 + 1) := by
            rw [List.drop_eq_getElem_cons hlt2]
            simp [List.getD, List.getElem?_eq_getElem hlt2]
          have hen : encs (ts.drop k2) = encA (ts.getD k2 default) ++ encs (ts.drop (k2 + 1)) := by rw [hdr]; simp [encs]
          rw [hen] at s1
          obtain ⟨hmz, htk⟩ := R6.out _ hm
          obtain ⟨hx, hby⟩ := HOK.out _ hmz
          have hby' := hby.grew s3 (fun _ h => by cases h)
          generalize ts.getD k2 default = a at *
          obtain ⟨kd, sz, n, x, B, cB, bs⟩ := a
          simp only [Ac.cells, Nat.add_zero, List.getElem?_toArray, List.getElem?_cons_succ, List.getElem?_cons_zero] at c0 c1 c2 c3 c4 hx hby'
          have hfz := (Fr.refl wr (fun _ => False)).alloc (.cells #[.int .i64 kd, .int .i64 sz, .int .i64 n, .int .u64 x, .slice B bs.length cB] 34)
          have hgz := grew_alloc (grew_refl wr none) (.cells #[.int .i64 kd, .int .i64 sz, .int .i64 n, .int .u64 x, .slice B bs.length cB] 34)
          have hwn := Whole.new wr #[.int .i64 kd, .int .i64 sz, .int .i64 n, .int .u64 x, .slice B bs.length cB] 34
          have S1 := Lib.hid (s1.grew hgz (by simp) (fun _ h => by cases h))
          have S2 := Lib.hid (own_fr s2 hfz (fun _ _ h => h))
          have S3 := Lib.hid (grew_trans s3 hgz)
          have S4 := Lib.hid hwn
          have S5 := Lib.hid (hby'.grew hgz (fun _ h => by cases h))
          have hql := s1.lt
          clear s1 s2 s3 hT hm hdr hen hmz hby hby' hfz hgz hwn S
          rcases htk with ⟨h0, h1, h2⟩ | h1
          · simp only at h0 h1 h2
            subst h0
            obtain ⟨sz, rfl⟩ := Int.eq_ofNat_of_zero_le (a := sz) (by unfold sizeOk at h1; omega)
            rw [Int.toNat_natCast] at h2
            have hE : encA ⟨0, sz, n, x, B, cB, bs⟩ = be sz x := by simp [encA]
            rw [hE] at S1
            have hcr := cr_number _ q (d + 1) _ pl S1.out sz h1 (by rw [List.length_append, be_length]; omega)
            rw [List.take_left' (be_length _ _), List.drop_left' (be_length _ _), num_be_lt _ _ h2] at hcr
            have HCR := Lib.hid hcr
            clear hcr h1 h2 hE S1
            go_wp2_with fail
            refine HCR.out.mono ?_
            rintro e w7 ⟨rfl, h7, g7, _⟩
            have hw7 := S4.out.grew g7 (by simp; omega)
            have e3 := hw7.cell 3
            simp only [List.getElem?_toArray, List.getElem?_cons_succ, List.getElem?_cons_zero] at e3
            have HR7 := Lib.hid (show BackRead w w7 q d (.slice (some ⟨g, 0, none⟩) ts.length c') ts (k2 + 1) from ⟨⟨_, h7⟩, own_fr S2.out (Fr.of_grew g7) (fun k hk e => by simp [Value.ownBlock] at hk e; omega), grew_own S3.out g7 hq6⟩)
            clear h7 g7 hw7 S2 S3 S4 S5 c0 c1 c2 c3 c4 HCR
            go_wp2_with fail
            go_roundw
            case rel => exact ⟨k2 + 1, by omega, by go_num, HR7⟩
            case measure => simp [intOf]; omega
          · simp only at h1
            subst h1
            have hE : encA ⟨1, sz, n, x, B, cB, bs⟩ = bs := by simp [encA]
            rw [hE] at S1
            have hcr := cr_take _ q (d + 1) _ pl S1.out bs.length (by rw [List.length_append]; omega)
            rw [List.take_left, List.drop_left] at hcr
            have HCR := Lib.hid hcr
            clear hcr hE S1
            go_wp2_with fail
            generalize wr.alloc (.cells #[.int .i64 1, .int .i64 sz, .int .i64 n, .int .u64 x, .slice B bs.length cB] 34) = W1 at *
            have hwl := S4.out.lt
            generalize wr.heap.size = z at *
            refine HCR.out.mono ?_
            rintro e w7 ⟨rfl, h7, b7, g7, _⟩
            generalize W1.heap.size = z1 at *
            have hw7 := S4.out.grew g7 (by simp; omega)
            have e4 := hw7.cell 4
            simp only [List.getElem?_toArray, List.getElem?_cons_succ, List.getElem?_cons_zero] at e4
            have cv1 := conv_txt w7 Try.underlying32 Try.underlying5 Try.underlying9 b7 rfl bs.length
            have cv2 := conv_txt w7 Try.underlying32 Try.underlying5 Try.underlying9 (S5.out.grew g7 (fun k h => by cases h; exact hq6)) rfl cB
            have HR7 := Lib.hid (show BackRead w w7 q d (.slice (some ⟨g, 0, none⟩) ts.length c') ts (k2 + 1) from ⟨⟨_, h7⟩, own_fr S2.out (Fr.of_grew g7) (fun k hk e => by simp [Value.ownBlock] at hk e; omega), grew_own S3.out g7 hq6⟩)
            generalize txt bs = T at *
            clear h7 g7 hw7 S2 S3 S4 S5 c0 c1 c2 c3 c4 HCR b7
            go_wp2_with fail
            go_roundw
            case rel => exact ⟨k2 + 1, by omega, by go_num, HR7⟩
            case measure => simp [intOf]; omega
        · obtain rfl : k2 = ts.length := by omega
          obtain ⟨⟨pl, s1⟩, s2, s3⟩ := S.out
          simp only [List.drop_length, show encs [] = [] from rfl] at s1
          have S1 := Lib.hid s1
          have S3 := Lib.hid s3
          clear s1 s2 s3 S
          go_wp2_with fail
          refine (cr_left _ q (d + 1) [] pl S1.out).mono ?_
          rintro e w8 ⟨rfl, rfl⟩
          simp only [List.length_nil]
          go_wp2_with fail
          go_ret
          exact ⟨rfl, grew_below S3.out (Nat.le_refl _) (fun _ h => by cases h)⟩

theorem builderBack_walk (w : World) (A : Option Addr) (c : Nat) (zs : List Ac) (hl : zs.length ≤ c) (hc : c ≤ 140737488351232) (hz : Acts w A zs) (hok : ∀ z ∈ zs, z.ok w) :
    Calls Try.prog 5 #[.slice A zs.length c] w fun e w' => e = .returned (.bool true) ∧ Below w.heap.size w w' := by
  cases hg : grt zs with
  | true => exact builderBack_great w A c zs hl hc hz hg
  | false => exact builderBack_less w A c zs hl hc hz hok hg

set_option maxRecDepth 100000 in
theorem builderBack_lifted (os : Os) (started : os.Started) (H : Type) (enc : TypeId × Value → H) :
    ReturnsInHanded {} Try.checked os 5 .any (Rows.builderBackSpec.pre6 enc Try.prog Try.f5 Rows.builderBackRow.domain false) (Rows.builderBackSpec.post enc Try.prog Try.f5 false true false false) := by
  refine returnsInHanded_of_change_sized (C := Try.checked) own started (by kernel_rfl) Try.func5
    (ChangeSpec.witness6 (enc := enc) (C := Try.checked) false ⟨#[], #[.slice none 0 0], []⟩ 8 (by kernel_rfl) (by kernel_rfl) (by kernel_rfl) (by kernel_rfl)) ?_
  intro W base args ds gs before hval0 hW hcnd hsz0 _
  have hval : ∀ (j : Nat) t v, Try.f5.params[j]? = some t → args[j]? = some v → Value.okWide Try.prog W .any base t v := hval0
  have hsz : (DataW.weightsEach Try.prog (Try.f5.params.toList ++ Rows.builderBackSpec.plain.varTypes Try.prog) (ds ++ gs)).all (· ≤ reachBytes) = true := hsz0
  have hW' := hW
  obtain ⟨p, q, hA0, hV, rfl, hfz, hnd⟩ := hW
  have hA : DataW.TrodAll enc Try.prog W 0 (fun _ => true) true Try.f5.params.toList args.toList ds p := hA0
  rw [Try.params5] at hA hval hsz
  obtain ⟨v0, vs0, d0, ds0, p0, q0, hargs, rfl, rfl, h0, r0⟩ := trodAll_cons hA
  obtain ⟨rfl, rfl, rfl⟩ := trodAll_nil r0
  obtain rfl : args = #[v0] := by cases args; simp_all
  obtain ⟨rfl, rfl⟩ := trodVars_none hV
  have k0 := h0
  have lt0 : ∀ x ∈ p0, x.block < W.heap.size := by obtain ⟨m, hm⟩ := k0; exact DataW.trod_lt m _ _ _ hm
  obtain ⟨A0, c0, x0, rfl, l0, m0, b0, w0⟩ := arg_acts (hval 0 22 v0 rfl rfl) h0 hsz (j := 0) rfl rfl
  clear hA0 hval0 hsz0
  refine (builderBack_walk W A0 c0 x0 l0 m0 b0 w0).mono fun e W' ⟨he, bel⟩ => ?_
  subst he
  exact ⟨_, rfl, _, _, _, [], _, [], hW', trodAll_mk1 (shut_bool Try.underlying4 _), (trodAll_cons_mk (Below.trod laidOut (by kernel_rfl) (of_decide_eq_true (by kernel_rfl)) k0 bel lt0) trodAll_mk0), rfl, bel.frame _, fun h => by cases h⟩

theorem builderBack_over : Rows.builderBackRow.holds Try.pinned (OpenSpec.ofChange Rows.builderBackSpec) :=
  OpenClaim.holds_of_wide 5 Try.f5 rfl rfl rfl rfl rfl rfl rfl ⟨rfl, rfl, rfl, rfl, rfl⟩ rfl rfl rfl rfl rfl (by kernel_rfl) Try.func5 (by kernel_rfl)
    (of_decide_eq_true (by kernel_rfl)) (by unfold Func.isWrapper; first | (rw [if_pos (by decide +kernel)]; kernel_rfl) | (rw [if_neg (by decide +kernel)]; exact ⟨rfl, rfl⟩))
    (fun os started H enc _ => builderBack_lifted os started H enc)

theorem builderBack_holds : Rows.BuilderBackSaid := builderBack_over
#print axioms builderBack_holds
end Go.Proofs.Ytkeiamihgcbcbaa

