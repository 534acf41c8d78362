/- Layer 11: Read. -/
import Derived.Test.YtnjnghbonmdbdaaDoorQ10
import Derived.Test.YtnjnghbonmdbdaaDoorQ7
import Derived.Test.YtnjnghbonmdbdaaDoorQ1
import Derived.Test.YtnjnghbonmdbdaaDoorRows
import Derived.ProofKit
import Derived.OpenShut
import Derived.ShutString
import Derived.ChangeOld
import Derived.Below
import Derived.SizedLaws
import Derived.Deep.SlicePairs
import Derived.LaidEqlPtr
import Derived.Maps.AppendAt
import Derived.Laws.Rows
import Derived.Test.YtnjnghbonmdbdaaDoorQ5
import Derived.BigQuiet
import Derived.Deep.Cut
namespace Go.Proofs.YtnjnghbonmdbdaaDoor
open Go.RowKit Nd

/-- What a Read leaves, where its lists lie told, too. -/
def ReadQ (w : World) (base : Int) (R : Rn) (e : Ending) (w' : World) : Prop :=
  ∃ v : Nd, e = .returned (.tuple #[.agg #[.int .i64 v.k, .int .i64 v.t, .bool v.m, .slice v.B v.bs.length v.d, .slice v.A v.ls.length v.c], .int .i64 (base + (R.n : Int)), .int .i64 R.e]) ∧ v.nf = R.v ∧ v.In w' ∧ v.Cl w' ∧ v.Off (· < w.heap.size) ∧ Below w.heap.size w w'
theorem ReadQ.err {w w' : World} {base : Int} {R : Rn} {E : Int} {n : Nat} (h : R = ⟨E, n, .z⟩) (b : Below w.heap.size w w') : ReadQ w base R (.returned (.tuple #[.agg #[.int .i64 0, .int .i64 0, .bool false, .slice none 0 0, .slice none 0 0], .int .i64 (base + (n : Int)), .int .i64 E])) w' := by
  subst h
  exact ⟨.z, rfl, rfl, z_in _, z_cl _, z_off _, b⟩

/-- 'readWhole' leaves with what lies in its result. -/
theorem rw_leave {W : World} {q : Nat} {a0 a1 a2 a3 a4 : Value} (h : Whole W q #[a0, a1, a2, a3, a4] 27) (v0 v1 v2 v3 v4 : Value) (a : Act) (x y : Value)
    (h2 : a.tmps.getD 2 undef = .pointer (some ⟨q, 0, none⟩)) (h3 : a.tmps.getD 3 undef = x) (h4 : a.tmps.getD 4 undef = y) (hd : a.defers = []) {E : Ending → World → Prop}
    (hE : E (.returned (.tuple #[.agg #[v0, v1, v2, v3, v4], x, y])) (put5 W q v0 v1 v2 v3 v4)) :
    bodyPost Tryd.prog Tryd.f21 E Exit.ret a (put5 W q v0 v1 v2 v3 v4) := by
  refine bodyPost_ret (results_cell_tmps rfl _ _ q _ _ _ _ h2 (h.put5 _ _ _ _ _) Tryd.underlying27 rfl (by kernel_rfl)) hd ?_
  rw [h3, h4]
  exact hE
/-- 'Read' leaves with what lies in its result. -/
theorem dr_leave {W : World} {q : Nat} {a0 a1 a2 a3 a4 : Value} (h : Whole W q #[a0, a1, a2, a3, a4] 27) (v0 v1 v2 v3 v4 : Value) (a : Act) (x y : Value)
    (h2 : a.tmps.getD 4 undef = .pointer (some ⟨q, 0, none⟩)) (h3 : a.tmps.getD 5 undef = x) (h4 : a.tmps.getD 6 undef = y) (hd : a.defers = []) {E : Ending → World → Prop}
    (hE : E (.returned (.tuple #[.agg #[v0, v1, v2, v3, v4], x, y])) (put5 W q v0 v1 v2 v3 v4)) :
    bodyPost Tryd.prog Tryd.f11 E Exit.ret a (put5 W q v0 v1 v2 v3 v4) := by
  refine bodyPost_ret (results_cell_tmps rfl _ _ q _ _ _ _ h2 (h.put5 _ _ _ _ _) Tryd.underlying27 rfl (by kernel_rfl)) hd ?_
  rw [h3, h4]
  exact hE

set_option maxRecDepth 100000 in
set_option maxHeartbeats 1000000 in
theorem readwhole_any (w : World) (hT : Tb w) (A : Option Addr) (c : Nat) (xs : List UInt8) (hb : Byt w w.heap.size A xs) (hc : xs.length ≤ c) (hl : xs.length ≤ 1099511627776) :
    Calls Tryd.prog 21 #[.slice A xs.length c] w (ReadQ w 0 (rdN xs)) := by
  obtain ⟨R, hR⟩ : ∃ R, rdN xs = R := ⟨_, rfl⟩
  rw [hR]
  have hR2 := hR.symm
  unfold rdN at hR2
  have HB := Lib.hid hb
  have HC := Lib.hid (And.intro hc hl)
  have HTB := Lib.hid hT
  have HR := Lib.hid hR2
  obtain ⟨L, hL⟩ : ∃ L, xs.length = L := ⟨_, rfl⟩
  have HL := Lib.hid hL
  rw [hL] at hl HR ⊢
  have hLI : (L : Int) ≤ 1099511627776 := by omega
  clear hb hc hl hR hR2 hT hL
  go_enter Tryd.func21, Tryd.ntmps21
  go_upto_region 3 with (fail)
  obtain ⟨P, hP⟩ : ∃ P, w.heap.size = P := ⟨_, rfl⟩
  rw [hP]
  obtain ⟨q, hq⟩ : ∃ q, P + 1 = q := ⟨_, rfl⟩
  rw [hq]
  obtain ⟨U, hU⟩ : ∃ U, q + 1 = U := ⟨_, rfl⟩
  rw [hU]
  obtain ⟨W, hW⟩ : ∃ W, ((w.alloc (.cells #[.slice A L c] 22)).alloc (.cells #[.int .i64 0, .int .i64 0, .bool false, .slice none 0 0, .slice none 0 0] 27)).alloc (.cells #[.func (.func 30) #[] #[.pointer (some ⟨P, 0, none⟩), .pointer (some ⟨U, 0, none⟩)]] 63) = W := ⟨_, rfl⟩
  rw [hW]
  have HP := Lib.hid hP
  have HM := Lib.hid (show Whole W P #[.slice A L c] 22 ∧ Whole W q #[.int .i64 0, .int .i64 0, .bool false, .slice none 0 0, .slice none 0 0] 27 ∧ Whole W (U) #[.func (.func 30) #[] #[.pointer (some ⟨P, 0, none⟩), .pointer (some ⟨U, 0, none⟩)]] 63 ∧ Below w.heap.size w W ∧ W.heap.size = P + 3 by
    rw [← hW]
    refine ⟨?_, ?_, ?_, ?_, by simp [World.size_alloc, hP]⟩
    · have := (Whole.new w #[.slice A L c] 22)
      rw [hP] at this
      exact this.grew (grew_alloc (grew_alloc (grew_refl _ none) _) _) (by simp)
    · have := (Whole.new (w.alloc (.cells #[.slice A L c] 22)) #[.int .i64 0, .int .i64 0, .bool false, .slice none 0 0, .slice none 0 0] 27)
      rw [World.size_alloc, hP, hq] at this
      exact this.grew (grew_alloc (grew_refl _ none) _) (by simp)
    · have := Whole.new ((w.alloc (.cells #[.slice A L c] 22)).alloc (.cells #[.int .i64 0, .int .i64 0, .bool false, .slice none 0 0, .slice none 0 0] 27)) #[.func (.func 30) #[] #[.pointer (some ⟨P, 0, none⟩), .pointer (some ⟨U, 0, none⟩)]] 63
      rw [World.size_alloc, World.size_alloc, hP, hq, hU] at this
      exact this
    · exact (((Below.refl _ w).alloc (Nat.le_refl _) _).alloc (by simp) _).alloc (by simp; omega) _)
  have HQ := Lib.hid hq
  clear hW hP hq hU
  have hone := th_any 8 1 rfl W A c xs 0 xs.length P U (HTB.out.self HM.out.2.2.2.1) ((byt_below HB.out HM.out.2.2.2.1 (Nat.le_refl _)).more HM.out.2.2.2.1.size) HC.out.1 HC.out.2 (Nat.zero_le _) (Nat.le_refl _) ⟨by rw [HL.out]; exact HM.out.1, HM.out.2.2.1⟩
  rw [show (xs.drop 0).take (xs.length - 0) = xs by simp, HL.out] at hone
  change Calls Tryd.prog 30 #[.int .i64 0, .int .i64 (L : Int), .int .i64 1, .pointer (some ⟨P, 0, none⟩), .pointer (some ⟨U, 0, none⟩)] W _ at hone
  have hg := rn_good 8 xs
  obtain ⟨r, hr⟩ : ∃ r, rn 8 xs = r := ⟨_, rfl⟩
  rw [hr] at hone HR hg
  rw [HL.out] at hg
  have HG := Lib.hid hg
  have HC1 := Lib.hid hone
  have hrI : (r.n : Int) ≤ 1099511627776 := by omega
  have u1 : W.cell? ⟨U, 0, none⟩ = some (.func (.func 30) #[] #[.pointer (some ⟨P, 0, none⟩), .pointer (some ⟨U, 0, none⟩)]) := HM.out.2.2.1.cell 0
  have p1 : W.cell? ⟨P, 0, none⟩ = some (.slice A L c) := HM.out.1.cell 0
  clear hone hg hr
  go_wp2_with fail
  refine HC1.out.mono ?_
  rintro e w2 ⟨v, rfl, hnf, ⟨hvi, hvc, hvo⟩, b2⟩
  rw [Nat.zero_add]
  have HV := Lib.hid (show v.nf = r.v ∧ v.In w2 ∧ v.Cl w2 ∧ v.Off (· < W.heap.size) from ⟨hnf, hvi, hvc, hvo⟩)
  have B2 := Lib.hid (HM.out.2.2.2.1.trans (b2.mono HM.out.2.2.2.1.size))
  have HW2 := Lib.hid (HM.out.2.1.below b2 HM.out.2.1.lt)
  have HP2 := Lib.hid (HM.out.1.below b2 HM.out.1.lt)
  clear b2 HC1 hnf hvi hvc hvo u1 p1
  go_upto_region 4 with (fail)
  obtain ⟨g, hg⟩ : ∃ g, w2.heap.size = g := ⟨_, rfl⟩
  rw [hg]
  have HN3 := Lib.hid (show Whole (w2.alloc (.cells #[.int .i64 v.k, .int .i64 v.t, .bool v.m, .slice v.B v.bs.length v.d, .slice v.A v.ls.length v.c] 27)) g #[.int .i64 v.k, .int .i64 v.t, .bool v.m, .slice v.B v.bs.length v.d, .slice v.A v.ls.length v.c] 27 by rw [← hg]; exact Whole.new _ _ _)
  have HW3 := Lib.hid (HW2.out.grew (grew_alloc (grew_refl w2 none) (.cells #[.int .i64 v.k, .int .i64 v.t, .bool v.m, .slice v.B v.bs.length v.d, .slice v.A v.ls.length v.c] 27)) (by simp))
  have HP3 := Lib.hid (HP2.out.grew (grew_alloc (grew_refl w2 none) (.cells #[.int .i64 v.k, .int .i64 v.t, .bool v.m, .slice v.B v.bs.length v.d, .slice v.A v.ls.length v.c] 27)) (by simp))
  have HV3 := Lib.hid (And.intro (HV.out.2.1.grew (grew_alloc (grew_refl w2 none) (.cells #[.int .i64 v.k, .int .i64 v.t, .bool v.m, .slice v.B v.bs.length v.d, .slice v.A v.ls.length v.c] 27))) (HV.out.2.2.1.grew (grew_alloc (grew_refl w2 none) (.cells #[.int .i64 v.k, .int .i64 v.t, .bool v.m, .slice v.B v.bs.length v.d, .slice v.A v.ls.length v.c] 27))))
  have B3 := Lib.hid (B2.out.alloc B2.out.size (.cells #[.int .i64 v.k, .int .i64 v.t, .bool v.m, .slice v.B v.bs.length v.d, .slice v.A v.ls.length v.c] 27))
  generalize w2.alloc (.cells #[.int .i64 v.k, .int .i64 v.t, .bool v.m, .slice v.B v.bs.length v.d, .slice v.A v.ls.length v.c] 27) = w3 at *
  clear hg
  have zf := HW3.out.frozen
  have zc := fun i => HW3.out.cell i
  have p3 : w3.cell? ⟨P, 0, none⟩ = some (.slice A L c) := HP3.out.cell 0
  have y0 : w3.cell? ⟨g, 0, none⟩ = some (.int .i64 v.k) := HN3.out.cell 0
  have y1 : w3.cell? ⟨g, 1, none⟩ = some (.int .i64 v.t) := HN3.out.cell 1
  have y2 : w3.cell? ⟨g, 2, none⟩ = some (.bool v.m) := HN3.out.cell 2
  have y3 : w3.cell? ⟨g, 3, none⟩ = some (.slice v.B v.bs.length v.d) := HN3.out.cell 3
  have y4 : w3.cell? ⟨g, 4, none⟩ = some (.slice v.A v.ls.length v.c) := HN3.out.cell 4
  have HQP := Lib.hid (show w.heap.size ≤ q ∧ q < W.heap.size by have := HP.out; have := HQ.out; have := HM.out.2.2.2.2; omega)
  rcases (Decidable.em (r.e = 0)).symm with g0 | g0
  · have HE := Lib.hid (show R = r by rw [HR.out, if_pos g0])
    have g0' : (r.e == 0) = false := beq_eq_false_iff_ne.2 g0
    clear g0
    go_wp2_with fail
    refine rw_leave HW3.out _ _ _ _ _ _ (.int .i64 (0 + (r.n : Int))) (.int .i64 r.e) rfl (by rw [Int.zero_add]; rfl) rfl rfl ?_
    rw [HE.out]
    exact ⟨v, rfl, HV.out.1, HV3.out.1.fr2 (fr_put5 _ _ _ _ _ _ _) (HV.out.2.2.2.mono (fun i e => by have := HQP.out; omega)), HV3.out.2.fr (fr_put5 _ _ _ _ _ _ _) (HV.out.2.2.2.mono (fun i e => by have := HQP.out; omega)), HV.out.2.2.2.mono (fun i e => by have := HQP.out; omega), below_put5 B3.out HQP.out.1 _ _ _ _ _⟩
  · have g0' : (r.e == 0) = true := beq_iff_eq.2 g0
    have HR2 := Lib.hid (show R = if r.n ≠ L then ⟨6, r.n, .z⟩ else r by rw [HR.out, if_neg (fun h => h g0)])
    have HG0 := Lib.hid g0
    clear g0
    rcases Decidable.em (r.n < L) with g1 | g1
    · have g1' : (r.n : Int) < (L : Int) := by omega
      have HE := Lib.hid (show R = ⟨6, r.n, .z⟩ by rw [HR2.out, if_pos (by omega)])
      clear g1
      go_wp2_with fail
      refine rw_leave HW3.out _ _ _ _ _ _ (.int .i64 (0 + (r.n : Int))) _ rfl (by rw [Int.zero_add]; rfl) rfl rfl ?_
      exact ReadQ.err HE.out (below_put5 B3.out HQP.out.1 _ _ _ _ _)
    · have g1' : ¬ (r.n : Int) < (L : Int) := by omega
      have HE := Lib.hid (show R = r by rw [HR2.out, if_neg (by have := HG.out.1; omega)])
      clear g1
      go_wp2_with fail
      refine rw_leave HW3.out _ _ _ _ _ _ (.int .i64 (0 + (r.n : Int))) (.int .i64 r.e) rfl (by rw [Int.zero_add]; rfl) rfl rfl ?_
      rw [HE.out]
      exact ⟨v, rfl, HV.out.1, HV3.out.1.fr2 (fr_put5 _ _ _ _ _ _ _) (HV.out.2.2.2.mono (fun i e => by have := HQP.out; omega)), HV3.out.2.fr (fr_put5 _ _ _ _ _ _ _) (HV.out.2.2.2.mono (fun i e => by have := HQP.out; omega)), HV.out.2.2.2.mono (fun i e => by have := HQP.out; omega), below_put5 B3.out HQP.out.1 _ _ _ _ _⟩

set_option maxRecDepth 100000 in
set_option maxHeartbeats 1000000 in
theorem derread_any (w : World) (hT : Tb w) (A : Option Addr) (c : Nat) (xs : List UInt8) (base : Int) (hb : Byt w w.heap.size A xs) (hc : xs.length ≤ c) (hl : xs.length ≤ 1099511627776) (hb0 : 0 ≤ base) (hb1 : base ≤ 1099511627776) :
    Calls Tryd.prog 11 #[.slice A xs.length c, .int .i64 base] w (ReadQ w base (rdN xs)) := by
  obtain ⟨R, hR⟩ : ∃ R, rdN xs = R := ⟨_, rfl⟩
  rw [hR]
  obtain ⟨q, hq⟩ : ∃ q, w.heap.size = q := ⟨_, rfl⟩
  obtain ⟨w1, hw1⟩ : ∃ w1, w.alloc (.cells #[.int .i64 0, .int .i64 0, .bool false, .slice none 0 0, .slice none 0 0] 27) = w1 := ⟨_, rfl⟩
  have HQ := Lib.hid hq
  have HW1 := Lib.hid (show Whole w1 q #[.int .i64 0, .int .i64 0, .bool false, .slice none 0 0, .slice none 0 0] 27 by rw [← hw1, ← hq]; exact Whole.new _ _ _)
  have B1 := Lib.hid (show Below w.heap.size w w1 ∧ w1.heap.size = q + 1 from ⟨by rw [← hw1]; exact (Below.refl _ w).alloc (Nat.le_refl _) _, by rw [← hw1, World.size_alloc, hq]⟩)
  have hrw := readwhole_any w1 (hT.self B1.out.1) A c xs ((byt_below hb B1.out.1 (Nat.le_refl _)).more B1.out.1.size) hc hl
  rw [hR] at hrw
  have hRn : R.n ≤ xs.length := by
    rw [← hR]
    have := (rn_good 8 xs).1
    unfold rdN
    split
    · exact this
    · split
      · exact this
      · exact this
  have HC := Lib.hid hrw
  have hRI : (R.n : Int) ≤ 1099511627776 := by omega
  generalize xs.length = L at *
  clear hb hc hl hR hrw hT hRn
  go_enter Tryd.func11, Tryd.ntmps11
  go_wp2_with fail
  refine HC.out.mono ?_
  rintro e w2 ⟨v, rfl, hnf, hvi, hvc, hvo, b2⟩
  rw [Int.zero_add]
  have HV := Lib.hid (show v.nf = R.v ∧ v.In w2 ∧ v.Cl w2 ∧ v.Off (· < w1.heap.size) from ⟨hnf, hvi, hvc, hvo⟩)
  have B2 := Lib.hid (B1.out.1.trans (b2.mono B1.out.1.size))
  have HW2 := Lib.hid (HW1.out.below b2 HW1.out.lt)
  clear b2 HC hnf hvi hvc hvo hw1 hq
  go_upto_region 2 with (fail)
  obtain ⟨g, hg⟩ : ∃ g, w2.heap.size = g := ⟨_, rfl⟩
  rw [hg]
  have HN3 := Lib.hid (show Whole (w2.alloc (.cells #[.int .i64 v.k, .int .i64 v.t, .bool v.m, .slice v.B v.bs.length v.d, .slice v.A v.ls.length v.c] 27)) g #[.int .i64 v.k, .int .i64 v.t, .bool v.m, .slice v.B v.bs.length v.d, .slice v.A v.ls.length v.c] 27 by rw [← hg]; exact Whole.new _ _ _)
  have HW3 := Lib.hid (HW2.out.grew (grew_alloc (grew_refl w2 none) (.cells #[.int .i64 v.k, .int .i64 v.t, .bool v.m, .slice v.B v.bs.length v.d, .slice v.A v.ls.length v.c] 27)) (by simp))
  have HV3 := Lib.hid (And.intro (HV.out.2.1.grew (grew_alloc (grew_refl w2 none) (.cells #[.int .i64 v.k, .int .i64 v.t, .bool v.m, .slice v.B v.bs.length v.d, .slice v.A v.ls.length v.c] 27))) (HV.out.2.2.1.grew (grew_alloc (grew_refl w2 none) (.cells #[.int .i64 v.k, .int .i64 v.t, .bool v.m, .slice v.B v.bs.length v.d, .slice v.A v.ls.length v.c] 27))))
  have B3 := Lib.hid (B2.out.alloc B2.out.size (.cells #[.int .i64 v.k, .int .i64 v.t, .bool v.m, .slice v.B v.bs.length v.d, .slice v.A v.ls.length v.c] 27))
  generalize w2.alloc (.cells #[.int .i64 v.k, .int .i64 v.t, .bool v.m, .slice v.B v.bs.length v.d, .slice v.A v.ls.length v.c] 27) = w3 at *
  clear hg
  have zf := HW3.out.frozen
  have zc := fun i => HW3.out.cell i
  have y0 : w3.cell? ⟨g, 0, none⟩ = some (.int .i64 v.k) := HN3.out.cell 0
  have y1 : w3.cell? ⟨g, 1, none⟩ = some (.int .i64 v.t) := HN3.out.cell 1
  have y2 : w3.cell? ⟨g, 2, none⟩ = some (.bool v.m) := HN3.out.cell 2
  have y3 : w3.cell? ⟨g, 3, none⟩ = some (.slice v.B v.bs.length v.d) := HN3.out.cell 3
  have y4 : w3.cell? ⟨g, 4, none⟩ = some (.slice v.A v.ls.length v.c) := HN3.out.cell 4
  have HQP := Lib.hid (show w.heap.size ≤ q ∧ q < w1.heap.size ∧ w.heap.size ≤ w1.heap.size by have := HQ.out; have := B1.out.2; omega)
  go_wp2_with fail
  refine dr_leave HW3.out _ _ _ _ _ _ (.int .i64 (base + (R.n : Int))) (.int .i64 R.e) rfl rfl rfl rfl ?_
  exact ⟨v, rfl, HV.out.1, HV3.out.1.fr2 (fr_put5 _ _ _ _ _ _ _) (HV.out.2.2.2.mono (fun i e => by have := HQP.out; omega)), HV3.out.2.fr (fr_put5 _ _ _ _ _ _ _) (HV.out.2.2.2.mono (fun i e => by have := HQP.out; omega)), HV.out.2.2.2.mono (fun i e => by have := HQP.out; omega), below_put5 B3.out HQP.out.1 _ _ _ _ _⟩

/-- Read keeps what the laws' walks ask of it. -/
theorem readE : ReadE := fun w A c xs base hT hb hc hl h0 h1 => (derread_any w hT A c xs base hb hc (by omega) h0 h1).mono fun _ _ ⟨v, he, hn, hi, _, _, hB⟩ => ⟨v, he, hn, hi, hB⟩
end Go.Proofs.YtnjnghbonmdbdaaDoor


/- The document's examples of layer 11. -/
namespace Go.Proofs.YtnjnghbonmdbdaaDoor
open Go.RowKit Nd

/-- Read of bytes in new memory. -/
theorem derread_new (w : World) (hT : Tb w) (cs : Array Value) (xs : List UInt8) (hcs : cs.toList = cellsOf xs) (m : Nat) (hm : xs.length = m) (h100 : m ≤ 100) (E : Int) (n : Nat) (V : Nd) (hR : rdN xs = ⟨E, n, V⟩) :
    Calls Tryd.prog 11 #[.slice (some ⟨w.heap.size, 0, none⟩) m m, .int .i64 0] (w.alloc (.cells cs 5)) fun e w' =>
      ∃ v : Nd, e = .returned (.tuple #[.agg #[.int .i64 v.k, .int .i64 v.t, .bool v.m, .slice v.B v.bs.length v.d, .slice v.A v.ls.length v.c], .int .i64 (n : Int), .int .i64 E]) ∧ v.nf = V ∧ v.In w' ∧ Below w.heap.size w w' := by
  subst hm
  have hw := Whole.new w cs 5
  have hb : Byt (w.alloc (.cells cs 5)) (w.alloc (.cells cs 5)).heap.size (some ⟨w.heap.size, 0, none⟩) xs := by
    intro _
    refine ⟨w.heap.size, 0, rfl, by simp, fun i hi => ?_⟩
    rw [hw.cell, ← Array.getElem?_toList, hcs, Nat.zero_add, cellsOf_at _ _ hi]
  refine (derread_any _ (hT.alloc _) (some ⟨w.heap.size, 0, none⟩) xs.length xs 0 hb (Nat.le_refl _) (by omega) (by omega) (by omega)).mono ?_
  rintro e w' ⟨v, he, hn, hi, _, _, hB⟩
  rw [hR, Int.zero_add] at he
  rw [hR] at hn
  exact ⟨v, he, hn, hi, ((Below.refl _ w).alloc (Nat.le_refl _) _).trans (hB.mono (by simp))⟩

theorem ex_one : rdN [48, 3, 2, 1, 5] = ⟨0, 5, .mk 0 16 true none 0 [] none 0 [.mk 0 2 false none 0 [5] none 0 []]⟩ := by kernel_rfl
theorem ex_two : rdN [48, 3, 2, 1] = ⟨4, 4, .z⟩ := by kernel_rfl
theorem ex_three : rdN [48, 2, 5, 1] = ⟨4, 4, .z⟩ := by kernel_rfl
theorem ex_four : rdN [5, 1, 0] = ⟨13, 2, .z⟩ := by kernel_rfl
/-- The sequence of the integer 5. -/
theorem ex_five {v : Nd} (h : v.nf = .mk 0 16 true none 0 [] none 0 [.mk 0 2 false none 0 [5] none 0 []]) : v.m = true ∧ ∃ p : Nd, v.ls = [p] ∧ p.bs = [5] := by
  obtain ⟨k, t, m, B, d, bs, A, c, ls⟩ := v
  rw [nf] at h
  injection h with _ _ hm _ _ _ _ _ hl
  refine ⟨hm, ?_⟩
  have hlen : ls.length = 1 := by have := congrArg List.length hl; rwa [nfs_length] at this
  obtain ⟨p, rfl⟩ := List.length_eq_one_iff.1 hlen
  obtain ⟨k', t', m', B', d', bs', A', c', ls'⟩ := p
  rw [nfs, nfs, nf] at hl
  injection hl with hl _
  injection hl with _ _ _ _ _ hb
  exact ⟨_, rfl, hb⟩

set_option maxRecDepth 100000 in
set_option maxHeartbeats 2000000 in
theorem alive11_any (w : World) (hT : Tb w) : Calls Tryd.prog 10 #[] w fun e w' => e = .returned (.bool true) ∧ Below w.heap.size w w' := by
  have HT := Lib.hid hT
  clear hT
  go_enter Tryd.func10, Tryd.ntmps10
  have r1 := derread_new w HT.out #[.int .u8 48, .int .u8 3, .int .u8 2, .int .u8 1, .int .u8 5] [48, 3, 2, 1, 5] rfl 5 rfl (by omega) 0 5 (.mk 0 16 true none 0 [] none 0 [.mk 0 2 false none 0 [5] none 0 []]) ex_one
  have HR1 := Lib.hid r1
  clear r1
  go_wp2_with fail
  refine HR1.out.mono ?_
  rintro e x1 ⟨v1, rfl, hn1, hi1, b1⟩
  clear HR1
  have HV := Lib.hid (And.intro hn1 hi1)
  have BB1 := Lib.hid b1
  clear b1 hn1 hi1
  go_upto_region 2 with (fail)
  obtain ⟨q, hq⟩ : ∃ q, x1.heap.size = q := ⟨_, rfl⟩
  rw [hq]
  have HX := Lib.hid (show Whole (x1.alloc (.cells #[.int .i64 v1.k, .int .i64 v1.t, .bool v1.m, .slice v1.B v1.bs.length v1.d, .slice v1.A v1.ls.length v1.c] 27)) q #[.int .i64 v1.k, .int .i64 v1.t, .bool v1.m, .slice v1.B v1.bs.length v1.d, .slice v1.A v1.ls.length v1.c] 27 by rw [← hq]; exact Whole.new _ _ _)
  have HV := Lib.hid (show v1.nf = (.mk 0 16 true none 0 [] none 0 [.mk 0 2 false none 0 [5] none 0 []]) ∧ v1.In (x1.alloc (.cells #[.int .i64 v1.k, .int .i64 v1.t, .bool v1.m, .slice v1.B v1.bs.length v1.d, .slice v1.A v1.ls.length v1.c] 27)) from ⟨HV.out.1, HV.out.2.grew (grew_alloc (grew_refl x1 none) _)⟩)
  have B1 := Lib.hid (BB1.out.alloc BB1.out.size (.cells #[.int .i64 v1.k, .int .i64 v1.t, .bool v1.m, .slice v1.B v1.bs.length v1.d, .slice v1.A v1.ls.length v1.c] 27))
  clear BB1 hq
  generalize x1.alloc (.cells #[.int .i64 v1.k, .int .i64 v1.t, .bool v1.m, .slice v1.B v1.bs.length v1.d, .slice v1.A v1.ls.length v1.c] 27) = W1 at *
  have r2 := derread_new W1 (HT.out.self B1.out) #[.int .u8 48, .int .u8 3, .int .u8 2, .int .u8 1] [48, 3, 2, 1] rfl 4 rfl (by omega) 4 4 .z ex_two
  have HR2 := Lib.hid r2
  clear r2
  go_wp2_with fail
  refine HR2.out.mono ?_
  rintro e x2 ⟨v2, rfl, hn2, hi2, b2⟩
  clear HR2
  have HV := Lib.hid (show v1.nf = (.mk 0 16 true none 0 [] none 0 [.mk 0 2 false none 0 [5] none 0 []]) ∧ v1.In x2 from ⟨HV.out.1, HV.out.2.grew (grew_of_below b2)⟩)
  have HX := Lib.hid (HX.out.below b2 HX.out.lt)
  have BB2 := Lib.hid (B1.out.trans (b2.mono B1.out.size))
  clear b2 hn2 hi2
  go_upto_region 3 with (fail)
  have HX := Lib.hid (HX.out.grew (grew_alloc (grew_refl x2 none) (.cells #[.int .i64 v2.k, .int .i64 v2.t, .bool v2.m, .slice v2.B v2.bs.length v2.d, .slice v2.A v2.ls.length v2.c] 27)) (by simp))
  have HV := Lib.hid (show v1.nf = (.mk 0 16 true none 0 [] none 0 [.mk 0 2 false none 0 [5] none 0 []]) ∧ v1.In (x2.alloc (.cells #[.int .i64 v2.k, .int .i64 v2.t, .bool v2.m, .slice v2.B v2.bs.length v2.d, .slice v2.A v2.ls.length v2.c] 27)) from ⟨HV.out.1, HV.out.2.grew (grew_alloc (grew_refl x2 none) _)⟩)
  have B2 := Lib.hid (BB2.out.alloc BB2.out.size (.cells #[.int .i64 v2.k, .int .i64 v2.t, .bool v2.m, .slice v2.B v2.bs.length v2.d, .slice v2.A v2.ls.length v2.c] 27))
  clear BB2
  generalize x2.alloc (.cells #[.int .i64 v2.k, .int .i64 v2.t, .bool v2.m, .slice v2.B v2.bs.length v2.d, .slice v2.A v2.ls.length v2.c] 27) = W2 at *
  generalize x2.heap.size = y2 at *
  have r3 := derread_new W2 (HT.out.self B2.out) #[.int .u8 48, .int .u8 2, .int .u8 5, .int .u8 1] [48, 2, 5, 1] rfl 4 rfl (by omega) 4 4 .z ex_three
  have HR3 := Lib.hid r3
  clear r3
  go_wp2_with fail
  refine HR3.out.mono ?_
  rintro e x3 ⟨v3, rfl, hn3, hi3, b3⟩
  clear HR3
  have HV := Lib.hid (show v1.nf = (.mk 0 16 true none 0 [] none 0 [.mk 0 2 false none 0 [5] none 0 []]) ∧ v1.In x3 from ⟨HV.out.1, HV.out.2.grew (grew_of_below b3)⟩)
  have HX := Lib.hid (HX.out.below b3 HX.out.lt)
  have BB3 := Lib.hid (B2.out.trans (b3.mono B2.out.size))
  clear b3 hn3 hi3
  go_upto_region 4 with (fail)
  have HX := Lib.hid (HX.out.grew (grew_alloc (grew_refl x3 none) (.cells #[.int .i64 v3.k, .int .i64 v3.t, .bool v3.m, .slice v3.B v3.bs.length v3.d, .slice v3.A v3.ls.length v3.c] 27)) (by simp))
  have HV := Lib.hid (show v1.nf = (.mk 0 16 true none 0 [] none 0 [.mk 0 2 false none 0 [5] none 0 []]) ∧ v1.In (x3.alloc (.cells #[.int .i64 v3.k, .int .i64 v3.t, .bool v3.m, .slice v3.B v3.bs.length v3.d, .slice v3.A v3.ls.length v3.c] 27)) from ⟨HV.out.1, HV.out.2.grew (grew_alloc (grew_refl x3 none) _)⟩)
  have B3 := Lib.hid (BB3.out.alloc BB3.out.size (.cells #[.int .i64 v3.k, .int .i64 v3.t, .bool v3.m, .slice v3.B v3.bs.length v3.d, .slice v3.A v3.ls.length v3.c] 27))
  clear BB3
  generalize x3.alloc (.cells #[.int .i64 v3.k, .int .i64 v3.t, .bool v3.m, .slice v3.B v3.bs.length v3.d, .slice v3.A v3.ls.length v3.c] 27) = W3 at *
  generalize x3.heap.size = y3 at *
  have r4 := derread_new W3 (HT.out.self B3.out) #[.int .u8 5, .int .u8 1, .int .u8 0] [5, 1, 0] rfl 3 rfl (by omega) 13 2 .z ex_four
  have HR4 := Lib.hid r4
  clear r4
  go_wp2_with fail
  refine HR4.out.mono ?_
  rintro e x4 ⟨v4, rfl, hn4, hi4, b4⟩
  clear HR4
  have HV := Lib.hid (show v1.nf = (.mk 0 16 true none 0 [] none 0 [.mk 0 2 false none 0 [5] none 0 []]) ∧ v1.In x4 from ⟨HV.out.1, HV.out.2.grew (grew_of_below b4)⟩)
  have HX := Lib.hid (HX.out.below b4 HX.out.lt)
  have BB4 := Lib.hid (B3.out.trans (b4.mono B3.out.size))
  clear b4 hn4 hi4
  go_upto_region 5 with (fail)
  have HX := Lib.hid (HX.out.grew (grew_alloc (grew_refl x4 none) (.cells #[.int .i64 v4.k, .int .i64 v4.t, .bool v4.m, .slice v4.B v4.bs.length v4.d, .slice v4.A v4.ls.length v4.c] 27)) (by simp))
  have HV := Lib.hid (show v1.nf = (.mk 0 16 true none 0 [] none 0 [.mk 0 2 false none 0 [5] none 0 []]) ∧ v1.In (x4.alloc (.cells #[.int .i64 v4.k, .int .i64 v4.t, .bool v4.m, .slice v4.B v4.bs.length v4.d, .slice v4.A v4.ls.length v4.c] 27)) from ⟨HV.out.1, HV.out.2.grew (grew_alloc (grew_refl x4 none) _)⟩)
  have B4 := Lib.hid (BB4.out.alloc BB4.out.size (.cells #[.int .i64 v4.k, .int .i64 v4.t, .bool v4.m, .slice v4.B v4.bs.length v4.d, .slice v4.A v4.ls.length v4.c] 27))
  clear BB4
  generalize x4.alloc (.cells #[.int .i64 v4.k, .int .i64 v4.t, .bool v4.m, .slice v4.B v4.bs.length v4.d, .slice v4.A v4.ls.length v4.c] 27) = W4 at *
  generalize x4.heap.size = y4 at *
  obtain ⟨hm, p, hls, hbs⟩ := ex_five HV.out.1
  have hin := HV.out.2
  obtain ⟨b, o, p2, hA, hp2, hpm, k0, k1, k2, k3, k4⟩ := hin.list.1.at (i := 0) (by rw [hls]; simp)
  obtain rfl : p = p2 := by rw [hls] at hp2; simpa using hp2
  have hpi := hin.parts p (by rw [hls]; simp)
  have hcv := conv_txt (P := Tryd.prog) W4 Tryd.underlying22 Tryd.underlying5 Tryd.underlying9 hpi.bytes.1 (n := 1) (by rw [hbs]; rfl) p.d
  have t2 : W4.cell? ⟨q, 2, none⟩ = some (.bool true) := by rw [← hm]; exact HX.out.cell 2
  have t4 : W4.cell? ⟨q, 4, none⟩ = some (.slice (some ⟨b, o, none⟩) 1 v1.c) := by rw [HX.out.cell 4, hA, hls]; rfl
  rw [Nat.zero_mul, Nat.add_zero, hbs, show ([5] : List UInt8).length = 1 from rfl] at k3
  rw [hbs, show txt [5] = ⟨#[5]⟩ from rfl] at hcv
  have hse : ((⟨#[5]⟩ : ByteArray).toList == (⟨#[5]⟩ : ByteArray).toList) = true := BEq.rfl
  clear hm hls hbs hin hA hp2 hpm k0 k1 k2 k4 hpi HV HX
  go_wp2_with fail
  go_ret
  exact ⟨rfl, B4.out⟩
theorem aliveE : AliveE := alive11_any
end Go.Proofs.YtnjnghbonmdbdaaDoor


/- How arguments that came in are opened: bytes, numbers, acts. -/
namespace Go.Proofs.YtnjnghbonmdbdaaDoor
open Go.ChangeShapes Go.WideShapes Go.ChangeAt Go.RowKit Go.Deep

set_option maxRecDepth 100000 in
theorem own : ownKnob Tryd.prog.godebug = none := by kernel_rfl
set_option maxRecDepth 100000 in
theorem laidOut : laidOutB Tryd.prog = true := by kernel_rfl
set_option maxRecDepth 100000 in
theorem bytes_u8 : Tryd.prog.bytesOf 5 = 1 := by kernel_rfl
set_option maxRecDepth 100000 in
theorem bytes_int : Tryd.prog.bytesOf 3 = 8 := by kernel_rfl
set_option maxRecDepth 100000 in
theorem cells_u8 : Tryd.prog.cellsOf 5 = 1 := by kernel_rfl
set_option maxRecDepth 100000 in
theorem cells_int : Tryd.prog.cellsOf 3 = 1 := by kernel_rfl

set_option maxRecDepth 100000 in
theorem add_zero_of_cell {w : World} {a : Addr} {n : Nat} {v : Value} (h : w.cell? (a.add n) = some v) : n = 0 → a.spot = none := by
  intro e
  subst e
  have := World.cell?_spot h
  simpa [Addr.add] using this

set_option maxRecDepth 100000 in
theorem add_form (b o n : Nat) : (⟨b, o, none⟩ : Addr).add n = ⟨b, o + n, none⟩ := by
  unfold Addr.add
  split <;> simp_all

section
variable {H : Type} {enc : TypeId × Value → H} {W : World} {v : Value} {d : DataW H} {p : List MemPlace} {base : Nat} {ts : List TypeId} {ds : List (DataW H)}

set_option maxRecDepth 100000 in
/-- Bytes that came in. -/
theorem arg_bytes (hv : Value.okWide Tryd.prog W .any base 22 v) (h : DataW.Trod enc Tryd.prog W 0 (fun _ => true) true 22 v d p)
    (hsz : (DataW.weightsEach Tryd.prog ts ds).all (· ≤ reachBytes) = true) {j : Nat} (hj : ts[j]? = some 22) (hd : ds[j]? = some d) :
    ∃ (A : Option Addr) (c : Nat) (xs : List UInt8), v = .slice A xs.length c ∧ xs.length ≤ c ∧ c ≤ 140737488351232 ∧ Byt W W.heap.size A xs := by
  obtain ⟨A, n, c, rfl⟩ := okWide_slice Tryd.underlying22 hv
  obtain ⟨fuel, hf⟩ := h
  rcases open_ints Tryd.underlying22 Tryd.underlying5 cells_u8 hf with ⟨hcs, _⟩ | ⟨x, l, c', zs, hcs, _, hl, hm, hz, hx, hcell, hwz⟩
  · simp [Value.cells] at hcs
    obtain ⟨rfl, rfl, rfl⟩ := hcs
    exact ⟨none, 0, [], rfl, Nat.le_refl _, by omega, fun h => by simp at h⟩
  · simp [Value.cells] at hcs
    obtain ⟨rfl, rfl, rfl⟩ := hcs
    simp only [Prod.mk.injEq] at hx
    obtain ⟨rfl, rfl⟩ := hx
    simp only [if_true] at hz
    have hreach : c ≤ 140737488351232 := by
      have := sized_slice hsz hj hd Tryd.underlying22
      rw [bytes_u8] at this
      simp only [lits, List.length_map, List.length_take, List.length_drop, reachBytes] at this
      omega
    have hle : ((zs.take n).map fun z => UInt8.ofNat z.toNat).length = n := by
      rw [List.length_map, List.length_take]; omega
    refine ⟨some x, c, (zs.take n).map fun z => UInt8.ofNat z.toNat, by rw [hle], by rw [hle]; exact hl, hreach, ?_⟩
    intro hn
    rw [hle] at hn ⊢
    obtain ⟨b, o, s⟩ := x
    have hs : s = none := by
      have := add_zero_of_cell (hcell 0 (by omega)) rfl
      exact this
    subst hs
    refine ⟨b, o, rfl, ?_, fun i hi => ?_⟩
    · have := World.block_lt_of_cell? _ _ (hcell 0 (by omega))
      rwa [add_form] at this
    · have h1 := hcell i (by omega)
      rw [add_form] at h1
      rw [h1]
      have hi' : i < zs.length := by omega
      have hm : zs[i] ∈ zs := List.getElem_mem hi'
      have hw := hwz _ hm
      have hb := bounds_u8 hw
      simp only [List.getD, List.getElem?_map, List.getElem?_take_of_lt hi, List.getElem?_eq_getElem hi', Option.map_some, Option.getD_some]
      congr 2
      simp
      omega

/-- Numbers that came in. -/
def Nums (w : World) (A : Option Addr) (zs : List Int) : Prop :=
  0 < zs.length → ∃ b o, A = some ⟨b, o, none⟩ ∧ b < w.heap.size ∧ ∀ i, i < zs.length → w.cell? ⟨b, o + i, none⟩ = some (.int .i64 (zs.getD i 0))

end
end Go.Proofs.YtnjnghbonmdbdaaDoor


/- Layer 11: maps whose keys are where lists of things lie. -/
namespace Go.Proofs.YtnjnghbonmdbdaaDoor
open Go.RowKit Nd

/-- Nothing of this block is frozen, and it has a cell. -/
def Um (w : World) (a : Addr) : Prop := ∃ c t, w.heap[a.block]? = some (.cells c t (0, 0)) ∧ c.size ≠ 0
/-- A block of cells, frozen or not. -/
def Mk (w : World) (a : Addr) : Prop := ∃ c t f, w.heap[a.block]? = some (.cells c t f) ∧ c.size ≠ 0
theorem Um.lt {w : World} {a : Addr} (h : Um w a) : a.block < w.heap.size := by obtain ⟨c, t, h, _⟩ := h; exact (Array.getElem?_eq_some_iff.1 h).1
theorem Um.below {n : Nat} {w w' : World} {a : Addr} (h : Um w a) (b : Below n w w') (hn : a.block < n) : Um w' a := by
  obtain ⟨c, t, h, h2⟩ := h
  exact ⟨c, t, (b.block a.block hn).trans h, h2⟩
theorem Mk.lt {w : World} {a : Addr} (h : Mk w a) : a.block < w.heap.size := by obtain ⟨c, t, f, h, _⟩ := h; exact (Array.getElem?_eq_some_iff.1 h).1
theorem Mk.below {n : Nat} {w w' : World} {a : Addr} (h : Mk w a) (b : Below n w w') (hn : a.block < n) : Mk w' a := by
  obtain ⟨c, t, f, h, h2⟩ := h
  exact ⟨c, t, f, (b.block a.block hn).trans h, h2⟩
/-- Two places, of which one at most is in memory that bears a mark, are the same just if they are. -/
theorem run_same1 {w : World} {a b M : Addr} (hM : Mk w M) (ha : a = M ∨ Um w a) (hb : b = M ∨ Um w b) : (sameAddr a b).run Tryd.prog w = .ok (decide (a = b)) w := by
  by_cases h : a = b
  · subst h; simp [run_sameAddr_same]
  · have key : (sameAddr a b).run Tryd.prog w = .ok false w := by
      by_cases hbl : a.block = b.block
      · simp [sameAddr, hbl, h]
      · rcases ha with rfl | ⟨ca, ta, h1, h2⟩
        · rcases hb with rfl | ⟨cb, tb, h3, h4⟩
          · exact absurd rfl h
          · obtain ⟨ca, ta, fa, h1, h2⟩ := hM
            obtain ⟨m, hm⟩ : ∃ m, ca.size = m + 1 := ⟨ca.size - 1, by omega⟩
            simp [sameAddr, hbl, World.frozen?, h1, h3, noView, viewAt, World.shape?, mayBeOne, stringish, h4, hm]
        · rcases hb with rfl | ⟨cb, tb, h3, h4⟩
          · obtain ⟨cb, tb, fb, h3, h4⟩ := hM
            obtain ⟨m, hm⟩ : ∃ m, cb.size = m + 1 := ⟨cb.size - 1, by omega⟩
            simp [sameAddr, hbl, World.frozen?, h1, h3, noView, viewAt, World.shape?, mayBeOne, stringish, h2, hm]
          · simp [sameAddr, hbl, World.frozen?, h1, h3, noView, viewAt, World.shape?, mayBeOne, stringish]
    rw [key, decide_eq_false h]

/-- Where a list lies, as a key. -/
def nkey (o : Option Addr) (n : Nat) : Value := .agg #[.pointer o, .int .i64 (n : Int)]
/-- A list's place may be asked. -/
def Kx (w : World) (M : Addr) (o : Option Addr) : Prop := ∀ a, o = some a → a = M ∨ Um w a
theorem Kx.none (w : World) (M : Addr) : Kx w M none := fun a e => by cases e
theorem Kx.below {w w' : World} {M : Addr} {o : Option Addr} (h : Kx w M o) (b : Below w.heap.size w w') : Kx w' M o := fun a e => by
  rcases h a e with h | h
  · exact .inl h
  · exact .inr (h.below b h.lt)

set_option maxRecDepth 100000 in
set_option maxHeartbeats 1000000 in
theorem eq_nkey (w : World) {M : Addr} (hM : Mk w M) {o p : Option Addr} (n m : Nat) (ho : Kx w M o) (hp : Kx w M p) :
    (Op.equal 60 (nkey o n) (nkey p m)).run Tryd.prog w = .ok (decide (o = p) && decide (n = m)) w := by
  obtain ⟨j, hj, hz⟩ := Option.map_eq_some_iff.1 info_node
  simp only [Prod.mk.injEq] at hz
  have hsz : j.size ≠ 0 := by rw [hz.2.1]; decide
  have hst : Tryd.prog.stoodInHeld 60 = false := by kernel_rfl
  have h1 : ∀ d : Nat, (Op.equalIn (d + 1) 58 (.pointer o) (.pointer p)).run Tryd.prog w = .ok (decide (o = p)) w := by
    intro d
    cases o with
    | none =>
      cases p with
      | none => simp [Op.equalIn, run_underlying Tryd.underlying58, sizeOf, typeInfo]
      | some b => simp [Op.equalIn, run_underlying Tryd.underlying58, sizeOf, typeInfo]
    | some a =>
      cases p with
      | none => simp [Op.equalIn, run_underlying Tryd.underlying58, sizeOf, typeInfo]
      | some b =>
        have := run_same1 hM (ho a rfl) (hp b rfl)
        simp [Op.equalIn, run_underlying Tryd.underlying58, sizeOf, typeInfo, hj, hsz, this]
  have h2 : ∀ d : Nat, (Op.equalIn (d + 1) 3 (.int .i64 (n : Int)) (.int .i64 (m : Int))).run Tryd.prog w = .ok (decide (n = m)) w := by
    intro d
    by_cases h : n = m
    · subst h
      simp [Op.equalIn, run_underlying Tryd.underlying3]
    · have h' : ¬ (n : Int) = (m : Int) := by omega
      simp [Op.equalIn, run_underlying Tryd.underlying3, h, h']
  have key : ∀ d : Nat, (Op.equalIn (d + 2) 60 (nkey o n) (nkey p m)).run Tryd.prog w = .ok (decide (o = p) && decide (n = m)) w := by
    intro d
    unfold Op.equalIn nkey
    by_cases h : o = p
    · have h1' := h1 d
      rw [decide_eq_true h] at h1' ⊢
      by_cases h3 : n = m
      · rw [decide_eq_true h3]
        simp [run_underlying Tryd.underlying60, hst, part, go_sem, h1']
        omega
      · rw [decide_eq_false h3]
        simp [run_underlying Tryd.underlying60, hst, part, go_sem, h1']
        omega
    · have h1' := h1 d
      rw [decide_eq_false h] at h1' ⊢
      simp [run_underlying Tryd.underlying60, hst, part, go_sem, h1']
  exact key 9998

theorem nkey_inj {o p : Option Addr} {n m : Nat} : nkey o n = nkey p m ↔ o = p ∧ n = m := by
  simp only [nkey, Value.agg.injEq]
  constructor
  · intro h
    simp at h
    exact ⟨h.1, by omega⟩
  · rintro ⟨rfl, rfl⟩; rfl
open Classical in
/-- What entries of such a map tell: the first with that key. -/
noncomputable def nfind (o : Option Addr) (n : Nat) : List MapEntry → Nat → Option (Nat × Value)
  | [], _ => none
  | e :: es, i => if e.key = nkey o n then some (i, e.val) else nfind o n es (i + 1)
/-- Each key is where a list lies. -/
def NKeys (w : World) (M : Addr) (es : List MapEntry) : Prop := ∀ e ∈ es, ∃ o n, e.key = nkey o n ∧ Kx w M o
theorem run_nfind (w : World) {M : Addr} (hM : Mk w M) {o : Option Addr} (n : Nat) (ho : Kx w M o) : ∀ (es : List MapEntry) (i : Nat), NKeys w M es →
    (Instr.findAsking 60 (nkey o n) es i).run Tryd.prog w = .ok (nfind o n es i) w := by
  intro es
  induction es with
  | nil => intro i _; rfl
  | cons e es ih =>
    intro i h
    obtain ⟨p, m, hk, hp⟩ := h e (by simp)
    have he := eq_nkey w hM n m ho hp
    unfold Instr.findAsking nfind
    rw [hk]
    simp only [Sem.run_bind, he, Result.andThen_ok, nkey_inj]
    by_cases hc : o = p ∧ n = m
    · obtain ⟨rfl, rfl⟩ := hc
      simp
    · have hf : (decide (o = p) && decide (n = m)) = false := by
        simp only [Bool.and_eq_false_iff, decide_eq_false_iff_not]
        by_cases h1 : o = p
        · exact .inr (fun h2 => hc ⟨h1, h2⟩)
        · exact .inl h1
      rw [hf]
      simp only [Bool.false_eq_true, if_false]
      rw [if_neg (fun hc' => hc ⟨hc'.1.symm, hc'.2.symm⟩)]
      exact ih (i + 1) (fun e' he' => h e' (by simp [he']))
theorem run_nkey (w : World) {M : Addr} (hM : Mk w M) {o : Option Addr} (n : Nat) (ho : Kx w M o) (es : List MapEntry) (h : NKeys w M es) :
    (Instr.findKey 60 (nkey o n) es).run Tryd.prog w = .ok (nfind o n es 0) w := by
  unfold Instr.findKey
  rw [Sem.run_bind, run_underlying Tryd.underlying60]
  cases es with
  | nil => rfl
  | cons e es =>
    simp only [Result.andThen_ok, Instr.findNow, Instr.sameNow]
    exact run_nfind w hM n ho _ 0 h
theorem run_ncheck (w : World) (o : Option Addr) (n : Nat) (b : Bool) : (Instr.checkKey b 10000 60 (nkey o n)).run Tryd.prog w = .ok () w := by
  have key : ∀ d : Nat, (Instr.checkKey b (d + 2) 60 (nkey o n)).run Tryd.prog w = .ok () w := by
    intro d
    simp [Instr.checkKey, nkey, run_underlying Tryd.underlying60, run_underlying Tryd.underlying58, run_underlying Tryd.underlying3, part, sizeOf, typeInfo, go_sem]
  exact key 9998

/-- What such a map tells, by keys. -/
noncomputable def nval (es : List MapEntry) (o : Option Addr) (n : Nat) : Option Value := (nfind o n es 0).map (·.2)
theorem nfind_shift (o : Option Addr) (n : Nat) : ∀ (es : List MapEntry) (i : Nat), nfind o n es i = (nfind o n es 0).map (fun r => (r.1 + i, r.2)) := by
  intro es
  induction es with
  | nil => intro i; rfl
  | cons e es ih =>
    intro i
    unfold nfind
    split
    · simp
    · rw [ih (i + 1), ih (0 + 1)]
      cases nfind o n es 0 <;> simp
      omega
theorem nval_cons (e : MapEntry) (es : List MapEntry) (o : Option Addr) (n : Nat) : e.key = nkey o n → nval (e :: es) o n = some e.val := by
  intro h
  unfold nval nfind
  rw [if_pos h]; rfl
theorem nval_cons_ne (e : MapEntry) (es : List MapEntry) (o : Option Addr) (n : Nat) : e.key ≠ nkey o n → nval (e :: es) o n = nval es o n := by
  intro h
  unfold nval
  rw [nfind, if_neg h, nfind_shift]
  cases nfind o n es 0 <;> rfl
/-- A map with one more answer. -/
def nset (f : Option Addr → Nat → Option Value) (o : Option Addr) (n : Nat) (v : Value) : Option Addr → Nat → Option Value := fun p m => if p = o ∧ m = n then some v else f p m
theorem nval_push (es : List MapEntry) (o : Option Addr) (n : Nat) (v : Value) (k : Nat) (h : nval es o n = none) : nval (es ++ [{ key := nkey o n, val := v, born := k }]) = nset (nval es) o n v := by
  funext p m
  unfold nset
  induction es with
  | nil =>
    by_cases hc : p = o ∧ m = n
    · obtain ⟨rfl, rfl⟩ := hc
      rw [if_pos ⟨rfl, rfl⟩]
      exact nval_cons _ _ _ _ rfl
    · rw [if_neg hc, List.nil_append, nval_cons_ne _ _ _ _ (fun e => hc (by have := nkey_inj.1 e; exact ⟨this.1.symm, this.2.symm⟩))]
  | cons e es ih =>
    have hne : e.key ≠ nkey o n := fun e' => by rw [nval_cons _ _ _ _ e'] at h; cases h
    rw [nval_cons_ne _ _ _ _ hne] at h
    by_cases hc : e.key = nkey p m
    · rw [List.cons_append, nval_cons _ _ _ _ hc, if_neg (fun h' => hne (by rw [hc, h'.1, h'.2])), nval_cons _ _ _ _ hc]
    · rw [List.cons_append, nval_cons_ne _ _ _ _ hc, ih h, nval_cons_ne _ _ _ _ hc]
theorem nval_modify (o : Option Addr) (n : Nat) (v : Value) : ∀ (es : List MapEntry) (i : Nat) (u : Value), nfind o n es 0 = some (i, u) → nval (es.modify i fun e => { e with key := nkey o n, val := v }) = nset (nval es) o n v := by
  intro es
  induction es with
  | nil => intro i u h; cases h
  | cons e es ih =>
    intro i u h
    funext p m
    unfold nset
    unfold nfind at h
    split at h
    · rename_i hk
      cases h
      rw [List.modify_zero_cons]
      by_cases hc : p = o ∧ m = n
      · obtain ⟨rfl, rfl⟩ := hc
        rw [if_pos ⟨rfl, rfl⟩]
        exact nval_cons _ _ _ _ rfl
      · have hne : nkey o n ≠ nkey p m := fun e => hc (by have := nkey_inj.1 e; exact ⟨this.1.symm, this.2.symm⟩)
        rw [if_neg hc, nval_cons_ne _ _ _ _ hne, nval_cons_ne _ _ _ _ (by rw [hk]; exact hne)]
    · rename_i hk
      rw [nfind_shift] at h
      obtain ⟨⟨i', u'⟩, h1, h2⟩ := Option.map_eq_some_iff.1 h
      simp only [Prod.mk.injEq] at h2
      obtain ⟨rfl, rfl⟩ := h2
      have hi := ih i' u' h1
      rw [show i' + (0 + 1) = i' + 1 by omega, List.modify_succ_cons]
      by_cases hc : e.key = nkey p m
      · rw [nval_cons _ _ _ _ hc, if_neg (fun h' => hk (by rw [hc, h'.1, h'.2])), nval_cons _ _ _ _ hc]
      · rw [nval_cons_ne _ _ _ _ hc, nval_cons_ne _ _ _ _ hc, hi]
        rfl

/-- A map that tells f; its keys are places of lists in w0. -/
def MapN (w0 w : World) (M : Addr) (q : Nat) (f : Option Addr → Nat → Option Value) : Prop :=
  ∃ es k, w.heap[q]? = some (.map es k) ∧ NKeys w0 M es.toList ∧ nval es.toList = f
theorem MapN.lt {w0 w : World} {M : Addr} {q : Nat} {f : Option Addr → Nat → Option Value} (h : MapN w0 w M q f) : q < w.heap.size := by
  obtain ⟨es, k, h, _⟩ := h; exact (Array.getElem?_eq_some_iff.1 h).1
theorem MapN.fr {w0 w w' : World} {M : Addr} {q : Nat} {f : Option Addr → Nat → Option Value} {F : Nat → Prop} (h : MapN w0 w M q f) (g : Fr w w' F) (hF : ¬ F q) : MapN w0 w' M q f := by
  have := h.lt
  obtain ⟨es, k, h1, h2⟩ := h
  exact ⟨es, k, by rw [g.block q this hF]; exact h1, h2⟩
theorem MapN.grew {w0 w w' : World} {M : Addr} {q : Nat} {f : Option Addr → Nat → Option Value} (h : MapN w0 w M q f) (g : Grew w w' none) : MapN w0 w' M q f := h.fr (Fr.of_grew g) (fun e => by cases e)
theorem NKeys.below {w w' : World} {M : Addr} {es : List MapEntry} (h : NKeys w M es) (b : Below w.heap.size w w') : NKeys w' M es := fun e he => by
  obtain ⟨o, n, h1, h2⟩ := h e he
  exact ⟨o, n, h1, h2.below b⟩
theorem MapN.new (w0 w : World) (M : Addr) (k : Nat) : MapN w0 (w.alloc (.map #[] k)) M w.heap.size (fun _ _ => none) := ⟨#[], k, by show (w.heap.push (.map #[] k))[w.heap.size]? = _; simp, fun e he => by simp at he, by funext o n; rfl⟩

/-- What a look-up answers. -/
def ngot : Option Value → Value
  | some v => .tuple #[v, .bool true]
  | none => .tuple #[.int .i64 0, .bool false]
set_option maxRecDepth 100000 in
theorem run_nlookup {w0 w : World} {M : Addr} {q : Nat} {f : Option Addr → Nat → Option Value} (hm : MapN w0 w M q f) (b : Below w0.heap.size w0 w) (hM : Mk w0 M) {o : Option Addr} (n : Nat) (ho : Kx w0 M o) :
    (Instr.lookup 56 (.map (some q)) (.agg #[.pointer o, .int .i64 (n : Int)]) true).run Tryd.prog w = .ok (ngot (f o n)) w := by
  have hz : (zeroValue 3).run Tryd.prog w = .ok (.int .i64 0) w := by kernel_rfl
  obtain ⟨es, k, hq, hk, rfl⟩ := hm
  change (Instr.lookup 56 (.map (some q)) (nkey o n) true).run Tryd.prog w = _
  unfold Instr.lookup
  simp only [Sem.run_bind, run_underlying Tryd.underlying56, Result.andThen_ok, getObj, Sem.run, hq, Sem.run_pure, run_ncheck, run_nkey w (hM.below b hM.lt) n (ho.below b) es.toList (hk.below b)]
  unfold nval
  cases nfind o n es.toList 0 with
  | none => simp [hz, ngot]
  | some r => simp [ngot]
set_option maxRecDepth 100000 in
theorem run_nupdate {w0 w : World} {M : Addr} {q : Nat} {f : Option Addr → Nat → Option Value} (hm : MapN w0 w M q f) (b : Below w0.heap.size w0 w) (hM : Mk w0 M) {o : Option Addr} (n : Nat) (ho : Kx w0 M o) (v : Value) :
    ∃ w', (Instr.mapUpdate 56 (.map (some q)) (.agg #[.pointer o, .int .i64 (n : Int)]) v).run Tryd.prog w = .ok () w' ∧ MapN w0 w' M q (nset f o n v) ∧ Fr w w' (fun i => i = q) := by
  obtain ⟨es, k, hq, hk, rfl⟩ := hm
  have hlt : q < w.heap.size := (Array.getElem?_eq_some_iff.1 hq).1
  change ∃ w', (Instr.mapUpdate 56 (.map (some q)) (nkey o n) v).run Tryd.prog w = .ok () w' ∧ _
  have fr : ∀ x, Fr w { w with heap := w.heap.setIfInBounds q x } (fun i => i = q) := fun x => ⟨rfl, rfl, rfl, by simp, fun i hi hn => by simp [Ne.symm hn]⟩
  cases hf : nfind o n es.toList 0 with
  | none =>
    unfold Instr.mapUpdate
    simp only [Sem.run_bind, run_underlying Tryd.underlying56, Result.andThen_ok, getObj, Sem.run, hq, run_ncheck, run_nkey w (hM.below b hM.lt) n (ho.below b) es.toList (hk.below b), hf, setObj]
    refine ⟨_, rfl, ⟨es.push { key := nkey o n, val := v, born := k }, k + 1, by simp [hlt], ?_, ?_⟩, fr _⟩
    · intro e he
      rw [Array.toList_push] at he
      rcases List.mem_append.1 he with he | he
      · exact hk e he
      · rw [List.mem_singleton.1 he]; exact ⟨o, n, rfl, ho⟩
    · rw [Array.toList_push]
      exact nval_push _ _ _ _ _ (by unfold nval; rw [hf]; rfl)
  | some r =>
    obtain ⟨i, u⟩ := r
    have hkey : ∀ (es : List MapEntry) (i : Nat) (u : Value), nfind o n es 0 = some (i, u) → ∃ e, es[i]? = some e ∧ e.key = nkey o n := by
      intro es
      induction es with
      | nil => intro i u h; cases h
      | cons e es ih =>
        intro i u h
        unfold nfind at h
        split at h
        · rename_i hk; cases h; exact ⟨e, rfl, hk⟩
        · rw [nfind_shift] at h
          obtain ⟨⟨i', u'⟩, h1, h2⟩ := Option.map_eq_some_iff.1 h
          simp only [Prod.mk.injEq] at h2
          obtain ⟨rfl, rfl⟩ := h2
          obtain ⟨e', h3, h4⟩ := ih i' u' h1
          exact ⟨e', by rw [show i' + (0 + 1) = i' + 1 by omega, List.getElem?_cons_succ]; exact h3, h4⟩
    obtain ⟨e, he, hke⟩ := hkey _ _ _ hf
    have hst : (Instr.keyThatStays (nkey o n) (nkey o n)).run Tryd.prog w = .ok (nkey o n) w := by
      have hsb : Instr.sameBits 10000 (nkey o n) (nkey o n) = true := by
        have : ∀ d, Instr.sameBits (d + 2) (nkey o n) (nkey o n) = true := fun d => by simp [Instr.sameBits, nkey]
        exact this 9998
      unfold Instr.keyThatStays
      rw [if_pos hsb]
      rfl
    have hge : (((es[i]?).map (·.key)).getD (nkey o n)) = nkey o n := by
      rw [← Array.getElem?_toList, he]; exact hke
    unfold Instr.mapUpdate
    simp only [Sem.run_bind, run_underlying Tryd.underlying56, Result.andThen_ok, getObj, Sem.run, hq, run_ncheck, run_nkey w (hM.below b hM.lt) n (ho.below b) es.toList (hk.below b), hf, setObj, hge, hst]
    refine ⟨_, rfl, ⟨es.modify i fun e => { e with key := nkey o n, val := v }, k, by simp [hlt], ?_, ?_⟩, fr _⟩
    · intro e' he'
      rw [Array.toList_modify] at he'
      obtain ⟨j, hj⟩ := List.getElem?_of_mem he'
      rw [List.getElem?_modify] at hj
      cases hx : es.toList[j]? with
      | none => rw [hx] at hj; cases hj
      | some e0 =>
        rw [hx] at hj
        simp only [Option.map_eq_map, Option.map_some, Option.some.injEq] at hj
        split at hj
        · subst hj; exact ⟨o, n, rfl, ho⟩
        · subst hj; exact hk _ (List.mem_of_getElem? hx)
    · rw [Array.toList_modify]
      exact nval_modify o n v _ _ _ hf
end Go.Proofs.YtnjnghbonmdbdaaDoor


/- Layer 11: where a list lies (memoryOf); levels: lists on the way down. -/
namespace Go.Proofs.YtnjnghbonmdbdaaDoor
open Go.RowKit Nd

/-- Where a thing's list lies, as it is asked. -/
def kq (A : Option Addr) (n : Nat) : Option Addr := if n = 0 then none else A
theorem kq_pos {A : Option Addr} {n : Nat} (h : n ≠ 0) : kq A n = A := if_neg h
def Nd.key (f : Nd) : Option Addr := kq f.A f.ls.length

theorem mo_leave {W : World} {q : Nat} {v0 v1 : Value} (h : Whole W q #[v0, v1] 60) (a : Act) (h2 : a.tmps.getD 2 undef = .pointer (some ⟨q, 0, none⟩)) (hd : a.defers = []) {E : Ending → World → Prop}
    (hE : E (.returned (.agg #[v0, v1])) W) : bodyPost Tryd.prog Tryd.f27 E Exit.ret a W :=
  bodyPost_ret (results_cell_row rfl _ _ q _ _ _ _ h2 h Tryd.underlying60 rfl (by kernel_rfl)) hd hE

set_option maxRecDepth 100000 in
set_option maxHeartbeats 400000 in
theorem memof_any (w : World) (A : Option Addr) (n c : Nat) (hn : 0 < n → ∃ b o, A = some ⟨b, o, none⟩) (hm : n ≤ 1954687338268) :
    Calls Tryd.prog 27 #[.slice A n c] w fun e w' => e = .returned (.agg #[.pointer (kq A n), .int .i64 (n : Int)]) ∧ Grew w w' none := by
  obtain ⟨q, hq⟩ : ∃ q, w.heap.size = q := ⟨_, rfl⟩
  rcases Nat.eq_zero_or_pos n with rfl | h0
  · have HW := Whole.new w #[.pointer none, .int .i64 0] 60
    rw [hq] at HW
    rw [show kq A 0 = none from rfl]
    go_enter Tryd.func27, Tryd.ntmps27
    go_wp2_with fail
    refine mo_leave HW _ rfl rfl ?_
    exact ⟨rfl, grew_alloc (grew_refl _ none) _⟩
  · obtain ⟨b, o, rfl⟩ := hn h0
    have HW := Lib.hid (Whole.new w #[.pointer none, .int .i64 0] 60)
    have h0' : ((n : Int) == 0) = false := beq_eq_false_iff_ne.2 (by omega)
    have h1' : (0 : Int) < (n : Int) := by omega
    have zf := HW.out.frozen
    have zc := fun i => HW.out.cell i
    have HG := Lib.hid (grew_alloc (grew_refl w none) (.cells #[.pointer none, .int .i64 0] 60))
    have HNE := Lib.hid (show n ≠ 0 by omega)
    rw [hq] at HW zf zc
    have HQ := Lib.hid hq
    rw [kq_pos HNE.out]
    clear hn h0
    go_enter Tryd.func27, Tryd.ntmps27
    go_upto_region 1 with (fail)
    clear hq
    generalize w.alloc (.cells #[.pointer none, .int .i64 0] 60) = w1 at *
    go_wp2_with fail
    refine mo_leave (W := (w1.setCell ⟨q, 0, none⟩ (.pointer (some ⟨b, o, none⟩))).setCell ⟨q, 1, none⟩ (.int .i64 (n : Int))) ((HW.out.set 0 _).set 1 _) _ rfl rfl ?_
    refine ⟨rfl, ?_⟩
    exact grew_fr HG.out (F := fun i => i = q) (((Fr.refl w1 (fun i => i = q)).set (.inl rfl) 0 none _).set (.inl rfl) 1 none _) (fun i e => by have := HQ.out; omega)

/-- A list on the way down: whose it is, which thing comes next. -/
structure Lv where
  v : Nd
  i : Nat
def Lv.cells (x : Lv) : Array Value := #[.slice x.v.A x.v.ls.length x.v.c, .int .i64 (x.i : Int), .int .i64 (deps (x.v.ls.take x.i) : Int)]
def lvs (xs : List Lv) : List Value := xs.flatMap (fun x => x.cells.toList)
theorem lvs_length (xs : List Lv) : (lvs xs).length = xs.length * 3 := by
  induction xs with
  | nil => rfl
  | cons x xs ih =>
    have : lvs (x :: xs) = x.cells.toList ++ lvs xs := rfl
    rw [this, List.length_append, ih]; simp [Lv.cells]; omega
theorem lvs_append (xs ys : List Lv) : lvs (xs ++ ys) = lvs xs ++ lvs ys := by simp [lvs]
theorem lvs_one (xs : List Lv) : ∀ v ∈ lvs xs, v.oneCell' = true := by
  intro v hv
  obtain ⟨x, _, hp⟩ := List.mem_flatMap.1 hv
  simp [Lv.cells] at hp
  rcases hp with rfl | rfl | rfl <;> rfl
/-- The last of a row of levels. -/
theorem lvs_last (xs : List Lv) (x : Lv) (j : Nat) (v : Value) (hv : x.cells[j]? = some v) : (lvs (xs ++ [x]))[xs.length * 3 + j]? = some v := by
  rw [lvs_append, List.getElem?_append_right (by rw [lvs_length]; omega), lvs_length]
  rw [show xs.length * 3 + j - xs.length * 3 = j by omega]
  have : lvs [x] = x.cells.toList := by simp [lvs]
  rw [this]
  simpa using hv

/-- A row of levels in a block of its own: its place, its levels. -/
def Row3 (w : World) (b cap : Nat) (xs : List Lv) : Prop := w.ownsRow 0 54 3 (.slice (some ⟨b, 0, none⟩) xs.length cap) xs.length (lvs xs)
theorem Row3.cell {w : World} {b cap : Nat} {xs : List Lv} {x : Lv} (h : Row3 w b cap (xs ++ [x])) (j : Nat) {v : Value} (hv : x.cells[j]? = some v) : w.cell? ⟨b, xs.length * 3 + j, none⟩ = some v := by
  rcases h.2 with ⟨h1, _⟩ | ⟨b', cap', cur, h1, _, hh, _, _, hsz, ht⟩
  · cases h1
  · injection h1 with h1 _ _
    injection h1 with h1
    injection h1 with h1 _ _
    subst h1
    have hj : j < 3 := by
      rcases Nat.lt_or_ge j 3 with h | h
      · exact h
      · rw [Array.getElem?_eq_none (by simpa [Lv.cells] using h)] at hv; cases hv
    have hf := lvs_last xs x j v hv
    rw [← ht, List.getElem?_take_of_lt (by simp; omega)] at hf
    have hW : Whole w b cur 54 := hh
    rw [hW.cell, ← Array.getElem?_toList]
    exact hf
theorem Row3.frozen {w : World} {b cap : Nat} {xs : List Lv} (h : Row3 w b cap xs) (i : Nat) : w.frozen? ⟨b, i, none⟩ = false := by
  rcases h.2 with ⟨h1, _⟩ | ⟨b', cap', cur, h1, _, hh, _, _, hsz, ht⟩
  · cases h1
  · injection h1 with h1 _ _
    injection h1 with h1
    injection h1 with h1 _ _
    subst h1
    have hW : Whole w b cur 54 := hh
    exact hW.frozen i
theorem Row3.fr {w w' : World} {b cap : Nat} {xs : List Lv} {F : Nat → Prop} (h : Row3 w b cap xs) (g : Fr w w' F) (hF : ¬ F b) : Row3 w' b cap xs := own_fr h g (fun k hk e => by simp [Value.ownBlock] at hk; subst hk; exact hF e)
theorem Row3.lt {w : World} {b cap : Nat} {xs : List Lv} (h : Row3 w b cap xs) : b < w.heap.size := own_lt h b (by simp [Value.ownBlock])
theorem Row3.le {w : World} {b cap : Nat} {xs : List Lv} (h : Row3 w b cap xs) : xs.length ≤ cap := by
  rcases h.2 with ⟨h1, _⟩ | ⟨b', cap', cur, h1, _, hh, hnc, _⟩
  · cases h1
  · injection h1 with _ _ h1; omega
/-- One level fewer. -/
theorem Row3.pop {w : World} {b cap : Nat} {xs : List Lv} {x : Lv} (h : Row3 w b cap (xs ++ [x])) : Row3 w b cap xs := by
  rcases h.2 with ⟨h1, _⟩ | ⟨b', cap', cur, h1, h2, hh, hnc, h3, hsz, ht⟩
  · cases h1
  · injection h1 with h1 _ h5
    injection h1 with h1
    injection h1 with h1 _ _
    subst h1 h5
    refine ⟨lvs_length xs, .inr ⟨b, cap, cur, rfl, Nat.zero_le _, hh, by simp at hnc; omega, h3, hsz, ?_⟩⟩
    have : cur.toList.take (xs.length * 3) = (cur.toList.take ((xs ++ [x]).length * 3)).take (xs.length * 3) := by
      rw [List.take_take, Nat.min_eq_left (by rw [List.length_append]; omega)]
    rw [this, ht, lvs_append]
    rw [← lvs_length xs, List.take_left' rfl]
/-- The last level's number stored. -/
theorem Row3.set {w : World} {b cap : Nat} {xs : List Lv} {x y : Lv} (h : Row3 w b cap (xs ++ [x])) (j : Nat) (v : Value) (hj : j < 3) (hy : y.cells = x.cells.setIfInBounds j v) : Row3 (w.setCell ⟨b, xs.length * 3 + j, none⟩ v) b cap (xs ++ [y]) := by
  rcases h.2 with ⟨h1, _⟩ | ⟨b', cap', cur, h1, h2, hh, hnc, h3, hsz, ht⟩
  · cases h1
  · injection h1 with h1 _ h5
    injection h1 with h1
    injection h1 with h1 _ _
    subst h1 h5
    have hW : Whole w b cur 54 := hh
    refine ⟨by rw [lvs_length], .inr ⟨b, cap, cur.setIfInBounds (xs.length * 3 + j) v, by simp, Nat.zero_le _, hW.set _ _, by simpa using hnc, h3, by simpa using hsz, ?_⟩⟩
    rw [Array.toList_setIfInBounds, List.take_set, show (xs ++ [y]).length = (xs ++ [x]).length by simp, ht, lvs_append, lvs_append, List.set_append, if_neg (by rw [lvs_length]; omega), lvs_length]
    congr 1
    rw [show xs.length * 3 + j - xs.length * 3 = j by omega]
    simp [lvs, hy]

set_option maxRecDepth 100000 in
theorem info_level : (Tryd.prog.info? 54).map (fun i => (i.zero, i.size, i.bytes)) = some (some (.agg #[.slice none 0 0, .int .i64 0, .int .i64 0]), 3, 40) := by kernel_rfl
set_option maxRecDepth 100000 in
/-- 'append(down, level{..})'. -/
theorem append_level (w : World) {b cap : Nat} {xs : List Lv} (h : Row3 w b cap xs) (y : Lv) {p : Nat} {t : TypeId} (hp : Whole w p y.cells t) (c : Nat) (hm : xs.length + 1 ≤ 100000000) :
    ∀ ty, ∃ v' w', (Builtin.append_ #[55, 55] ty #[.slice (some ⟨b, 0, none⟩) xs.length cap, .slice (some ⟨p, 0, none⟩) 1 c]).run Tryd.prog w = .ok v' w' ∧
      ∃ b' cap', v' = .slice (some ⟨b', 0, none⟩) (xs ++ [y]).length cap' ∧ Row3 w' b' cap' (xs ++ [y]) ∧ Grew w w' (some b) ∧ (b' = b ∨ b' = w.heap.size) := fun ty => by
  obtain ⟨i, hi, hz⟩ := Option.map_eq_some_iff.1 info_level
  simp only [Prod.mk.injEq] at hz
  obtain ⟨hz0, hz1, hz2⟩ := hz
  have hn : ∀ j u, (y.cells.toList)[j]? = some u → w.cell? ((⟨p, 0, none⟩ : Addr).add j) = some u := by
    intro j u hu
    rw [addr_add, hp.cell, Nat.zero_add, ← Array.getElem?_toList]
    exact hu
  obtain ⟨v', w', hr, h2, h3, _, h5⟩ := run_append_own_at (P := Tryd.prog) w 0 55 ty 54 i _ 3 40 Tryd.underlying55 hi hz0 hz1 hz2 rfl (by omega) _ xs.length (lvs xs) h ⟨p, 0, none⟩ 1 c y.cells.toList (by simp [Lv.cells]) hn
    (fun v hv => lvs_one [y] v (by simpa [lvs] using hv)) (by unfold maxLen; omega) (by omega) (Nat.zero_le _)
  refine ⟨v', w', hr, ?_⟩
  have e2 : lvs xs ++ y.cells.toList = lvs (xs ++ [y]) := by rw [lvs_append]; simp [lvs]
  rw [e2] at h2
  rcases h2.2 with ⟨h1, h0⟩ | ⟨b', cap', cur, rfl, _⟩
  · omega
  · refine ⟨b', cap', by simp, ?_, by simpa [Value.ownBlock] using h3, ?_⟩
    · show w'.ownsRow _ _ _ _ _ _
      simpa using h2
    · rcases h5 with e | e
      · simp [Value.ownBlock] at e; exact .inl e
      · simp [Value.ownBlock] at e; exact .inr e
end Go.Proofs.YtnjnghbonmdbdaaDoor


/- Layer 11: lists on the way down: what a list's place tells of it; the levels' order; how much is left to do. -/
namespace Go.Proofs.YtnjnghbonmdbdaaDoor
open Go.RowKit Nd

/-- Things with the same cells are the same. -/
theorem nf_cells {w : World} : ∀ p : Nd, p.In w → ∀ q : Nd, q.In w → p.cells = q.cells → p.nf = q.nf := by
  refine Nd.ind fun k t m B d bs A c ls ih => ?_
  intro hp q hq he
  obtain ⟨k', t', m', B', d', bs', A', c', ls'⟩ := q
  simp only [Nd.cells, Nd.k, Nd.t, Nd.m, Nd.B, Nd.d, Nd.bs, Nd.A, Nd.c, Nd.ls] at he
  simp only [Array.mk.injEq, List.cons.injEq, Value.int.injEq, Value.bool.injEq, Value.slice.injEq, and_true, true_and] at he
  obtain ⟨rfl, rfl, rfl, ⟨rfl, hbl, rfl⟩, rfl, hll, rfl⟩ := he
  have hbb : bs = bs' := by
    rcases Nat.eq_zero_or_pos bs.length with h0 | h0
    · have z1 : bs = [] := List.eq_nil_of_length_eq_zero h0
      have z2 : bs' = [] := List.eq_nil_of_length_eq_zero (by omega)
      rw [z1, z2]
    · obtain ⟨b, o, e, _, h1⟩ := hp.bytes.1 h0
      obtain ⟨b', o', e', _, h2⟩ := hq.bytes.1 (by show 0 < bs'.length; omega)
      have e3 : (some (⟨b, o, none⟩ : Addr)) = some ⟨b', o', none⟩ := e.symm.trans e'
      injection e3 with e3
      injection e3 with e3 e4 _
      subst e3 e4
      apply List.ext_getElem hbl
      intro i hi hi'
      have := (h1 i hi).symm.trans (h2 i hi')
      simp only [Option.some.injEq, Value.int.injEq, true_and] at this
      have h3 : (bs.getD i 0).toNat = (bs'.getD i 0).toNat := by exact_mod_cast this
      have h4 := UInt8.toNat_inj.1 h3
      simpa [List.getD_eq_getElem?_getD, hi, hi'] using h4
  have hls : nfs ls = nfs ls' := by
    apply List.ext_getElem (by rw [nfs_length, nfs_length]; exact hll)
    intro i hi hi'
    rw [nfs_length] at hi hi'
    have e1 : (nfs ls)[i]'(by rw [nfs_length]; exact hi) = nf ls[i] := by simp [nfs_map]
    have e2 : (nfs ls')[i]'(by rw [nfs_length]; exact hi') = nf ls'[i] := by simp [nfs_map]
    rw [e1, e2]
    refine ih _ (List.getElem_mem hi) (hp.parts _ (List.getElem_mem hi)) _ (hq.parts _ (List.getElem_mem hi')) ?_
    obtain ⟨b, o, e, h1⟩ := hp.list.1 (by show 0 < ls.length; omega)
    obtain ⟨b', o', e', h2⟩ := hq.list.1 (by show 0 < ls'.length; omega)
    have e3 : (some (⟨b, o, none⟩ : Addr)) = some ⟨b', o', none⟩ := e.symm.trans e'
    injection e3 with e3
    injection e3 with e3 e4 _
    subst e3 e4
    apply Array.ext (by simp [Nd.cells])
    intro j hj hj'
    have a1 := h1 i _ (List.getElem?_eq_getElem hi) j _ (Array.getElem?_eq_getElem hj)
    have a2 := h2 i _ (List.getElem?_eq_getElem hi') j _ (Array.getElem?_eq_getElem hj')
    exact Option.some.inj (a1.symm.trans a2)
  rw [nf, nf, hbb, hls]

/-- Lists at one place are the same. -/
theorem key_nfs {w : World} {p q : Nd} (hp : p.In w) (hq : q.In w) (hk : p.key = q.key) (hl : p.ls.length = q.ls.length) : nfs p.ls = nfs q.ls := by
  rcases Nat.eq_zero_or_pos p.ls.length with h0 | h0
  · have z1 : p.ls = [] := List.eq_nil_of_length_eq_zero h0
    have z2 : q.ls = [] := List.eq_nil_of_length_eq_zero (by omega)
    rw [z1, z2]
  · unfold Nd.key at hk
    rw [kq_pos (by omega), kq_pos (by omega)] at hk
    apply List.ext_getElem (by rw [nfs_length, nfs_length]; exact hl)
    intro i hi hi'
    rw [nfs_length] at hi hi'
    have e1 : (nfs p.ls)[i]'(by rw [nfs_length]; exact hi) = nf p.ls[i] := by simp [nfs_map]
    have e2 : (nfs q.ls)[i]'(by rw [nfs_length]; exact hi') = nf q.ls[i] := by simp [nfs_map]
    rw [e1, e2]
    refine nf_cells _ (hp.parts _ (List.getElem_mem hi)) _ (hq.parts _ (List.getElem_mem hi')) ?_
    obtain ⟨b, o, e, h1⟩ := hp.list.1 h0
    obtain ⟨b', o', e', h2⟩ := hq.list.1 (by omega)
    rw [e, e'] at hk
    injection hk with e3
    injection e3 with e3 e4 _
    subst e3 e4
    apply Array.ext (by simp [Nd.cells])
    intro j hj hj'
    have a1 := h1 i _ (List.getElem?_eq_getElem hi) j _ (Array.getElem?_eq_getElem hj)
    have a2 := h2 i _ (List.getElem?_eq_getElem hi') j _ (Array.getElem?_eq_getElem hj')
    exact Option.some.inj (a1.symm.trans a2)
theorem key_deps {w : World} {p q : Nd} (hp : p.In w) (hq : q.In w) (hk : p.key = q.key) (hl : p.ls.length = q.ls.length) : deps p.ls = deps q.ls := by
  rw [← deps_nfs (fun r _ => dep_nf r) (ls := p.ls), key_nfs hp hq hk hl, deps_nfs (fun r _ => dep_nf r)]
theorem dep_deps (p : Nd) : p.dep = deps p.ls + 1 := by cases p; rfl
theorem dep_le_deps' {ls : List Nd} {p : Nd} (h : p ∈ ls) : p.dep ≤ deps ls := by
  induction ls with
  | nil => cases h
  | cons q qs ih =>
    rw [deps]
    rcases List.mem_cons.1 h with rfl | h
    · omega
    · have := ih h; omega

/-- Levels, each the list of the thing that the one below has come to. -/
inductive Chain (root : Nd) : List Lv → Lv → Prop
  | one (i : Nat) (hi : i ≤ root.ls.length) : Chain root [] ⟨root, i⟩
  | push {xs : List Lv} {x : Lv} {p : Nd} (i : Nat) (h : Chain root xs x) (hp : x.v.ls[x.i]? = some p) (hi : i ≤ p.ls.length) : Chain root (xs ++ [x]) ⟨p, i⟩
theorem Chain.le {root : Nd} {xs : List Lv} {x : Lv} (h : Chain root xs x) : x.i ≤ x.v.ls.length := by
  cases h with
  | one _ hi => exact hi
  | push _ _ _ hi => exact hi
theorem Chain.next {root : Nd} {xs : List Lv} {v : Nd} {i : Nat} (h : Chain root xs ⟨v, i⟩) (hi : i < v.ls.length) : Chain root xs ⟨v, i + 1⟩ := by
  cases h with
  | one _ _ => exact .one _ hi
  | push _ h hp _ => exact .push _ h hp hi
theorem Chain.pop {root : Nd} {ys : List Lv} {y x : Lv} (h : Chain root (ys ++ [y]) x) : Chain root ys y ∧ y.v.ls[y.i]? = some x.v := by
  generalize hzs : ys ++ [y] = zs at h
  cases h with
  | one _ _ => simp at hzs
  | push _ h hp _ =>
    obtain ⟨e1, e2⟩ := List.append_inj' hzs rfl
    simp at e2
    subst e1 e2
    exact ⟨h, hp⟩
theorem Chain.dep {root : Nd} {xs : List Lv} {x : Lv} (h : Chain root xs x) : xs.length + x.v.dep ≤ root.dep ∧ ∀ y ∈ xs, x.v.dep < y.v.dep := by
  induction h with
  | one _ _ => exact ⟨by simp, fun y hy => by simp at hy⟩
  | @push xs x p i h hp _ ih =>
    have hm : p ∈ x.v.ls := List.mem_of_getElem? hp
    have h1 := dep_le_deps' hm
    have h2 := dep_deps x.v
    refine ⟨by simp only [List.length_append, List.length_singleton]; have := ih.1; omega, fun y hy => ?_⟩
    rcases List.mem_append.1 hy with hy | hy
    · have := ih.2 y hy; show p.dep < _; omega
    · rw [List.mem_singleton.1 hy]; show p.dep < _; omega
/-- What is true of the root's parts and goes down, is true of each level but the first. -/
theorem Chain.all {root : Nd} {P : Nd → Prop} (h0 : ∀ p ∈ root.ls, P p) (hs : ∀ p, P p → ∀ q ∈ p.ls, P q) {xs : List Lv} {x : Lv} (h : Chain root xs x) : ∀ p ∈ x.v.ls, P p := by
  induction h with
  | one _ _ => exact h0
  | push _ _ hp _ ih => exact hs _ (ih _ (List.mem_of_getElem? hp))
theorem Chain.top {root : Nd} {P : Nd → Prop} (h0 : ∀ p ∈ root.ls, P p) (hs : ∀ p, P p → ∀ q ∈ p.ls, P q) {ys : List Lv} {y x : Lv} (h : Chain root (ys ++ [y]) x) : P x.v :=
  (h.pop.1.all h0 hs) _ (List.mem_of_getElem? h.pop.2)

mutual
/-- How much there is to do for a thing. -/
def wk : Nd → Nat
  | mk _ _ _ _ _ _ _ _ ls => wks ls + 3
def wks : List Nd → Nat
  | [] => 0
  | p :: ps => wk p + wks ps
end
theorem wk_eq (p : Nd) : wk p = wks p.ls + 3 := by cases p; rfl
theorem wks_drop {ls : List Nd} {i : Nat} {p : Nd} (h : ls[i]? = some p) : wks (ls.drop i) = wk p + wks (ls.drop (i + 1)) := by
  rw [Nd.drop_at h]; rfl
def low (xs : List Lv) : Nat := (xs.map fun y => wks (y.v.ls.drop (y.i + 1)) + 2).sum
theorem low_snoc (xs : List Lv) (y : Lv) : low (xs ++ [y]) = low xs + (wks (y.v.ls.drop (y.i + 1)) + 2) := by simp [low]

/-- What the map tells of lists that are done, or on the way down. -/
def MI (w0 : World) (f : Option Addr → Nat → Option Value) (vs : List Nd) : Prop :=
  ∀ p : Nd, p.In w0 → ∀ v, f p.key p.ls.length = some v → v = .int .i64 (deps p.ls : Int) ∨ v = .int .i64 (-1) ∧ ∃ u ∈ vs, u.In w0 ∧ u.key = p.key ∧ u.ls.length = p.ls.length
/-- How much is left to do at most. -/
def Left (f : Option Addr → Nat → Option Value) (xs : List Lv) (x : Lv) (n : Nat) : Prop :=
  low xs + wks (x.v.ls.drop x.i) + 1 ≤ n ∨ ∃ p, x.v.ls[x.i]? = some p ∧ f p.key p.ls.length = some (.int .i64 (deps p.ls : Int)) ∧ low xs + wks (x.v.ls.drop (x.i + 1)) + 2 ≤ n
theorem Left.pos {f : Option Addr → Nat → Option Value} {xs : List Lv} {x : Lv} {n : Nat} (h : Left f xs x n) : 1 ≤ n := by
  rcases h with h | ⟨_, _, _, h⟩ <;> omega

theorem MI.push {w0 : World} {f : Option Addr → Nat → Option Value} {vs : List Nd} (h : MI w0 f vs) {p : Nd} (hp : p.In w0) : MI w0 (nset f p.key p.ls.length (.int .i64 (-1))) (vs ++ [p]) := by
  intro q hq v hv
  unfold nset at hv
  split at hv
  · rename_i hc
    cases hv
    exact .inr ⟨rfl, p, by simp, hp, hc.1.symm, hc.2.symm⟩
  · rcases h q hq v hv with h1 | ⟨h1, u, hu, h2⟩
    · exact .inl h1
    · exact .inr ⟨h1, u, by simp [hu], h2⟩
theorem MI.pop {w0 : World} {f : Option Addr → Nat → Option Value} {vs : List Nd} {p : Nd} (h : MI w0 f (vs ++ [p])) (hp : p.In w0) : MI w0 (nset f p.key p.ls.length (.int .i64 (deps p.ls : Int))) vs := by
  intro q hq v hv
  unfold nset at hv
  split at hv
  · rename_i hc
    cases hv
    exact .inl (by rw [key_deps hq hp hc.1 hc.2])
  · rename_i hc
    rcases h q hq v hv with h1 | ⟨h1, u, hu, h2, h3, h4⟩
    · exact .inl h1
    · refine .inr ⟨h1, u, ?_, h2, h3, h4⟩
      rcases List.mem_append.1 hu with hu | hu
      · exact hu
      · rw [List.mem_singleton.1 hu] at h3 h4
        exact absurd ⟨h3.symm, h4.symm⟩ hc
/-- A thing that a level has come to is on the way down itself nowhere. -/
theorem MI.met {w0 : World} {f : Option Addr → Nat → Option Value} {root : Nd} {xs : List Lv} {x : Lv} (h : MI w0 f ((xs ++ [x]).map (·.v))) (hc : Chain root xs x) {p : Nd} (hp : x.v.ls[x.i]? = some p) (hi : p.In w0) {v : Value} (hv : f p.key p.ls.length = some v) : v = .int .i64 (deps p.ls : Int) := by
  rcases h p hi v hv with h1 | ⟨_, u, hu, h2, h3, h4⟩
  · exact h1
  · exfalso
    have hd := key_deps h2 hi h3 h4
    have h5 := dep_le_deps' (List.mem_of_getElem? hp)
    have h6 := dep_deps x.v
    have h7 := dep_deps u
    have h8 := dep_deps p
    obtain ⟨y, hy, rfl⟩ := List.mem_map.1 hu
    rcases List.mem_append.1 hy with hy | hy
    · have := hc.dep.2 y hy; omega
    · rw [List.mem_singleton.1 hy] at hd h7; omega

/-- The least of numbers with a property. -/
theorem least_ex {P : Nat → Prop} (h : ∃ n, P n) : ∃ n, P n ∧ ∀ m, P m → n ≤ m := by
  obtain ⟨n, hn⟩ := h
  induction n using Nat.strongRecOn with
  | _ n ih =>
    by_cases hm : ∃ m, m < n ∧ P m
    · obtain ⟨m, h1, h2⟩ := hm
      exact ih m h1 h2
    · exact ⟨n, hn, fun m h => by
        rcases Nat.lt_or_ge m n with h' | h'
        · exact absurd ⟨m, h', h⟩ hm
        · exact h'⟩
open Classical in
noncomputable def leastOf (P : Nat → Prop) : Nat := if h : ∃ n, P n then (least_ex h).choose else 0
theorem leastOf_spec {P : Nat → Prop} (h : ∃ n, P n) : P (leastOf P) := by
  unfold leastOf; rw [dif_pos h]; exact (least_ex h).choose_spec.1
theorem leastOf_le {P : Nat → Prop} {n : Nat} (h : P n) : leastOf P ≤ n := by
  unfold leastOf; rw [dif_pos ⟨n, h⟩]; exact (least_ex ⟨n, h⟩).choose_spec.2 n h
end Go.Proofs.YtnjnghbonmdbdaaDoor


/- Layer 11: Depth. -/
namespace Go.Proofs.YtnjnghbonmdbdaaDoor
open Go.RowKit Nd

namespace Nd
/-- Each list's place may be asked. -/
inductive Cx (w : World) (M : Addr) : Nd → Prop
  | mk {k t : Int} {m : Bool} {B : Option Addr} {d : Nat} {bs : List UInt8} {A : Option Addr} {c : Nat} {ls : List Nd} (h : 0 < ls.length → ∃ b o, A = some ⟨b, o, none⟩ ∧ (⟨b, o, none⟩ = M ∨ Um w ⟨b, o, none⟩)) (hp : ∀ p ∈ ls, Cx w M p) : Cx w M (.mk k t m B d bs A c ls)
theorem Cx.parts {w : World} {M : Addr} {v : Nd} (h : Cx w M v) : ∀ p ∈ v.ls, Cx w M p := by
  cases h with
  | mk _ hp => exact hp
theorem Cx.list {w : World} {M : Addr} {v : Nd} (h : Cx w M v) : 0 < v.ls.length → ∃ b o, v.A = some ⟨b, o, none⟩ ∧ (⟨b, o, none⟩ = M ∨ Um w ⟨b, o, none⟩) := by
  cases h with
  | mk h _ => exact h
theorem Cx.kx {w : World} {M : Addr} {v : Nd} (h : Cx w M v) : Kx w M v.key := by
  unfold Nd.key
  rcases Nat.eq_zero_or_pos v.ls.length with h0 | h0
  · rw [h0]; exact Kx.none _ _
  · rw [kq_pos (by omega)]
    obtain ⟨b, o, e, h1⟩ := h.list h0
    intro a ha
    rw [e] at ha
    cases ha
    exact h1
theorem Cx.under {w w' : World} {M : Addr} {v : Nd} (h : Cx w M v) (b : Below w.heap.size w w') : Cx w' M v := by
  induction h with
  | mk h _ ih =>
    refine .mk (fun h0 => ?_) ih
    obtain ⟨b', o, e, h1⟩ := h h0
    exact ⟨b', o, e, h1.imp id (fun h => h.below b h.lt)⟩
theorem Cl.cx {w : World} (M : Addr) {v : Nd} (h : Cl w v) : v.In w → Cx w M v := by
  induction h with
  | @mk k t m B d bs A c ls h _ ih =>
    intro hi
    refine .mk (fun h0 => ?_) (fun p hp => ih p hp (hi.parts p hp))
    obtain ⟨b, cs, e, hW⟩ := h h0
    refine ⟨b, 0, e, .inr ⟨cs, _, hW, fun hz => ?_⟩⟩
    obtain ⟨b', o', p, e', _, _, hc, _⟩ := hi.list.1.at (i := 0) h0
    have e2 : (some (⟨b, 0, none⟩ : Addr)) = some ⟨b', o', none⟩ := e.symm.trans e'
    injection e2 with e2
    injection e2 with e2 e3 _
    subst e2 e3
    rw [hW.cell, Array.getElem?_eq_none (by omega)] at hc
    cases hc
end Nd

/-- The list of the one thing that is asked of. -/
def rootOf (B : Nat) (f : Nd) : Nd := .mk 0 0 false none 0 [] (some ⟨B, 0, none⟩) 1 [f]
/-- Memory while lists are on the way down. -/
structure DI (w0 wr : World) (M : Addr) (f : Nd) (B b cap K : Nat) (xs : List Lv) (x : Lv) (g : Option Addr → Nat → Option Value) : Prop where
  row : Row3 wr b cap (xs ++ [x])
  ch : Chain (rootOf B f) xs x
  map : MapN w0 wr M K g
  mi : MI w0 g ((xs ++ [x]).map (·.v))
  bel : Below w0.heap.size w0 wr
  root : Whole wr B f.cells 27
  lo : w0.heap.size ≤ b ∧ w0.heap.size ≤ K ∧ w0.heap.size ≤ B

theorem MapN.ne {w0 w : World} {M : Addr} {K p : Nat} {g : Option Addr → Nat → Option Value} (h : MapN w0 w M K g) {c : Array Value} {t : TypeId} {f : Nat × Nat} (hp : w.heap[p]? = some (.cells c t f)) : p ≠ K := by
  rintro rfl
  obtain ⟨es, k, h, _⟩ := h
  rw [h] at hp
  cases hp
theorem Row3.whole {w : World} {b cap : Nat} {xs : List Lv} (h : Row3 w b cap xs) : ∃ cur, Whole w b cur 54 := by
  rcases h.2 with ⟨h1, _⟩ | ⟨b', cap', cur, h1, _, hh, _⟩
  · cases h1
  · injection h1 with h1 _ _
    injection h1 with h1
    injection h1 with h1 _ _
    subst h1
    exact ⟨cur, hh⟩
theorem DI.ne {w0 wr : World} {M : Addr} {f : Nd} {B b cap K : Nat} {xs : List Lv} {x : Lv} {g : Option Addr → Nat → Option Value} (h : DI w0 wr M f B b cap K xs x g) : b ≠ K ∧ B ≠ K ∧ b ≠ B := by
  obtain ⟨cur, hW⟩ := h.row.whole
  exact ⟨h.map.ne hW, h.map.ne h.root, hW.ne h.root (by decide)⟩
theorem DI.lie {w0 wr : World} {M : Addr} {f : Nd} (hf : f.In w0) {B b cap K : Nat} {xs : List Lv} {x : Lv} {g : Option Addr → Nat → Option Value} (h : DI w0 wr M f B b cap K xs x g) : Lie wr x.v.A x.v.ls := by
  have hc := h.ch
  rcases List.eq_nil_or_concat xs with rfl | ⟨ys, y, rfl⟩
  · generalize hz : ([] : List Lv) = zs at hc
    cases hc with
    | one _ _ => exact Lie.whole h.root (by simp [flat, rootOf, Nd.ls])
    | push _ _ _ _ => simp at hz
  · rw [List.concat_eq_append] at hc
    exact ((hc.top (P := fun p => p.In w0) (fun p hp => by simp [rootOf, Nd.ls] at hp; rw [hp]; exact hf) (fun p hp q hq => hp.parts q hq)).grew (grew_of_below h.bel)).list.1
theorem DI.len {w0 wr : World} {M : Addr} {f : Nd} (hf : f.In w0) {B b cap K : Nat} {xs : List Lv} {x : Lv} {g : Option Addr → Nat → Option Value} (h : DI w0 wr M f B b cap K xs x g) : x.v.ls.length ≤ 1954687338268 := by
  have hc := h.ch
  rcases List.eq_nil_or_concat xs with rfl | ⟨ys, y, rfl⟩
  · generalize hz : ([] : List Lv) = zs at hc
    cases hc with
    | one _ _ => simp [rootOf, Nd.ls]
    | push _ _ _ _ => simp at hz
  · rw [List.concat_eq_append] at hc
    exact (hc.top (P := fun p => p.In w0) (fun p hp => by simp [rootOf, Nd.ls] at hp; rw [hp]; exact hf) (fun p hp q hq => hp.parts q hq)).list.2.2
theorem DI.grew {w0 wr w' : World} {M : Addr} {f : Nd} {B b cap K : Nat} {xs : List Lv} {x : Lv} {g : Option Addr → Nat → Option Value} (h : DI w0 wr M f B b cap K xs x g) (gr : Grew wr w' none) : DI w0 w' M f B b cap K xs x g :=
  ⟨h.row.fr (Fr.of_grew gr) (fun e => by cases e), h.ch, h.map.grew gr, h.mi, h.bel.trans (grew_below gr h.bel.size (fun _ e => by cases e)), h.root.grew gr (by simp), h.lo⟩

theorem di_new (w : World) (M : Addr) (f : Nd) :
    DI w ((((w.alloc (.cells f.cells 27)).alloc (.cells f.cells 27)).alloc (.cells #[.slice (some ⟨w.heap.size + 1, 0, none⟩) 1 1, .int .i64 0, .int .i64 0] 54)).alloc (.map #[] 0)) M f (w.heap.size + 1) (w.heap.size + 1 + 1) 1 (w.heap.size + 1 + 1 + 1) [] ⟨rootOf (w.heap.size + 1) f, 0⟩ (fun _ _ => none) := by
  have h1 := Whole.new (w.alloc (.cells f.cells 27)) f.cells 27
  have h2 := Whole.new ((w.alloc (.cells f.cells 27)).alloc (.cells f.cells 27)) #[.slice (some ⟨w.heap.size + 1, 0, none⟩) 1 1, .int .i64 0, .int .i64 0] 54
  have h3 := MapN.new w (((w.alloc (.cells f.cells 27)).alloc (.cells f.cells 27)).alloc (.cells #[.slice (some ⟨w.heap.size + 1, 0, none⟩) 1 1, .int .i64 0, .int .i64 0] 54)) M 0
  simp only [World.size_alloc] at h1 h2 h3
  refine ⟨?_, .one 0 (Nat.zero_le _), h3, (fun p hp v hv => by cases hv), ?_, ?_, by omega, by omega, by omega⟩
  · have := h2.grew (grew_alloc (grew_refl _ none) (.map #[] 0)) (by simp)
    exact ⟨rfl, .inr ⟨_, 1, _, rfl, Nat.zero_le _, this, Nat.le_refl _, by unfold maxLen; omega, rfl, rfl⟩⟩
  · exact ((((Below.refl _ w).alloc (Nat.le_refl _) _).alloc (by simp) _).alloc (by simp; omega) _).alloc (by simp; omega) _
  · exact h1.grew (grew_alloc (grew_alloc (grew_refl _ none) _) _) (by simp)

/-- What holds ahead of each round: so much is left to do at most. -/
def DR (w : World) (M : Addr) (f : Nd) (B K : Nat) (n : Nat) (v : Value) (wr : World) : Prop :=
  ∃ b cap xs x g, v = .slice (some ⟨b, 0, none⟩) (xs.length + 1) cap ∧ DI w wr M f B b cap K xs x g ∧ Left g xs x n

theorem elem_lev : Tryd.prog.elem 55 = 54 := by simp [Program.elem, Tryd.underlying55]
theorem size_of_lev (w : World) : (Go.sizeOf 54).run Tryd.prog w = .ok 3 w := by kernel_rfl
/-- 'down[:h]'. -/
theorem slice_lev (w : World) (b n c h : Nat) (hh : h ≤ c) :
    (Instr.slice 55 (.slice (some ⟨b, 0, none⟩) n c) none (some (.int .i64 (h : Int))) none).run Tryd.prog w = .ok (.slice (some ⟨b, 0, none⟩) h c) w := by
  have ht : Tryd.prog.underlying 55 = some (.slice (Tryd.prog.elem 55)) := by rw [elem_lev]; exact Tryd.underlying55
  rw [run_slice_h w 55 (some ⟨b, 0, none⟩) n c ht .i64 _ (by omega) (by omega), elem_lev, size_of_lev]
  simp [Result.andThen, sliced, Addr.add]
theorem enter_mo : ∀ args w, (callFunc 27 args).run Tryd.prog w = .ok (.enter 27 args) w := fun _ _ => by kernel_rfl
section
variable {ρ : Operand → Value} {o : Oper}
theorem run_nilD {x : Operand} {q i : Nat} (ho : o.op = .nilCheck x) (hx : ρ x = .pointer (some ⟨q, i, none⟩)) (w : World) : (execOp ρ o).run Tryd.prog w = .ok (.value (.pointer (some ⟨q, i, none⟩))) w := by
  simp [execOp, ho, hx, go_sem]
theorem run_fldD {x : Operand} {b i k : Nat} (ho : o.op = .fieldAddr 54 x k) (hk : k < 3) (hx : ρ x = .pointer (some ⟨b, i, none⟩)) (w : World) : (execOp ρ o).run Tryd.prog w = .ok (.value (.pointer (some ⟨b, i + k, none⟩))) w := by
  have : k = 0 ∨ k = 1 ∨ k = 2 := by omega
  rcases this with rfl | rfl | rfl <;> simp [execOp, ho, hx, go_sem]
theorem run_ldD {x : Operand} {b i : Nat} {v : Value} (ho : o.op = .load 25 x) (hx : ρ x = .pointer (some ⟨b, i, none⟩)) {w : World} (hc : w.cell? ⟨b, i, none⟩ = some v) : (execOp ρ o).run Tryd.prog w = .ok (.value v) w := by
  simp [execOp, ho, hx, go_sem, hc]
theorem run_mupd {x y z : Operand} {q n : Nat} {p : Option Addr} {v : Value} (ho : o.op = .mapUpdate 56 x y z) (hx : ρ x = .map (some q)) (hy : ρ y = .agg #[.pointer p, .int .i64 (n : Int)]) (hz : ρ z = v) {w w' : World}
    (hr : (Instr.mapUpdate 56 (.map (some q)) (.agg #[.pointer p, .int .i64 (n : Int)]) v).run Tryd.prog w = .ok () w') : (execOp ρ o).run Tryd.prog w = .ok .skip w' := by
  simp [execOp, ho, hx, hy, hz, go_sem, hr]
end
theorem fr_then {w w' w2 : World} {F : Nat → Prop} (h : Fr w w' F) (g : Grew w' w2 none) : Fr w w2 F := h.trans (Fr.of_grew' (F := F) g (fun _ e => by cases e)) (fun _ _ e => e)
theorem below_fr {w0 w w' : World} {F : Nat → Prop} (b : Below w0.heap.size w0 w) (g : Fr w w' F) (hF : ∀ i, F i → w0.heap.size ≤ i) : Below w0.heap.size w0 w' :=
  ⟨g.os.trans b.os, g.tape.trans b.tape, g.output.trans b.output, Nat.le_trans b.size g.size, fun i hi => by
    rw [g.block i (Nat.lt_of_lt_of_le hi b.size) (fun e => by have := hF i e; omega)]
    exact b.block i hi⟩

set_option maxRecDepth 100000 in
set_option maxHeartbeats 1000000 in
theorem depth_any (w : World) (M : Addr) (hM : Mk w M) (f : Nd) (hf : f.In w) (hx : f.Cx w M) (hn : f.cnt ≤ 1000000) :
    Calls Tryd.prog 18 #[.agg #[.int .i64 f.k, .int .i64 f.t, .bool f.m, .slice f.B f.bs.length f.d, .slice f.A f.ls.length f.c]] w fun e w' => e = .returned (.int .i64 (f.dep : Int)) ∧ Grew w w' none := by
  have HF := Lib.hid hf
  have HX := Lib.hid hx
  have HM := Lib.hid hM
  have HN := Lib.hid hn
  clear hf hx hM hn
  obtain ⟨P, hP⟩ : ∃ P, w.heap.size = P := ⟨_, rfl⟩
  have HP := Lib.hid hP
  have hmm := @run_makeMap Tryd.prog
  go_enter Tryd.func18, Tryd.ntmps18
  go_upto_region 3 with (fail)
  clear hP hmm
  have hdi := di_new w M f
  rw [HP.out] at hdi
  unfold Nd.cells at hdi
  obtain ⟨B, hB⟩ : ∃ B, P + 1 = B := ⟨_, rfl⟩
  rw [hB] at hdi ⊢
  obtain ⟨b0, hb0⟩ : ∃ b, B + 1 = b := ⟨_, rfl⟩
  rw [hb0] at hdi ⊢
  obtain ⟨Km, hKm⟩ : ∃ Km, b0 + 1 = Km := ⟨_, rfl⟩
  rw [hKm] at hdi ⊢
  have HR0 := Lib.hid (show DR w M f B Km (wks [f] + 1) (.slice (some ⟨b0, 0, none⟩) 1 1) _ from ⟨b0, 1, [], _, _, rfl, hdi, .inl (by simp [low, rootOf, Nd.ls])⟩)
  clear hdi hB hb0 hKm
  generalize (((w.alloc (.cells #[.int .i64 f.k, .int .i64 f.t, .bool f.m, .slice f.B f.bs.length f.d, .slice f.A f.ls.length f.c] 27)).alloc (.cells #[.int .i64 f.k, .int .i64 f.t, .bool f.m, .slice f.B f.bs.length f.d, .slice f.A f.ls.length f.c] 27)).alloc (.cells #[.slice (some ⟨B, 0, none⟩) 1 1, .int .i64 0, .int .i64 0] 54)).alloc (.map #[] 0) = W at *
  go_loopw [3] (fun at_ wr => ∃ n, DR w M f B Km n at_ wr) (fun at_ wr => leastOf (fun n => DR w M f B Km n at_ wr))
  case atStart => exact ⟨_, HR0.out⟩
  case round =>
    clear HR0
    obtain ⟨n, hn, hspec⟩ : ∃ n, leastOf (fun n => DR w M f B Km n _ wr) = n ∧ DR w M f B Km n _ wr := ⟨_, rfl, leastOf_spec hrel⟩
    obtain ⟨b, cap, xs, x, g, rfl, hdi, hleft⟩ := hspec
    have HI := Lib.hid hdi
    have HL := Lib.hid hleft
    obtain ⟨m, hm⟩ : ∃ m, xs.length = m := ⟨_, rfl⟩
    rw [hm] at hn ⊢
    have HMM := Lib.hid hm
    have HLO := Lib.hid hn
    have hdep := hdi.ch.dep.1
    have hmb : m ≤ 1000001 := by
      have h1 := dep_le_cnt f
      have h2 : (rootOf B f).dep = f.dep + 1 := by simp [rootOf, Nd.dep, deps]
      have := HN.out
      have := Nd.dep_pos x.v
      omega
    have hmI : (m : Int) ≤ 1000001 := by omega
    have hle : x.i ≤ x.v.ls.length := hdi.ch.le
    have hlen : x.v.ls.length ≤ 1954687338268 := hdi.len HF.out
    have c0 : wr.cell? ⟨b, m * 3, none⟩ = some (.slice x.v.A x.v.ls.length x.v.c) := by have := hdi.row.cell 0 (v := .slice x.v.A x.v.ls.length x.v.c) rfl; rw [hm] at this; exact this
    have c1 : wr.cell? ⟨b, m * 3 + 1, none⟩ = some (.int .i64 (x.i : Int)) := by have := hdi.row.cell 1 (v := .int .i64 (x.i : Int)) rfl; rw [hm] at this; exact this
    have c2 : wr.cell? ⟨b, m * 3 + 2, none⟩ = some (.int .i64 (deps (x.v.ls.take x.i) : Int)) := by have := hdi.row.cell 2 (v := .int .i64 (deps (x.v.ls.take x.i) : Int)) rfl; rw [hm] at this; exact this
    clear hn hdi hleft hm hdep hrel
    go_upto_region 4 with (fail)
    have d0 : ∀ k, (wr.drewN k).cell? ⟨b, m * 3, none⟩ = some (.slice x.v.A x.v.ls.length x.v.c) := fun _ => c0
    have d1 : ∀ k, (wr.drewN k).cell? ⟨b, m * 3 + 1, none⟩ = some (.int .i64 (x.i : Int)) := fun _ => c1
    rcases Decidable.em (x.i = x.v.ls.length) with h1 | h1
    · have h1' : ((x.i : Int) == (x.v.ls.length : Int)) = true := beq_iff_eq.2 (by omega)
      have HEQ := Lib.hid h1
      clear h1
      go_quiet (fail)
      have HI1 := Lib.hid (HI.out.grew (grew_drewN (grew_refl wr none) nq))
      have HWL := Lib.hid (grew_drewN (grew_refl wr none) nq)
      clear d0 d1 c0 c1 c2 HI
      generalize wr.drewN nq = w1 at *
      have hrow := HI1.out.row
      have c0 : w1.cell? ⟨b, m * 3, none⟩ = some (.slice x.v.A x.v.ls.length x.v.c) := by have := hrow.cell 0 (v := .slice x.v.A x.v.ls.length x.v.c) rfl; rw [HMM.out] at this; exact this
      have c2 : w1.cell? ⟨b, m * 3 + 2, none⟩ = some (.int .i64 (deps (x.v.ls.take x.i) : Int)) := by have := hrow.cell 2 (v := .int .i64 (deps (x.v.ls.take x.i) : Int)) rfl; rw [HMM.out] at this; exact this
      clear hrow h1'
      rcases Nat.eq_zero_or_pos m with h2 | h2
      · subst h2
        have HE := Lib.hid (show deps (x.v.ls.take x.i) = f.dep by
          have hxs : xs = [] := List.eq_nil_of_length_eq_zero HMM.out
          have hc := HI1.out.ch
          rw [HEQ.out, List.take_length]
          generalize hz : xs = zs at hc
          cases hc with
          | one _ _ => simp [rootOf, Nd.ls, deps]
          | push _ _ _ _ => rw [hxs] at hz; simp at hz)
        go_wp2_with fail
        go_ret
        refine ⟨?_, grew_of_below HI1.out.bel⟩
        rw [← HE.out]
        rfl
      · have h2' : ((m : Int) + 1 == 1) = false := beq_eq_false_iff_ne.2 (by omega)
        obtain ⟨ys, y, hys⟩ : ∃ ys y, xs = ys ++ [y] := by
          rcases List.eq_nil_or_concat xs with h | ⟨ys, y, h⟩
          · rw [h] at HMM; have := HMM.out; simp at this; omega
          · exact ⟨ys, y, by rw [h, List.concat_eq_append]⟩
        have HYS := Lib.hid hys
        have HXI := Lib.hid (show x.v.In w ∧ x.v.Cx w M by
          have hc := HI1.out.ch
          rw [hys] at hc
          exact hc.top (P := fun p => p.In w ∧ p.Cx w M) (fun p hp => by simp [rootOf, Nd.ls] at hp; rw [hp]; exact ⟨HF.out, HX.out⟩) (fun p hp q hq => ⟨hp.1.parts q hq, hp.2.parts q hq⟩))
        have HNE := Lib.hid HI1.out.ne
        have HMO := Lib.hid (fun w' => memof_any w' x.v.A x.v.ls.length x.v.c (fun h => by obtain ⟨b', o, e, _⟩ := HXI.out.1.list.1 h; exact ⟨b', o, e⟩) hlen)
        have HUP := Lib.hid (show ∀ X, Fr w1 X (fun i => i = Km) → MapN w X M Km g → ∃ w', (Instr.mapUpdate 56 (.map (some Km)) (.agg #[.pointer (kq x.v.A x.v.ls.length), .int .i64 (x.v.ls.length : Int)]) (.int .i64 (deps (x.v.ls.take x.i) : Int))).run Tryd.prog X = .ok () w' ∧ MapN w w' M Km (nset g x.v.key x.v.ls.length (.int .i64 (deps (x.v.ls.take x.i) : Int))) ∧ Fr X w' (fun i => i = Km) from
          fun X hX hm => run_nupdate hm (below_fr HI1.out.bel hX (fun i e => by have := HI1.out.lo.2.1; omega)) HM.out x.v.ls.length HXI.out.2.kx _)
        clear hys h2 hle
        go_upto_region 7 with (fail)
        have GS := Lib.hid (show Fr w1 w1.drew (fun i => i = Km) from (Fr.refl w1 _).drew)
        refine act_letterC (fun A1 hA1 => ?_)
        have d4 : A1.eval (.tmp 4) = .map (some Km) := by rw [← hA1]; rfl
        have d5 : A1.eval (.tmp 5) = .pointer (some ⟨b, m * 3, none⟩) := by rw [← hA1]; rfl
        have szA1 : A1.tmps.size = 98 := by rw [← hA1]; rfl
        have HA1 := Lib.hid hA1
        clear hA1
        refine wp_region_held (S := fun w' => Fr w1 w' (fun i => i = Km)) (by kernel_rfl) ?_
        change wpAnyH _ _ _ _ _ _ _ _ (World.drew w1)
        have MG := Lib.hid (HI1.out.map.grew (grew_drew (grew_refl w1 none)))
        refine wpAnyH_take (i := 0) (v := .map (some Km)) rfl (by kernel_rfl) (by kernel_rfl) (by kernel_rfl) (fun _ _ _ h => h) (.inl ⟨rfl, fun w g => run_moveV rfl d4 w⟩) GS.out ?_
        refine act_letter (fun A2 hA2 => ?_)
        replace d4 : A2.eval (.tmp 4) = .map (some Km) := by rw [← hA2]; exact (ev_ne A1 (m := 36) (n := 4) (.map (some Km)) (by decide)).trans d4
        replace d5 : A2.eval (.tmp 5) = .pointer (some ⟨b, m * 3, none⟩) := by rw [← hA2]; exact (ev_ne A1 (m := 36) (n := 5) (.map (some Km)) (by decide)).trans d5
        have e36 : A2.eval (.tmp 36) = .map (some Km) := by rw [← hA2]; exact ev_self A1 36 (.map (some Km)) (by omega)
        have szA2 : A2.tmps.size = 98 := by rw [← hA2]; exact (sz_put A1 36 (.map (some Km))).trans szA1
        have HA2 := Lib.hid (show A1.put (some 36) (.map (some Km)) = A2 from hA2)
        clear hA2 szA1
        have d36 := e36
        clear e36
        refine wpAnyH_take (i := 1) (v := .pointer (some ⟨b, m * 3, none⟩)) rfl (by kernel_rfl) (by kernel_rfl) (by kernel_rfl) (fun _ _ _ h => h) (.inl ⟨rfl, fun w g => run_moveV rfl d5 w⟩) GS.out ?_
        refine act_letter (fun A3 hA3 => ?_)
        replace d4 : A3.eval (.tmp 4) = .map (some Km) := by rw [← hA3]; exact (ev_ne A2 (m := 37) (n := 4) (.pointer (some ⟨b, m * 3, none⟩)) (by decide)).trans d4
        replace d5 : A3.eval (.tmp 5) = .pointer (some ⟨b, m * 3, none⟩) := by rw [← hA3]; exact (ev_ne A2 (m := 37) (n := 5) (.pointer (some ⟨b, m * 3, none⟩)) (by decide)).trans d5
        replace d36 : A3.eval (.tmp 36) = .map (some Km) := by rw [← hA3]; exact (ev_ne A2 (m := 37) (n := 36) (.pointer (some ⟨b, m * 3, none⟩)) (by decide)).trans d36
        have e37 : A3.eval (.tmp 37) = .pointer (some ⟨b, m * 3, none⟩) := by rw [← hA3]; exact ev_self A2 37 (.pointer (some ⟨b, m * 3, none⟩)) (by omega)
        have szA3 : A3.tmps.size = 98 := by rw [← hA3]; exact (sz_put A2 37 (.pointer (some ⟨b, m * 3, none⟩))).trans szA2
        have HA3 := Lib.hid (show A2.put (some 37) (.pointer (some ⟨b, m * 3, none⟩)) = A3 from hA3)
        clear hA3 szA2
        have d37 := e37
        clear e37
        refine wpAnyH_take (i := 2) (v := .pointer (some ⟨b, m * 3, none⟩)) rfl (by kernel_rfl) (by kernel_rfl) (by kernel_rfl) (fun _ _ _ h => h) (.inl ⟨rfl, fun w g => run_nilD rfl d37 w⟩) GS.out ?_
        refine act_letter (fun A4 hA4 => ?_)
        replace d4 : A4.eval (.tmp 4) = .map (some Km) := by rw [← hA4]; exact (ev_ne A3 (m := 38) (n := 4) (.pointer (some ⟨b, m * 3, none⟩)) (by decide)).trans d4
        replace d5 : A4.eval (.tmp 5) = .pointer (some ⟨b, m * 3, none⟩) := by rw [← hA4]; exact (ev_ne A3 (m := 38) (n := 5) (.pointer (some ⟨b, m * 3, none⟩)) (by decide)).trans d5
        replace d36 : A4.eval (.tmp 36) = .map (some Km) := by rw [← hA4]; exact (ev_ne A3 (m := 38) (n := 36) (.pointer (some ⟨b, m * 3, none⟩)) (by decide)).trans d36
        have e38 : A4.eval (.tmp 38) = .pointer (some ⟨b, m * 3, none⟩) := by rw [← hA4]; exact ev_self A3 38 (.pointer (some ⟨b, m * 3, none⟩)) (by omega)
        have szA4 : A4.tmps.size = 98 := by rw [← hA4]; exact (sz_put A3 38 (.pointer (some ⟨b, m * 3, none⟩))).trans szA3
        have HA4 := Lib.hid (show A3.put (some 38) (.pointer (some ⟨b, m * 3, none⟩)) = A4 from hA4)
        clear hA4 szA3 d37
        have d38 := e38
        clear e38
        refine wpAnyH_take (i := 3) (v := .pointer (some ⟨b, m * 3, none⟩)) rfl (by kernel_rfl) (by kernel_rfl) (by kernel_rfl) (fun _ _ _ h => h) (.inl ⟨rfl, fun w g => run_fldD (k := 0) rfl (by decide) d38 w⟩) GS.out ?_
        refine act_letter (fun A5 hA5 => ?_)
        replace d4 : A5.eval (.tmp 4) = .map (some Km) := by rw [← hA5]; exact (ev_ne A4 (m := 39) (n := 4) (.pointer (some ⟨b, m * 3, none⟩)) (by decide)).trans d4
        replace d5 : A5.eval (.tmp 5) = .pointer (some ⟨b, m * 3, none⟩) := by rw [← hA5]; exact (ev_ne A4 (m := 39) (n := 5) (.pointer (some ⟨b, m * 3, none⟩)) (by decide)).trans d5
        replace d36 : A5.eval (.tmp 36) = .map (some Km) := by rw [← hA5]; exact (ev_ne A4 (m := 39) (n := 36) (.pointer (some ⟨b, m * 3, none⟩)) (by decide)).trans d36
        have e39 : A5.eval (.tmp 39) = .pointer (some ⟨b, m * 3, none⟩) := by rw [← hA5]; exact ev_self A4 39 (.pointer (some ⟨b, m * 3, none⟩)) (by omega)
        have szA5 : A5.tmps.size = 98 := by rw [← hA5]; exact (sz_put A4 39 (.pointer (some ⟨b, m * 3, none⟩))).trans szA4
        have HA5 := Lib.hid (show A4.put (some 39) (.pointer (some ⟨b, m * 3, none⟩)) = A5 from hA5)
        clear hA5 szA4 d38
        have d39 := e39
        clear e39
        refine wpAnyH_take (i := 4) (v := .slice x.v.A x.v.ls.length x.v.c) rfl (by kernel_rfl) (by kernel_rfl) (by kernel_rfl) (fun _ _ _ h => h) (.inl ⟨rfl, fun w g => run_ldD rfl d39 (g.cell c0 HNE.out.1)⟩) GS.out ?_
        refine act_letter (fun A6 hA6 => ?_)
        replace d4 : A6.eval (.tmp 4) = .map (some Km) := by rw [← hA6]; exact (ev_ne A5 (m := 40) (n := 4) (.slice x.v.A x.v.ls.length x.v.c) (by decide)).trans d4
        replace d5 : A6.eval (.tmp 5) = .pointer (some ⟨b, m * 3, none⟩) := by rw [← hA6]; exact (ev_ne A5 (m := 40) (n := 5) (.slice x.v.A x.v.ls.length x.v.c) (by decide)).trans d5
        replace d36 : A6.eval (.tmp 36) = .map (some Km) := by rw [← hA6]; exact (ev_ne A5 (m := 40) (n := 36) (.slice x.v.A x.v.ls.length x.v.c) (by decide)).trans d36
        have e40 : A6.eval (.tmp 40) = .slice x.v.A x.v.ls.length x.v.c := by rw [← hA6]; exact ev_self A5 40 (.slice x.v.A x.v.ls.length x.v.c) (by omega)
        have szA6 : A6.tmps.size = 98 := by rw [← hA6]; exact (sz_put A5 40 (.slice x.v.A x.v.ls.length x.v.c)).trans szA5
        have HA6 := Lib.hid (show A5.put (some 40) (.slice x.v.A x.v.ls.length x.v.c) = A6 from hA6)
        clear hA6 szA5 d39
        have d40 := e40
        clear e40
        refine wpAnyH_take (i := 6) (v := .pointer (some ⟨b, m * 3, none⟩)) rfl (by kernel_rfl) (by kernel_rfl) (by kernel_rfl) (fun _ _ _ h => h) (.inl ⟨rfl, fun w g => run_moveV rfl d5 w⟩) GS.out ?_
        refine act_letter (fun A7 hA7 => ?_)
        replace d4 : A7.eval (.tmp 4) = .map (some Km) := by rw [← hA7]; exact (ev_ne A6 (m := 42) (n := 4) (.pointer (some ⟨b, m * 3, none⟩)) (by decide)).trans d4
        replace d5 : A7.eval (.tmp 5) = .pointer (some ⟨b, m * 3, none⟩) := by rw [← hA7]; exact (ev_ne A6 (m := 42) (n := 5) (.pointer (some ⟨b, m * 3, none⟩)) (by decide)).trans d5
        replace d36 : A7.eval (.tmp 36) = .map (some Km) := by rw [← hA7]; exact (ev_ne A6 (m := 42) (n := 36) (.pointer (some ⟨b, m * 3, none⟩)) (by decide)).trans d36
        replace d40 : A7.eval (.tmp 40) = .slice x.v.A x.v.ls.length x.v.c := by rw [← hA7]; exact (ev_ne A6 (m := 42) (n := 40) (.pointer (some ⟨b, m * 3, none⟩)) (by decide)).trans d40
        have e42 : A7.eval (.tmp 42) = .pointer (some ⟨b, m * 3, none⟩) := by rw [← hA7]; exact ev_self A6 42 (.pointer (some ⟨b, m * 3, none⟩)) (by omega)
        have szA7 : A7.tmps.size = 98 := by rw [← hA7]; exact (sz_put A6 42 (.pointer (some ⟨b, m * 3, none⟩))).trans szA6
        have HA7 := Lib.hid (show A6.put (some 42) (.pointer (some ⟨b, m * 3, none⟩)) = A7 from hA7)
        clear hA7 szA6
        have d42 := e42
        clear e42
        refine wpAnyH_take (i := 7) (v := .pointer (some ⟨b, m * 3, none⟩)) rfl (by kernel_rfl) (by kernel_rfl) (by kernel_rfl) (fun _ _ _ h => h) (.inl ⟨rfl, fun w g => run_nilD rfl d42 w⟩) GS.out ?_
        refine act_letter (fun A8 hA8 => ?_)
        replace d4 : A8.eval (.tmp 4) = .map (some Km) := by rw [← hA8]; exact (ev_ne A7 (m := 43) (n := 4) (.pointer (some ⟨b, m * 3, none⟩)) (by decide)).trans d4
        replace d5 : A8.eval (.tmp 5) = .pointer (some ⟨b, m * 3, none⟩) := by rw [← hA8]; exact (ev_ne A7 (m := 43) (n := 5) (.pointer (some ⟨b, m * 3, none⟩)) (by decide)).trans d5
        replace d36 : A8.eval (.tmp 36) = .map (some Km) := by rw [← hA8]; exact (ev_ne A7 (m := 43) (n := 36) (.pointer (some ⟨b, m * 3, none⟩)) (by decide)).trans d36
        replace d40 : A8.eval (.tmp 40) = .slice x.v.A x.v.ls.length x.v.c := by rw [← hA8]; exact (ev_ne A7 (m := 43) (n := 40) (.pointer (some ⟨b, m * 3, none⟩)) (by decide)).trans d40
        have e43 : A8.eval (.tmp 43) = .pointer (some ⟨b, m * 3, none⟩) := by rw [← hA8]; exact ev_self A7 43 (.pointer (some ⟨b, m * 3, none⟩)) (by omega)
        have szA8 : A8.tmps.size = 98 := by rw [← hA8]; exact (sz_put A7 43 (.pointer (some ⟨b, m * 3, none⟩))).trans szA7
        have HA8 := Lib.hid (show A7.put (some 43) (.pointer (some ⟨b, m * 3, none⟩)) = A8 from hA8)
        clear hA8 szA7 d42
        have d43 := e43
        clear e43
        refine wpAnyH_take (i := 8) (v := .pointer (some ⟨b, m * 3 + 2, none⟩)) rfl (by kernel_rfl) (by kernel_rfl) (by kernel_rfl) (fun _ _ _ h => h) (.inl ⟨rfl, fun w g => run_fldD (k := 2) rfl (by decide) d43 w⟩) GS.out ?_
        refine act_letter (fun A9 hA9 => ?_)
        replace d4 : A9.eval (.tmp 4) = .map (some Km) := by rw [← hA9]; exact (ev_ne A8 (m := 44) (n := 4) (.pointer (some ⟨b, m * 3 + 2, none⟩)) (by decide)).trans d4
        replace d5 : A9.eval (.tmp 5) = .pointer (some ⟨b, m * 3, none⟩) := by rw [← hA9]; exact (ev_ne A8 (m := 44) (n := 5) (.pointer (some ⟨b, m * 3 + 2, none⟩)) (by decide)).trans d5
        replace d36 : A9.eval (.tmp 36) = .map (some Km) := by rw [← hA9]; exact (ev_ne A8 (m := 44) (n := 36) (.pointer (some ⟨b, m * 3 + 2, none⟩)) (by decide)).trans d36
        replace d40 : A9.eval (.tmp 40) = .slice x.v.A x.v.ls.length x.v.c := by rw [← hA9]; exact (ev_ne A8 (m := 44) (n := 40) (.pointer (some ⟨b, m * 3 + 2, none⟩)) (by decide)).trans d40
        have e44 : A9.eval (.tmp 44) = .pointer (some ⟨b, m * 3 + 2, none⟩) := by rw [← hA9]; exact ev_self A8 44 (.pointer (some ⟨b, m * 3 + 2, none⟩)) (by omega)
        have szA9 : A9.tmps.size = 98 := by rw [← hA9]; exact (sz_put A8 44 (.pointer (some ⟨b, m * 3 + 2, none⟩))).trans szA8
        have HA9 := Lib.hid (show A8.put (some 44) (.pointer (some ⟨b, m * 3 + 2, none⟩)) = A9 from hA9)
        clear hA9 szA8 d43
        have d44 := e44
        clear e44
        refine wpAnyH_take (i := 9) (v := .int .i64 (deps (x.v.ls.take x.i) : Int)) rfl (by kernel_rfl) (by kernel_rfl) (by kernel_rfl) (fun _ _ _ h => h) (.inl ⟨rfl, fun w g => run_ldI rfl d44 (g.cell c2 HNE.out.1)⟩) GS.out ?_
        refine act_letter (fun A10 hA10 => ?_)
        replace d4 : A10.eval (.tmp 4) = .map (some Km) := by rw [← hA10]; exact (ev_ne A9 (m := 45) (n := 4) (.int .i64 (deps (x.v.ls.take x.i) : Int)) (by decide)).trans d4
        replace d5 : A10.eval (.tmp 5) = .pointer (some ⟨b, m * 3, none⟩) := by rw [← hA10]; exact (ev_ne A9 (m := 45) (n := 5) (.int .i64 (deps (x.v.ls.take x.i) : Int)) (by decide)).trans d5
        replace d36 : A10.eval (.tmp 36) = .map (some Km) := by rw [← hA10]; exact (ev_ne A9 (m := 45) (n := 36) (.int .i64 (deps (x.v.ls.take x.i) : Int)) (by decide)).trans d36
        replace d40 : A10.eval (.tmp 40) = .slice x.v.A x.v.ls.length x.v.c := by rw [← hA10]; exact (ev_ne A9 (m := 45) (n := 40) (.int .i64 (deps (x.v.ls.take x.i) : Int)) (by decide)).trans d40
        have e45 : A10.eval (.tmp 45) = .int .i64 (deps (x.v.ls.take x.i) : Int) := by rw [← hA10]; exact ev_self A9 45 (.int .i64 (deps (x.v.ls.take x.i) : Int)) (by omega)
        have szA10 : A10.tmps.size = 98 := by rw [← hA10]; exact (sz_put A9 45 (.int .i64 (deps (x.v.ls.take x.i) : Int))).trans szA9
        have HA10 := Lib.hid (show A9.put (some 45) (.int .i64 (deps (x.v.ls.take x.i) : Int)) = A10 from hA10)
        clear hA10 szA9 d44
        have d45 := e45
        clear e45
        refine wpAnyH_ready (rs := [5]) (by kernel_rfl) (by simp) ?_
        refine AllReadyH.cons rfl (fun K hK => ?_) AllReadyH.nil
        refine wp_callG rfl (rfl) enter_mo (vs := #[.slice x.v.A x.v.ls.length x.v.c]) (by simp [d40]) ((HMO.out _).mono ?_)
        rintro e x1 ⟨rfl, g1⟩
        refine ⟨_, rfl, hK.out _ _ (fr_then GS.out g1) (fun _ => ?_)⟩
        clear hK K
        have S1 := Lib.hid (show (fun w' => Fr w1 w' (fun i => i = Km)) x1 from fr_then GS.out g1)
        have M1 := Lib.hid (MG.out.grew g1)
        clear GS
        refine act_letter (fun A11 hA11 => ?_)
        replace d4 : A11.eval (.tmp 4) = .map (some Km) := by rw [← hA11]; exact (ev_ne A10 (m := 41) (n := 4) (.agg #[.pointer (kq x.v.A x.v.ls.length), .int .i64 (x.v.ls.length : Int)]) (by decide)).trans d4
        replace d5 : A11.eval (.tmp 5) = .pointer (some ⟨b, m * 3, none⟩) := by rw [← hA11]; exact (ev_ne A10 (m := 41) (n := 5) (.agg #[.pointer (kq x.v.A x.v.ls.length), .int .i64 (x.v.ls.length : Int)]) (by decide)).trans d5
        replace d36 : A11.eval (.tmp 36) = .map (some Km) := by rw [← hA11]; exact (ev_ne A10 (m := 41) (n := 36) (.agg #[.pointer (kq x.v.A x.v.ls.length), .int .i64 (x.v.ls.length : Int)]) (by decide)).trans d36
        replace d45 : A11.eval (.tmp 45) = .int .i64 (deps (x.v.ls.take x.i) : Int) := by rw [← hA11]; exact (ev_ne A10 (m := 41) (n := 45) (.agg #[.pointer (kq x.v.A x.v.ls.length), .int .i64 (x.v.ls.length : Int)]) (by decide)).trans d45
        have e41 : A11.eval (.tmp 41) = .agg #[.pointer (kq x.v.A x.v.ls.length), .int .i64 (x.v.ls.length : Int)] := by rw [← hA11]; exact ev_self A10 41 (.agg #[.pointer (kq x.v.A x.v.ls.length), .int .i64 (x.v.ls.length : Int)]) (by omega)
        have szA11 : A11.tmps.size = 98 := by rw [← hA11]; exact (sz_put A10 41 (.agg #[.pointer (kq x.v.A x.v.ls.length), .int .i64 (x.v.ls.length : Int)])).trans szA10
        have HA11 := Lib.hid (show A10.put (some 41) (.agg #[.pointer (kq x.v.A x.v.ls.length), .int .i64 (x.v.ls.length : Int)]) = A11 from hA11)
        clear hA11 szA10 d40
        have d41 := e41
        clear e41
        obtain ⟨X7, hX7, hM7, hF7⟩ := HUP.out _ S1.out M1.out
        have HM7 := Lib.hid hM7
        refine wpAnyH_ready (rs := [10]) (by kernel_rfl) (by simp) ?_
        refine AllReadyH.cons rfl (fun K hK => ?_) AllReadyH.nil
        refine wp_skipG rfl (w' := X7) (run_mupd rfl d36 d41 d45 hX7) (hK.out _ _ (S1.out.trans hF7 (fun i _ e => e)) (fun _ => ?_))
        clear hK K
        have S2 := Lib.hid (show (fun w' => Fr w1 w' (fun i => i = Km)) (X7) from S1.out.trans hF7 (fun i _ e => e))
        clear S1
        refine act_letter (fun A12 hA12 => ?_)
        replace d4 : A12.eval (.tmp 4) = .map (some Km) := by rw [← hA12]; exact d4
        replace d5 : A12.eval (.tmp 5) = .pointer (some ⟨b, m * 3, none⟩) := by rw [← hA12]; exact d5
        replace d36 : A12.eval (.tmp 36) = .map (some Km) := by rw [← hA12]; exact d36
        replace d45 : A12.eval (.tmp 45) = .int .i64 (deps (x.v.ls.take x.i) : Int) := by rw [← hA12]; exact d45
        replace d41 : A12.eval (.tmp 41) = .agg #[.pointer (kq x.v.A x.v.ls.length), .int .i64 (x.v.ls.length : Int)] := by rw [← hA12]; exact d41
        have szA12 : A12.tmps.size = 98 := by rw [← hA12]; exact szA11
        have HA12 := Lib.hid (show A11 = A12 from hA12)
        clear hA12 szA11
        clear hM7
        refine wpAnyH_done (by kernel_rfl) ?_ _
        rw [← HA12.out, ← HA11.out, ← HA10.out, ← HA9.out, ← HA8.out, ← HA7.out, ← HA6.out, ← HA5.out, ← HA4.out, ← HA3.out, ← HA2.out, ← HA1.out]
        clear HA2 HA3 HA4 HA5 HA6 HA7 HA8 HA9 HA10 HA11 HA12 HA1 d4 d5 d36 d45 d41 szA12
        simp only [Act.put, List.setIfInBounds_toArray, List.set_cons_zero, List.set_cons_succ]
        have hs8 := slice_lev X7 b (m + 1) cap m (by have := HI1.out.row.le; rw [List.length_append, HMM.out] at this; simp at this; omega)
        have HRN := Lib.hid (show DR w M f B Km (n - 1) (.slice (some ⟨b, 0, none⟩) m cap) X7 by
          have hch := HI1.out.ch
          rw [HYS.out] at hch
          have hk : deps (x.v.ls.take x.i) = deps x.v.ls := by rw [HEQ.out, List.take_length]
          have hm7 := HM7.out
          rw [hk] at hm7
          refine ⟨b, cap, ys, y, _, by rw [← HMM.out, HYS.out, List.length_append]; rfl, ⟨?_, hch.pop.1, hm7, ?_, ?_, ?_, HI1.out.lo⟩, .inr ⟨x.v, hch.pop.2, ?_, ?_⟩⟩
          · have := HI1.out.row.pop
            rw [HYS.out] at this
            exact this.fr S2.out HNE.out.1
          · have := HI1.out.mi
            rw [List.map_append] at this
            have := this.pop HXI.out.1
            rw [HYS.out] at this
            exact this
          · exact below_fr HI1.out.bel S2.out (fun i e => by have := HI1.out.lo.2.1; omega)
          · exact HI1.out.root.fr S2.out HNE.out.2.1
          · unfold nset; rw [if_pos ⟨rfl, rfl⟩]
          · rcases HL.out with h | ⟨_, h, _⟩
            · rw [HYS.out, low_snoc] at h; omega
            · rw [HEQ.out, List.getElem?_eq_none (Nat.le_refl _)] at h; cases h)
        have HNP := Lib.hid HL.out.pos
        clear c0 c2 S2 HM7 HI1 HL HXI HMO HUP
        go_wp2_with fail
        go_roundw
        case rel => exact ⟨_, HRN.out⟩
        case measure => exact Nat.lt_of_le_of_lt (leastOf_le HRN.out) (by rw [HLO.out]; have := HNP.out; omega)
    · have hlt : x.i < x.v.ls.length := by omega
      have h1' : ((x.i : Int) == (x.v.ls.length : Int)) = false := beq_eq_false_iff_ne.2 (by omega)
      have hltI : (x.i : Int) < (x.v.ls.length : Int) := by omega
      clear h1
      go_quiet (fail)
      have HI1 := Lib.hid (HI.out.grew (grew_drewN (grew_refl wr none) nq))
      clear d0 d1 c0 c1 c2 HI
      generalize wr.drewN nq = w1 at *
      have hrow := HI1.out.row
      obtain ⟨b', o', p, hA, hp, hpm, -, -, -, -, k4⟩ := (HI1.out.lie HF.out).at hlt
      have c0 : w1.cell? ⟨b, m * 3, none⟩ = some (.slice (some ⟨b', o', none⟩) x.v.ls.length x.v.c) := by have := hrow.cell 0 (v := .slice x.v.A x.v.ls.length x.v.c) rfl; rw [HMM.out, hA] at this; exact this
      have c1 : w1.cell? ⟨b, m * 3 + 1, none⟩ = some (.int .i64 (x.i : Int)) := by have := hrow.cell 1 (v := .int .i64 (x.i : Int)) rfl; rw [HMM.out] at this; exact this
      have d0 : ∀ k, (w1.drewN k).cell? ⟨b, m * 3, none⟩ = some (.slice (some ⟨b', o', none⟩) x.v.ls.length x.v.c) := fun _ => c0
      have d1 : ∀ k, (w1.drewN k).cell? ⟨b, m * 3 + 1, none⟩ = some (.int .i64 (x.i : Int)) := fun _ => c1
      have d4 : ∀ k, (w1.drewN k).cell? ⟨b', o' + x.i * 5 + 4, none⟩ = some (.slice p.A p.ls.length p.c) := fun _ => k4
      have HPP := Lib.hid hp
      have HPI := Lib.hid (show p.In w ∧ p.Cx w M from HI1.out.ch.all (P := fun p => p.In w ∧ p.Cx w M) (fun p hp => by simp [rootOf, Nd.ls] at hp; rw [hp]; exact ⟨HF.out, HX.out⟩) (fun p hp q hq => ⟨hp.1.parts q hq, hp.2.parts q hq⟩) p hpm)
      have hplen : p.ls.length ≤ 1954687338268 := HPI.out.1.list.2.2
      have HMO := Lib.hid (fun w' => memof_any w' p.A p.ls.length p.c (fun h => by obtain ⟨b', o, e, _⟩ := HPI.out.1.list.1 h; exact ⟨b', o, e⟩) hplen)
      clear hA hp hpm hrow h1' k4 c0 c1
      go_upto_region 9 with (fail)
      go_quiet (fail)
      have HI2 := Lib.hid (HI1.out.grew (grew_drewN (grew_refl w1 none) nq))
      clear d0 d1 d4 HI1
      generalize w1.drewN nq = w2 at *
      go_wp2_with fail
      refine (HMO.out _).mono ?_
      rintro e w3 ⟨rfl, g3⟩
      have HI3 := Lib.hid (HI2.out.grew g3)
      obtain ⟨r, hr⟩ : ∃ r, g p.key p.ls.length = r := ⟨_, rfl⟩
      have hlk := run_nlookup HI3.out.map HI3.out.bel HM.out p.ls.length HPI.out.2.kx
      change (Instr.lookup 56 (.map (some Km)) (.agg #[.pointer (kq p.A p.ls.length), .int .i64 (p.ls.length : Int)]) true).run Tryd.prog w3 = .ok (ngot (g p.key p.ls.length)) w3 at hlk
      rw [hr] at hlk
      have HRR := Lib.hid hr
      clear g3 HI2 hr
      have HNE := Lib.hid HI3.out.ne
      have HNP := Lib.hid HL.out.pos
      cases r with
      | none =>
        rw [show ngot none = .tuple #[.int .i64 0, .bool false] from rfl] at hlk
        go_wp2_with fail
        refine (HMO.out _).mono ?_
        rintro e w4 ⟨rfl, g4⟩
        have HI4 := Lib.hid (HI3.out.grew g4)
        obtain ⟨w5, hup, hm5, hf5⟩ := run_nupdate HI4.out.map HI4.out.bel HM.out p.ls.length HPI.out.2.kx (.int .i64 (-1))
        change (Instr.mapUpdate 56 (.map (some Km)) (.agg #[.pointer (kq p.A p.ls.length), .int .i64 (p.ls.length : Int)]) (.int .i64 (-1))).run Tryd.prog w4 = .ok () w5 at hup
        have HM5 := Lib.hid (And.intro hm5 hf5)
        obtain ⟨L, hL⟩ : ∃ L, xs ++ [x] = L := ⟨_, rfl⟩
        have hLl : L.length = m + 1 := by rw [← hL, List.length_append, HMM.out]; rfl
        have hrow5 := HI4.out.row.fr hf5 HNE.out.1
        rw [hL] at hrow5
        have hap := fun ty => append_level (w5.alloc (.cells #[.slice p.A p.ls.length p.c, .int .i64 0, .int .i64 0] 54)) (hrow5.fr (Fr.of_grew (grew_alloc (grew_refl w5 none) _)) (fun e => by cases e)) ⟨p, 0⟩ (Whole.new _ _ _) 1 (by omega) ty
        simp only [hLl, List.length_append, List.length_singleton] at hap
        have HAP := Lib.hid hap
        have HLL := Lib.hid (And.intro hL hLl)
        clear g4 HI3 hlk hm5 hf5 hrow5 hap hL hLl
        go_wp2_with (at_builtin; refine wpList_append_run _ rfl (.tmp 74) (.tmp 77) 55 rfl rfl rfl HAP.out ?_; rintro vN w6 ⟨b6, cap6, rfl, r6, g6, hb6⟩; have HR6 := Lib.hid (And.intro r6 (And.intro g6 hb6)); clear r6 g6 hb6)
        have HRN := Lib.hid (show DR w M f B Km (n - 1) (.slice (some ⟨b6, 0, none⟩) (m + 1 + 1) cap6) w6 by
          have g6 : Fr w5 w6 (fun i => i = b) := (Fr.of_grew (grew_alloc (grew_refl w5 none) _) |>.mono (G := fun i => i = b) (fun i _ e => by cases e)).trans (Fr.of_grew HR6.out.2.1 |>.mono (fun i _ e => by cases e; rfl)) (fun _ _ e => e)
          have hb5 : b < w5.heap.size := Nat.lt_of_lt_of_le HI4.out.row.lt HM5.out.2.size
          have hb6 : w.heap.size ≤ b6 := by
            have h1 := HI4.out.lo.1
            rcases HR6.out.2.2 with e | e
            · omega
            · rw [World.size_alloc] at e; omega
          refine ⟨b6, cap6, L, ⟨p, 0⟩, _, by rw [HLL.out.2], ⟨HR6.out.1, ?_, HM5.out.1.fr g6 (fun e => HNE.out.1 e.symm), ?_, ?_, ?_, hb6, HI4.out.lo.2⟩, .inl ?_⟩
          · rw [← HLL.out.1]; exact .push 0 HI4.out.ch HPP.out (Nat.zero_le _)
          · have := HI4.out.mi.push HPI.out.1
            rw [HLL.out.1] at this
            rw [List.map_append]
            exact this
          · exact below_fr (below_fr HI4.out.bel HM5.out.2 (fun i e => by have := HI4.out.lo.2.1; omega)) g6 (fun i e => by have := HI4.out.lo.1; omega)
          · exact (HI4.out.root.fr HM5.out.2 HNE.out.2.1).fr g6 (fun e => HNE.out.2.2 e.symm)
          · rw [← HLL.out.1, low_snoc]
            rcases HL.out with h | ⟨q, h, h2, _⟩
            · rw [wks_drop HPP.out, wk_eq] at h
              simp only [List.drop_zero]
              omega
            · rw [HPP.out] at h
              cases h
              rw [HRR.out] at h2
              cases h2)
        clear HR6 HM5 HI4 HL HMO
        go_roundw
        case rel => exact ⟨_, HRN.out⟩
        case measure => exact Nat.lt_of_le_of_lt (leastOf_le HRN.out) (by rw [HLO.out]; have := HNP.out; omega)
      | some v =>
        have hv := HI3.out.mi.met HI3.out.ch HPP.out HPI.out.1 HRR.out
        subst hv
        rw [show ngot (some (Value.int .i64 (deps p.ls : Int))) = .tuple #[.int .i64 (deps p.ls : Int), .bool true] from rfl] at hlk
        have hrow := HI3.out.row
        have c1 : w3.cell? ⟨b, m * 3 + 1, none⟩ = some (.int .i64 (x.i : Int)) := by have := hrow.cell 1 (v := .int .i64 (x.i : Int)) rfl; rw [HMM.out] at this; exact this
        have c2 : w3.cell? ⟨b, m * 3 + 2, none⟩ = some (.int .i64 (deps (x.v.ls.take x.i) : Int)) := by have := hrow.cell 2 (v := .int .i64 (deps (x.v.ls.take x.i) : Int)) rfl; rw [HMM.out] at this; exact this
        have zf := hrow.frozen
        have HDT := Lib.hid (deps_take HPP.out)
        have hdp := dep_le_deps' (List.mem_of_getElem? HPP.out)
        have hch := HI3.out.ch.dep.1
        have hDI : (deps p.ls : Int) ≤ 1000001 := by
          have h1 := dep_le_cnt f
          have h2 : (rootOf B f).dep = f.dep + 1 := by simp [rootOf, Nd.dep, deps]
          have h3 := HN.out
          have h4 := dep_deps x.v
          have h5 := dep_deps p
          omega
        have hDE : (deps (x.v.ls.take x.i) : Int) ≤ 1000001 := by
          have h1 := dep_le_cnt f
          have h2 : (rootOf B f).dep = f.dep + 1 := by simp [rootOf, Nd.dep, deps]
          have h3 := HN.out
          have h4 := dep_deps x.v
          have h5 := deps_append (x.v.ls.take x.i) (x.v.ls.drop x.i)
          rw [List.take_append_drop] at h5
          omega
        have hne : ((deps p.ls : Int) == -1) = false := beq_eq_false_iff_ne.2 (by omega)
        rw [dep_deps] at HDT
        obtain ⟨D, hD⟩ : ∃ D, deps p.ls = D := ⟨_, rfl⟩
        obtain ⟨E, hE⟩ : ∃ E, deps (x.v.ls.take x.i) = E := ⟨_, rfl⟩
        rw [hD] at hlk hne hDI HDT HRR
        rw [hE] at c2 hDE HDT
        have HDE := Lib.hid (And.intro hD hE)
        clear hrow hdp hch hD hE
        have hmx : (if (E : Int) < 1 + (D : Int) then 1 + (D : Int) else (E : Int)) = ((max E (D + 1) : Nat) : Int) := by split <;> omega
        go_upto_region 17 with (fail)
        clear hmx
        have hMD : ((max E (D + 1) : Nat) : Int) ≤ 2000003 := by omega
        generalize max E (D + 1) = MD at *
        have hr2 : (w3.setCell ⟨b, m * 3 + 2, none⟩ (.int .i64 (MD : Int))).cell? ⟨b, m * 3 + 1, none⟩ = some (.int .i64 (x.i : Int)) := by
          obtain ⟨cur, hW⟩ := HI3.out.row.whole
          have h1 := c1
          rw [hW.cell] at h1
          rw [(hW.set _ _).cell]
          simpa using h1
        have zf2 : ∀ i, (w3.setCell ⟨b, m * 3 + 2, none⟩ (.int .i64 (MD : Int))).frozen? ⟨b, i, none⟩ = false := by
          obtain ⟨cur, hW⟩ := HI3.out.row.whole
          exact fun i => (hW.set _ _).frozen i
        have HRN := Lib.hid (show DR w M f B Km (n - 1) (.slice (some ⟨b, 0, none⟩) (m + 1) cap) ((w3.setCell ⟨b, m * 3 + 2, none⟩ (.int .i64 (MD : Int))).setCell ⟨b, m * 3 + 1, none⟩ (.int .i64 ((x.i : Int) + 1))) by
          have F3 : Fr w3 ((w3.setCell ⟨b, m * 3 + 2, none⟩ (.int .i64 (MD : Int))).setCell ⟨b, m * 3 + 1, none⟩ (.int .i64 ((x.i : Int) + 1))) (fun i => i = b) := ((Fr.refl w3 (fun i => i = b)).set (.inl rfl) _ none _).set (.inl rfl) _ none _
          have hsum := wks_drop HPP.out
          have hwk := wk_eq p
          refine ⟨b, cap, xs, ⟨x.v, x.i + 1⟩, g, by rw [HMM.out], ⟨?_, HI3.out.ch.next hlt, HI3.out.map.fr F3 (fun e => HNE.out.1 e.symm), ?_, ?_, HI3.out.root.fr F3 (fun e => HNE.out.2.2 e.symm), HI3.out.lo⟩, ?_⟩
          · have r0 := HI3.out.row
            obtain ⟨cur, hW⟩ := r0.whole
            rcases r0.2 with ⟨h1, _⟩ | ⟨b', cap', cur', h1, h2, hh, hnc, h3, hsz, ht⟩
            · cases h1
            · injection h1 with h1 _ h5
              injection h1 with h1
              injection h1 with h1 _ _
              subst h1 h5
              have hW' : Whole w3 b cur' 54 := hh
              refine ⟨by rw [lvs_length], .inr ⟨b, cap, (cur'.setIfInBounds (m * 3 + 2) (.int .i64 (MD : Int))).setIfInBounds (m * 3 + 1) (.int .i64 ((x.i : Int) + 1)), by simp, Nat.zero_le _, (hW'.set _ _).set _ _, by simpa using hnc, h3, by simpa using hsz, ?_⟩⟩
              rw [Array.toList_setIfInBounds, Array.toList_setIfInBounds, List.take_set, List.take_set, show (xs ++ [(⟨x.v, x.i + 1⟩ : Lv)]).length = (xs ++ [x]).length by simp, ht, lvs_append, lvs_append, ← HMM.out, List.set_append, if_neg (by rw [lvs_length]; omega), List.set_append, if_neg (by rw [lvs_length]; omega), lvs_length]
              congr 1
              rw [show xs.length * 3 + 2 - xs.length * 3 = 2 by omega, show xs.length * 3 + 1 - xs.length * 3 = 1 by omega]
              have e1 : lvs [x] = [.slice x.v.A x.v.ls.length x.v.c, .int .i64 (x.i : Int), .int .i64 (deps (x.v.ls.take x.i) : Int)] := by simp [lvs, Lv.cells]
              have e2 : lvs [(⟨x.v, x.i + 1⟩ : Lv)] = [.slice x.v.A x.v.ls.length x.v.c, .int .i64 ((x.i + 1 : Nat) : Int), .int .i64 (deps (x.v.ls.take (x.i + 1)) : Int)] := by simp [lvs, Lv.cells]
              rw [e1, e2, HDT.out]
              rfl
          · have := HI3.out.mi
            rw [List.map_append] at this ⊢
            exact this
          · exact below_fr HI3.out.bel F3 (fun i e => by have := HI3.out.lo.1; omega)
          · refine .inl ?_
            rcases HL.out with h | ⟨q, _, _, h⟩
            · simp only; omega
            · simp only; omega)
        clear HI3 hlk c1 c2 zf HL HMO
        go_wp2_with fail
        go_roundw
        case rel => exact ⟨_, HRN.out⟩
        case measure => exact Nat.lt_of_le_of_lt (leastOf_le HRN.out) (by rw [HLO.out]; have := HNP.out; omega)
end Go.Proofs.YtnjnghbonmdbdaaDoor


/- What is put is read, whatever stands behind it; cut off it is told so (of plain lists). -/
namespace Go.Proofs.YtnjnghbonmdbdaaDoor
open Go.RowKit

theorem lenB_split {n : Nat} (h0 : ¬ n < 128) (h1 : n < 16777216) : ∃ t, lenB n = .ofNat (128 + nd n) :: t ∧ t.length = nd n ∧ bval t = n ∧ 0 < nd n := by
  unfold lenB nd
  rw [if_neg h0, if_neg h0]
  by_cases g1 : n < 256
  · rw [if_pos g1, if_pos g1]
    exact ⟨[.ofNat n], rfl, rfl, by simp [bval]; omega, by omega⟩
  · rw [if_neg g1, if_neg g1]
    by_cases g2 : n < 65536
    · rw [if_pos g2, if_pos g2]
      exact ⟨[.ofNat (n / 256), .ofNat (n % 256)], rfl, rfl, by simp [bval]; omega, by omega⟩
    · rw [if_neg g2, if_neg g2]
      exact ⟨[.ofNat (n / 65536), .ofNat (n / 256 % 256), .ofNat (n % 256)], rfl, rfl, by simp [bval]; omega, by omega⟩
/-- The first byte of a head that there is tells it. -/
theorem fb_tells {c t : Int} {m : Bool} (hk : kd c t m = true) : hdC (.ofNat (fb c t m)) = c ∧ hdT (.ofNat (fb c t m)) = t ∧ hdM (.ofNat (fb c t m)) = m := by
  obtain ⟨hc, ht0, ht1⟩ := kd_bounds hk
  obtain ⟨k, rfl⟩ := Int.eq_ofNat_of_zero_le ht0
  have hk31 : k < 31 := by omega
  have key : ∀ k, k < 31 → ∀ m, (hdC (.ofNat (fb 0 (k : Nat) m)) = 0 ∧ hdT (.ofNat (fb 0 (k : Nat) m)) = (k : Nat) ∧ hdM (.ofNat (fb 0 (k : Nat) m)) = m) ∧ (hdC (.ofNat (fb 2 (k : Nat) m)) = 2 ∧ hdT (.ofNat (fb 2 (k : Nat) m)) = (k : Nat) ∧ hdM (.ofNat (fb 2 (k : Nat) m)) = m) := by decide +kernel
  rcases hc with rfl | rfl
  · exact (key k hk31 m).1
  · exact (key k hk31 m).2
theorem rdH_put (h : Hd) (hk : kd h.c h.t h.m = true) (hl : 0 ≤ h.l ∧ h.l ≤ 16777215) (zs : List UInt8) : rdH (putH h ++ zs) = (h, (putH h).length, 0) := by
  obtain ⟨c, t, m, l⟩ := h
  dsimp only at hk hl
  obtain ⟨n, rfl⟩ := Int.eq_ofNat_of_zero_le hl.1
  obtain ⟨e1, e2, e3⟩ := fb_tells hk
  have ep : putH ⟨c, t, m, (n : Int)⟩ = .ofNat (fb c t m) :: lenB n := by show _ :: lenB ((n : Int)).toNat = _; rw [Int.toNat_natCast]
  rw [ep, List.cons_append, rdH_rl _ _ (by rw [e1, e2, e3]; exact hk), e1, e2, e3]
  have er : rl (lenB n ++ zs) = (n, 1 + (lenB n).length, 0) := by
    by_cases h0 : n < 128
    · rw [lenB_low h0]
      have hb : (UInt8.ofNat n).toNat = n := by simp; omega
      unfold rl
      simp only [List.cons_append, List.nil_append, hb]
      rw [if_pos h0]
      rfl
    · obtain ⟨t', et, hlen, hbv, hpos⟩ := lenB_split h0 (by omega)
      have h3 := nd_le n
      have hb : (UInt8.ofNat (128 + nd n)).toNat = 128 + nd n := by simp; omega
      rw [et]
      unfold rl
      simp only [List.cons_append, hb]
      have ek : 128 + nd n - 128 = nd n := by omega
      have etk : (t' ++ zs).take (nd n) = t' := by rw [← hlen]; exact List.take_left
      rw [if_neg (by omega), if_neg (by omega), ek, if_neg (by rw [List.length_append]; omega), etk, hbv, if_neg (by omega)]
      simp
      omega
  rw [er]
  simp
  omega
theorem rdH_cut (h : Hd) (hk : kd h.c h.t h.m = true) (hl : 0 ≤ h.l ∧ h.l ≤ 16777215) (i : Nat) (hi : i < (putH h).length) : rdH ((putH h).take i) = (.z, i, 4) := by
  obtain ⟨c, t, m, l⟩ := h
  dsimp only at hk hl
  obtain ⟨n, rfl⟩ := Int.eq_ofNat_of_zero_le hl.1
  obtain ⟨e1, e2, e3⟩ := fb_tells hk
  have ep : putH ⟨c, t, m, (n : Int)⟩ = .ofNat (fb c t m) :: lenB n := by show _ :: lenB ((n : Int)).toNat = _; rw [Int.toNat_natCast]
  rw [ep] at hi ⊢
  cases i with
  | zero => rfl
  | succ i =>
    rw [List.take_succ_cons]
    have hkk : kd (hdC (.ofNat (fb c t m))) (hdT (.ofNat (fb c t m))) (hdM (.ofNat (fb c t m))) = true := by rw [e1, e2, e3]; exact hk
    cases i with
    | zero => rw [List.take_zero]; exact rdH_one hkk
    | succ i =>
      have h0 : ¬ n < 128 := by
        intro h0
        rw [lenB_low h0] at hi
        simp at hi
        omega
      obtain ⟨t', et, hlen, hbv, hpos⟩ := lenB_split h0 (by omega)
      have h3 := nd_le n
      have hb : (UInt8.ofNat (128 + nd n)).toNat = 128 + nd n := by simp; omega
      rw [et] at hi ⊢
      simp only [List.length_cons] at hi
      rw [List.take_succ_cons, rdH_few hkk (by rw [hb]; omega) (by rw [hb]; omega) (by rw [hb, List.length_take]; omega)]
      rw [List.length_take, Nat.min_eq_left (by omega)]
theorem putH_len (h : Hd) : 2 ≤ (putH h).length ∧ (putH h).length ≤ 5 := by
  have h3 := nd_le h.l.toNat
  have := lenB_length h.l.toNat
  simp only [putH, List.length_cons]
  omega
end Go.Proofs.YtnjnghbonmdbdaaDoor


/- What is written is read as it was, whatever stands behind it. -/
namespace Go.Proofs.YtnjnghbonmdbdaaDoor
open Go.RowKit

namespace Nd
/-- What it takes to be right. -/
theorem wn_ok {k t : Int} {m : Bool} {B : Option Addr} {d : Nat} {bs : List UInt8} {A : Option Addr} {c : Nat} {ls : List Nd} (h : (wn (mk k t m B d bs A c ls)).2 = 0) :
    kd k t m = true ∧ (m = true → bs = []) ∧ (m = false → ls = []) ∧ (k = 0 → m = false → ckE t bs = 0) ∧ (wns ls).2 = 0 ∧ (bs ++ (wns ls).1).length ≤ 16777215 ∧
      wn (mk k t m B d bs A c ls) = (putH ⟨k, t, m, ((bs ++ (wns ls).1).length : Int)⟩ ++ (bs ++ (wns ls).1), 0) := by
  rw [wn] at h ⊢
  by_cases h1 : kd k t m = false
  · rw [if_pos h1] at h; exact absurd (show (13 : Int) = 0 from h) (by decide)
  rw [if_neg h1] at h ⊢
  by_cases h2 : (m = true ∧ 0 < bs.length) ∨ (m = false ∧ 0 < ls.length)
  · rw [if_pos h2] at h; exact absurd (show (15 : Int) = 0 from h) (by decide)
  rw [if_neg h2] at h ⊢
  by_cases h3 : k = 0 ∧ m = false ∧ ckE t bs ≠ 0
  · rw [if_pos h3] at h; exact absurd (show (13 : Int) = 0 from h) (by decide)
  rw [if_neg h3] at h ⊢
  by_cases h4 : (wns ls).2 ≠ 0
  · rw [if_pos h4] at h; exact absurd h h4
  rw [if_neg h4] at h ⊢
  by_cases h5 : 16777215 < (bs ++ (wns ls).1).length
  · rw [if_pos h5] at h; exact absurd (show (5 : Int) = 0 from h) (by decide)
  rw [if_neg h5]
  refine ⟨by cases hk : kd k t m with | true => rfl | false => exact absurd hk h1, fun hm => ?_, fun hm => ?_, fun hk hm => ?_, Classical.not_not.1 h4, by omega, rfl⟩
  · exact List.eq_nil_of_length_eq_zero (by rcases Nat.eq_zero_or_pos bs.length with h | h; exact h; exact absurd (.inl ⟨hm, h⟩) h2)
  · exact List.eq_nil_of_length_eq_zero (by rcases Nat.eq_zero_or_pos ls.length with h | h; exact h; exact absurd (.inr ⟨hm, h⟩) h2)
  · exact Classical.not_not.1 (fun h => h3 ⟨hk, hm, h⟩)
theorem wns_cons {p : Nd} {ps : List Nd} (h : (wns (p :: ps)).2 = 0) : (wn p).2 = 0 ∧ (wns ps).2 = 0 ∧ wns (p :: ps) = ((wn p).1 ++ (wns ps).1, 0) := by
  rw [wns] at h ⊢
  by_cases h1 : (wn p).2 ≠ 0
  · rw [if_pos h1] at h; exact absurd h h1
  rw [if_neg h1] at h ⊢
  by_cases h2 : (wns ps).2 ≠ 0
  · rw [if_pos h2] at h; exact absurd h h2
  rw [if_neg h2]
  exact ⟨Classical.not_not.1 h1, Classical.not_not.1 h2, rfl⟩
theorem dep_le_deps {ls : List Nd} {p : Nd} (h : p ∈ ls) : p.dep ≤ deps ls := by
  induction ls with
  | nil => cases h
  | cons x xs ih =>
    simp only [deps]
    rcases List.mem_cons.1 h with rfl | h
    · omega
    · have := ih h; omega
theorem wn_two {v : Nd} (h : v.wn.2 = 0) : 2 ≤ v.wn.1.length := by
  obtain ⟨k, t, m, B, d, bs, A, c, ls⟩ := v
  rw [(wn_ok h).2.2.2.2.2.2]
  dsimp only
  have := putH_ge2 ⟨k, t, m, ((bs ++ (wns ls).1).length : Int)⟩
  rw [List.length_append]
  omega
end Nd
open Nd

/-- Things, one behind the other. -/
theorem lstN_wns (g : List UInt8 → Rn) : ∀ (ls : List Nd), (∀ p ∈ ls, ∀ zs, (wn p).2 = 0 → g ((wn p).1 ++ zs) = ⟨0, (wn p).1.length, nf p⟩) → (wns ls).2 = 0 → ∀ (kf : Nat) (acc : List Nd) (o : Nat), (wns ls).1.length ≤ kf →
    lstN g kf acc o (wns ls).1 = (0, o + (wns ls).1.length, acc ++ nfs ls) := by
  intro ls
  induction ls with
  | nil =>
    intro _ _ kf acc o _
    rw [show (wns []) = ([], 0) from wns.eq_1, lstN_end]
    simp [nfs]
  | cons p ps ih =>
    intro hg h kf acc o hk
    obtain ⟨h1, h2, h3⟩ := wns_cons h
    rw [h3] at hk ⊢
    dsimp only at hk ⊢
    have hp2 := wn_two h1
    rw [List.length_append] at hk
    obtain ⟨kg, rfl⟩ : ∃ kg, kf = kg + 1 := ⟨kf - 1, by omega⟩
    have hgp := hg p (by simp) (wns ps).1 h1
    rw [lstN_step (by rw [List.length_append]; omega) (by rw [hgp]), hgp]
    dsimp only
    rw [List.drop_left, ih (fun q hq => hg q (by simp [hq])) h2 kg _ _ (by omega), List.length_append, nfs, List.append_assoc]
    congr 2
    omega

/-- A thing that is right, not too deep, is read as it was, whatever stands behind it. -/
theorem rn_wn : ∀ (f : Nd) (n : Nat) (zs : List UInt8), (wn f).2 = 0 → f.dep ≤ n → rn n ((wn f).1 ++ zs) = ⟨0, (wn f).1.length, nf f⟩ := by
  refine Nd.ind fun k t m B d bs A c ls ih => ?_
  intro n zs h hd
  obtain ⟨hk, hm1, hm0, hck, hw, hlen, hwn⟩ := wn_ok h
  have hdd : (Nd.mk k t m B d bs A c ls).dep = deps ls + 1 := rfl
  obtain ⟨n, rfl⟩ : ∃ n', n = n' + 1 := ⟨n - 1, by omega⟩
  rw [hwn]
  dsimp only
  obtain ⟨al, hal⟩ : ∃ al, bs ++ (wns ls).1 = al := ⟨_, rfl⟩
  rw [hal] at hlen ⊢
  have hr := rdH_put ⟨k, t, m, (al.length : Int)⟩ hk ⟨by dsimp only; omega, by dsimp only; omega⟩ (al ++ zs)
  rw [rn, List.append_assoc, hr]
  dsimp only
  obtain ⟨H, hH⟩ : ∃ H, putH ⟨k, t, m, (al.length : Int)⟩ = H := ⟨_, rfl⟩
  rw [hH, if_neg (by simp), if_neg (by simp only [List.length_append]; omega), List.drop_left, show ((al.length : Int)).toNat = al.length from rfl, List.take_left, List.length_append]
  cases m with
  | false =>
    obtain rfl := hm0 rfl
    have hb : al = bs := by rw [← hal, wns.eq_1]; simp
    rw [if_pos rfl, hb, if_neg (fun h => h.2 (hck h.1 rfl))]
    rfl
  | true =>
    obtain rfl := hm1 rfl
    have hb : al = (wns ls).1 := by rw [← hal]; simp
    rw [if_neg (by simp), hb, lstN_wns (rn n) ls (fun p hp zs h => ih p hp n zs h (by have := dep_le_deps hp; omega)) hw _ _ _ (Nat.le_refl _)]
    dsimp only
    rw [if_pos rfl]
    rfl
end Go.Proofs.YtnjnghbonmdbdaaDoor


/- What is read is written as those bytes. -/
namespace Go.Proofs.YtnjnghbonmdbdaaDoor
open Go.RowKit Nd

theorem Nd.wn_mk {k t : Int} {m : Bool} {B : Option Addr} {d : Nat} {bs : List UInt8} {A : Option Addr} {c : Nat} {ls : List Nd} {al : List UInt8} (h1 : kd k t m = true) (h2 : m = true → bs = []) (h3 : m = false → ls = []) (h4 : k = 0 → m = false → ckE t bs = 0) {ws : List UInt8} (h5 : wns ls = (ws, 0)) (hal : bs ++ ws = al) (h6 : al.length ≤ 16777215) :
    wn (mk k t m B d bs A c ls) = (putH ⟨k, t, m, (al.length : Int)⟩ ++ al, 0) := by
  rw [wn, if_neg (by rw [h1]; simp), if_neg, if_neg (fun h => h.2.2 (h4 h.1 h.2.1)), h5]
  · dsimp only
    rw [if_neg (by simp), hal, if_neg (by omega)]
  · rintro (⟨hm, h⟩ | ⟨hm, h⟩)
    · rw [h2 hm] at h; simp at h
    · rw [h3 hm] at h; simp at h

theorem lstN_back (g : List UInt8 → Rn) (n : Nat) (hg : ∀ ys, (g ys).e = 0 → 2 ≤ (g ys).n ∧ (g ys).n ≤ ys.length ∧ wn (g ys).v = (ys.take (g ys).n, 0) ∧ (g ys).v.dep ≤ n) :
    ∀ (kf : Nat) (acc : List Nd) (o : Nat) (ys : List UInt8), ys.length ≤ kf → (lstN g kf acc o ys).1 = 0 → ∃ us, (lstN g kf acc o ys).2.2 = acc ++ us ∧ wns us = (ys, 0) ∧ deps us ≤ n := by
  intro kf
  induction kf with
  | zero =>
    intro acc o ys hl _
    obtain rfl : ys = [] := List.eq_nil_of_length_eq_zero (by omega)
    exact ⟨[], by rw [lstN_end]; simp, wns.eq_1, by simp [deps]⟩
  | succ kf ih =>
    intro acc o ys hl h
    by_cases h0 : ys.length = 0
    · obtain rfl : ys = [] := List.eq_nil_of_length_eq_zero h0
      exact ⟨[], by rw [lstN_end]; simp, wns.eq_1, by simp [deps]⟩
    by_cases he : (g ys).e = 0
    · obtain ⟨h2, hle, hw, hd⟩ := hg ys he
      rw [lstN_step h0 he] at h ⊢
      obtain ⟨us, e1, e2, e3⟩ := ih (acc ++ [(g ys).v]) (o + (g ys).n) (ys.drop (g ys).n) (by rw [List.length_drop]; omega) h
      refine ⟨(g ys).v :: us, by rw [e1]; simp, ?_, by simp only [deps]; omega⟩
      rw [wns, hw, e2]
      dsimp only
      rw [if_neg (by simp), if_neg (by simp), List.take_append_drop]
    · rw [lstN_stop h0 he] at h
      exact absurd h he

/-- A thing that was read is right, and its bytes are those. -/
theorem wn_rn : ∀ (n : Nat) (xs : List UInt8), (rn n xs).e = 0 → wn (rn n xs).v = (xs.take (rn n xs).n, 0) ∧ (rn n xs).v.dep ≤ n
  | 0, xs, h => absurd (show (14 : Int) = 0 from h) (by decide)
  | n + 1, xs, h => by
    have hh := rdH_good xs
    rw [rn] at h ⊢
    obtain ⟨r, hr⟩ : ∃ r, rdH xs = r := ⟨_, rfl⟩
    rw [hr] at hh h ⊢
    obtain ⟨⟨k, t, m, l⟩, z, e⟩ := r
    dsimp only at hh h ⊢
    by_cases h1 : e ≠ 0
    · rw [if_pos h1] at h; exact absurd h h1
    rw [if_neg h1] at h ⊢
    obtain ⟨_, hk, ⟨hl0, hl1⟩, hz, hp⟩ := hh.resolve_left (fun h => h1 h.1)
    by_cases h2 : (xs.length : Int) - (z : Int) < l
    · rw [if_pos h2] at h; exact absurd (show (4 : Int) = 0 from h) (by decide)
    rw [if_neg h2] at h ⊢
    obtain ⟨N, rfl⟩ := Int.eq_ofNat_of_zero_le hl0
    rw [show ((N : Int)).toNat = N from rfl] at h ⊢
    obtain ⟨ys, hys⟩ := hp
    obtain ⟨H, hH⟩ : ∃ H, putH ⟨k, t, m, (N : Int)⟩ = H := ⟨_, rfl⟩
    rw [hH] at hz hys
    subst hz hys
    rw [List.drop_left] at h ⊢
    rw [List.length_append] at h2
    have hbl : (ys.take N).length = N := by rw [List.length_take]; omega
    have htk : (H ++ ys).take (H.length + N) = H ++ ys.take N := by
      rw [List.take_append, List.take_of_length_le (by omega), show H.length + N - H.length = N by omega]
    cases m with
    | false =>
      rw [if_pos rfl] at h ⊢
      by_cases h3 : k = 0 ∧ ckE t (ys.take N) ≠ 0
      · rw [if_pos h3] at h; exact absurd (show (13 : Int) = 0 from h) (by decide)
      rw [if_neg h3]
      dsimp only
      refine ⟨?_, by simp [dep, deps]⟩
      rw [htk, Nd.wn_mk hk (fun h => by cases h) (fun _ => rfl) (fun hk _ => Classical.not_not.1 (fun h => h3 ⟨hk, h⟩)) (ws := []) wns.eq_1 (List.append_nil _) (by omega), hbl, hH]
    | true =>
      rw [if_neg (by simp)] at h ⊢
      try dsimp only at h ⊢
      have key := lstN_back (rn n) n (fun zs he => ⟨(rn_good n zs).2.1 he, (rn_good n zs).1, wn_rn n zs he⟩) N [] H.length (ys.take N) (by omega)
      obtain ⟨r, hr2⟩ : ∃ r, lstN (rn n) N [] H.length (ys.take N) = r := ⟨_, rfl⟩
      rw [hr2] at h key ⊢
      by_cases h3 : r.1 = 0
      · rw [if_pos h3]
        obtain ⟨us, e1, e2, e3⟩ := key h3
        dsimp only
        rw [e1, List.nil_append]
        refine ⟨?_, by simp only [dep]; omega⟩
        rw [htk, Nd.wn_mk hk (fun _ => rfl) (fun h => by cases h) (fun _ h => by cases h) e2 (List.nil_append _) (by omega), hbl, hH]
      · rw [if_neg h3] at h; exact absurd h h3
end Go.Proofs.YtnjnghbonmdbdaaDoor


/- How many bytes a thing has; a thing that is cut off; what the laws ask of what is read and written. -/
namespace Go.Proofs.YtnjnghbonmdbdaaDoor
open Go.RowKit Nd

theorem Nd.wns_small {ls : List Nd} (h : ∀ p ∈ ls, (wn p).1.length ≤ 5 * cnt p) : (wns ls).1.length ≤ 5 * cnts ls := by
  induction ls with
  | nil => rw [wns.eq_1]; simp
  | cons p ps ih =>
    have h1 := h p (by simp)
    have h2 := ih (fun q hq => h q (by simp [hq]))
    rw [wns]
    simp only [cnts]
    split
    · simp
    split
    · simp
    · rw [List.length_append]; omega
theorem Nd.wn_small : ∀ v : Nd, (wn v).1.length ≤ 5 * cnt v := by
  refine Nd.ind fun k t m B d bs A c ls ih => ?_
  by_cases h : (wn (.mk k t m B d bs A c ls)).2 = 0
  · have h1 := Nd.wns_small ih
    have h2 := putH_le5 ⟨k, t, m, ((bs ++ (wns ls).1).length : Int)⟩
    rw [(wn_ok h).2.2.2.2.2.2]
    dsimp only
    rw [List.length_append]
    have h3 : (bs ++ (wns ls).1).length = bs.length + (wns ls).1.length := List.length_append
    have : (Nd.mk k t m B d bs A c ls).cnt = cnts ls + bs.length + 1 := rfl
    omega
  · rw [wn_err _ h]; simp
theorem Nd.cnts_le_wns {ls : List Nd} (h : ∀ p ∈ ls, (wn p).2 = 0 → cnt p ≤ (wn p).1.length) (h0 : (wns ls).2 = 0) : cnts ls ≤ (wns ls).1.length := by
  induction ls with
  | nil => simp [cnts]
  | cons p ps ih =>
    obtain ⟨h1, h2, h3⟩ := wns_cons h0
    have k1 := h p (by simp) h1
    have k2 := ih (fun q hq => h q (by simp [hq])) h2
    rw [h3]
    simp only [cnts, List.length_append]
    omega
theorem Nd.cnt_le_wn : ∀ v : Nd, (wn v).2 = 0 → cnt v ≤ (wn v).1.length := by
  refine Nd.ind fun k t m B d bs A c ls ih => ?_
  intro h
  obtain ⟨_, _, _, _, hw, _, hwn⟩ := wn_ok h
  have h1 := Nd.cnts_le_wns ih hw
  have h2 := putH_ge2 ⟨k, t, m, ((bs ++ (wns ls).1).length : Int)⟩
  rw [hwn]
  dsimp only
  rw [List.length_append]
  have h3 : (bs ++ (wns ls).1).length = bs.length + (wns ls).1.length := List.length_append
  have : (Nd.mk k t m B d bs A c ls).cnt = cnts ls + bs.length + 1 := rfl
  omega

/-- A thing that is cut off is told so. -/
theorem rn_cut (f : Nd) (n : Nat) (i : Nat) (h : (wn f).2 = 0) (hi : i < (wn f).1.length) : rn (n + 1) ((wn f).1.take i) = ⟨4, i, .z⟩ := by
  obtain ⟨k, t, m, B, d, bs, A, c, ls⟩ := f
  obtain ⟨hk, _, _, _, _, hlen, hwn⟩ := wn_ok h
  rw [hwn] at hi ⊢
  dsimp only at hi ⊢
  obtain ⟨al, hal⟩ : ∃ al, bs ++ (wns ls).1 = al := ⟨_, rfl⟩
  rw [hal] at hlen hi ⊢
  have hl2 : (0 : Int) ≤ (al.length : Int) ∧ (al.length : Int) ≤ 16777215 := ⟨by omega, by omega⟩
  rw [List.length_append] at hi
  by_cases g : i < (putH ⟨k, t, m, (al.length : Int)⟩).length
  · have hr := rdH_cut ⟨k, t, m, (al.length : Int)⟩ hk hl2 i g
    rw [List.take_append_of_le_length (by omega), rn, hr]
    dsimp only
    rw [if_pos (by decide)]
  · have hr := rdH_put ⟨k, t, m, (al.length : Int)⟩ hk hl2 (al.take (i - (putH ⟨k, t, m, (al.length : Int)⟩).length))
    rw [List.take_append, List.take_of_length_le (by omega), rn, hr]
    dsimp only
    rw [if_neg (by simp), if_pos (by rw [List.length_append, List.length_take]; omega), List.length_append, List.length_take]
    congr 1
    omega

/-- What was written is read as it was. -/
theorem rdN_wr {f : Nd} (h : f.wr.2 = 0) : rdN f.wr.1 = ⟨0, f.wr.1.length, nf f⟩ ∧ f.wr = f.wn ∧ f.dep ≤ 8 := by
  unfold Nd.wr at h ⊢
  by_cases h8 : 8 < f.dep
  · rw [if_pos h8] at h; exact absurd (show (14 : Int) = 0 from h) (by decide)
  rw [if_neg h8] at h ⊢
  have := rn_wn f 8 [] h (by omega)
  rw [List.append_nil] at this
  refine ⟨?_, rfl, by omega⟩
  unfold rdN
  rw [this]
  simp
/-- What was read is right, and written as those bytes; with a byte more it isn't read, with a byte less neither. -/
theorem wr_rdN {xs : List UInt8} (h : (rdN xs).e = 0) {v : Nd} (hv : v.nf = (rdN xs).v) : (rdN xs).n = xs.length ∧ v.wr = (xs, 0) ∧ v.dep ≤ 8 ∧ v.cnt ≤ xs.length ∧ 0 < xs.length ∧ (∀ c : UInt8, rdN (xs ++ [c]) = ⟨6, xs.length, .z⟩) ∧ rdN (xs.take (xs.length - 1)) = ⟨4, xs.length - 1, .z⟩ := by
  unfold rdN at h hv
  by_cases h1 : (rn 8 xs).e ≠ 0
  · rw [if_pos h1] at h; exact absurd h h1
  rw [if_neg h1] at h hv
  by_cases h2 : (rn 8 xs).n ≠ xs.length
  · rw [if_pos h2] at h; exact absurd (show (6 : Int) = 0 from h) (by decide)
  rw [if_neg h2] at h hv
  have h2' : (rn 8 xs).n = xs.length := Classical.not_not.1 h2
  have hb := wn_rn 8 xs h
  rw [h2', List.take_length, ← hv, wn_nf, dep_nf] at hb
  have h3 := (rn_good 8 xs).2.1 h
  refine ⟨?_, ?_, hb.2, ?_, by omega, fun c => ?_, ?_⟩
  · unfold rdN; rw [if_neg h1, if_neg h2]; exact h2'
  · unfold Nd.wr; rw [if_neg (by have := hb.2; omega)]; exact hb.1
  · have := Nd.cnt_le_wn v (by rw [hb.1]); rw [hb.1] at this; exact this
  · have := rn_wn v 8 [c] (by rw [hb.1]) hb.2
    rw [hb.1] at this
    dsimp only at this
    unfold rdN
    rw [this]
    simp
  · have := rn_cut v 7 (xs.length - 1) (by rw [hb.1]) (by rw [hb.1]; dsimp only; omega)
    rw [hb.1] at this
    dsimp only at this
    unfold rdN
    rw [this]
    simp
end Go.Proofs.YtnjnghbonmdbdaaDoor


/- Layer 11: a thing's head; what is wrong with a thing, but for its length and those in it. -/
namespace Go.Proofs.YtnjnghbonmdbdaaDoor
open Go.RowKit Nd

/-- What is wrong with a thing, but for its length and what is wrong with those in it. -/
def waF (k t : Int) (m : Bool) (bs : List UInt8) (n : Nat) : Int := if kd k t m = false then 13 else if (m = true ∧ 0 < bs.length) ∨ (m = false ∧ 0 < n) then 15 else wb k t m bs
def Nd.wa (f : Nd) : Int := waF f.k f.t f.m f.bs f.ls.length
theorem wn_wa (f : Nd) : wn f = if f.wa ≠ 0 then ([], f.wa) else if (wns f.ls).2 ≠ 0 then ([], (wns f.ls).2) else if 16777215 < (f.bs ++ (wns f.ls).1).length then ([], 5)
    else (putH ⟨f.k, f.t, f.m, ((f.bs ++ (wns f.ls).1).length : Int)⟩ ++ (f.bs ++ (wns f.ls).1), 0) := by
  obtain ⟨k, t, m, B, d, bs, A, c, ls⟩ := f
  change wn (.mk k t m B d bs A c ls) = if waF k t m bs ls.length ≠ 0 then ([], waF k t m bs ls.length) else if (wns ls).2 ≠ 0 then ([], (wns ls).2) else if 16777215 < (bs ++ (wns ls).1).length then ([], 5)
    else (putH ⟨k, t, m, ((bs ++ (wns ls).1).length : Int)⟩ ++ (bs ++ (wns ls).1), 0)
  rw [wn]
  unfold waF
  by_cases h1 : kd k t m = false
  · rw [if_pos h1, if_pos h1, if_pos (by decide)]
  rw [if_neg h1, if_neg h1]
  by_cases h2 : (m = true ∧ 0 < bs.length) ∨ (m = false ∧ 0 < ls.length)
  · rw [if_pos h2, if_pos h2, if_pos (by decide)]
  rw [if_neg h2, if_neg h2]
  have hk : kd k t m = true := by cases h : kd k t m with | true => rfl | false => exact absurd h h1
  have hw := wb_kd hk bs
  unfold wb at hw ⊢
  by_cases h3 : k = 0 ∧ m = false ∧ ckE t bs ≠ 0
  · rw [if_pos h3]
    have e : (if m = false ∧ k = 0 then ckE t bs else 0) = 13 := by
      rw [if_pos ⟨h3.2.1, h3.1⟩] at hw ⊢
      rcases hw with hw | hw
      · exact absurd hw h3.2.2
      · exact hw
    rw [e, if_pos (by decide)]
  · rw [if_neg h3]
    have e : (if m = false ∧ k = 0 then ckE t bs else 0) = 0 := by
      split
      · rename_i h4
        exact Classical.not_not.1 (fun h => h3 ⟨h4.2, h4.1, h⟩)
      · rfl
    rw [e, if_neg (show ¬ ((0 : Int) ≠ 0) from fun h => h rfl)]

theorem hd_leave {W : World} {q : Nat} {v0 v1 v2 v3 : Value} (h : Whole W q #[v0, v1, v2, v3] 65) (a : Act) (h2 : a.tmps.getD 4 undef = .pointer (some ⟨q, 0, none⟩)) (hd : a.defers = []) {E : Ending → World → Prop}
    (hE : E (.returned (.agg #[v0, v1, v2, v3])) W) : bodyPost Tryd.prog Tryd.f38 E Exit.ret a W :=
  bodyPost_ret (results_cell_row rfl _ _ q _ _ _ _ h2 h Tryd.underlying65 rfl (by kernel_rfl)) hd hE

set_option maxRecDepth 100000 in
set_option maxHeartbeats 400000 in
theorem head_any (w : World) (f : Nd) (L : Int) :
    Calls Tryd.prog 38 #[.agg #[.int .i64 f.k, .int .i64 f.t, .bool f.m, .slice f.B f.bs.length f.d, .slice f.A f.ls.length f.c], .int .i64 L] w fun e w' => e = .returned (.agg #[.int .i64 f.k, .int .i64 f.t, .bool f.m, .int .i64 L]) ∧ Grew w w' none := by
  obtain ⟨k, t, m, B, d, bs, A, c, ls⟩ := f
  simp only [Nd.k, Nd.t, Nd.m, Nd.bs, Nd.ls, Nd.B, Nd.d, Nd.A, Nd.c]
  obtain ⟨q, hq⟩ : ∃ q, w.heap.size = q := ⟨_, rfl⟩
  obtain ⟨w1, hw1⟩ : ∃ w1, w.alloc (.cells #[.int .i64 k, .int .i64 t, .bool m, .slice B bs.length d, .slice A ls.length c] 27) = w1 := ⟨_, rfl⟩
  have hg1 : Grew w w1 none := by rw [← hw1]; exact grew_alloc (grew_refl _ none) _
  have hs1 : w1.heap.size = q + 1 := by rw [← hw1, World.size_alloc, hq]
  have h1 : Whole w1 q #[.int .i64 k, .int .i64 t, .bool m, .slice B bs.length d, .slice A ls.length c] 27 := by rw [← hw1, ← hq]; exact Whole.new _ _ _
  have h2 := Whole.new w1 #[.int .i64 0, .int .i64 0, .bool false, .int .i64 0] 65
  rw [hs1] at h2
  have hg2 := grew_alloc hg1 (.cells #[.int .i64 0, .int .i64 0, .bool false, .int .i64 0] 65)
  have h3 := h1.grew (grew_alloc (grew_refl w1 none) (.cells #[.int .i64 0, .int .i64 0, .bool false, .int .i64 0] 65)) (by simp)
  have HG := Lib.hid hg2
  have H2 := Lib.hid h2
  have H3 := Lib.hid h3
  have HQ := Lib.hid hq
  go_enter Tryd.func38, Tryd.ntmps38
  go_upto_region 1 with (fail)
  clear hg1 h1 h2 hg2 h3 hw1 hq hs1
  generalize w1.alloc (.cells #[.int .i64 0, .int .i64 0, .bool false, .int .i64 0] 65) = w2 at *
  have c0 : w2.cell? ⟨q, 0, none⟩ = some (.int .i64 k) := H3.out.cell 0
  have c1 : w2.cell? ⟨q, 1, none⟩ = some (.int .i64 t) := H3.out.cell 1
  have c2 : w2.cell? ⟨q, 2, none⟩ = some (.bool m) := H3.out.cell 2
  have zf := H2.out.frozen
  have zc := fun i => H2.out.cell i
  go_wp2_with fail
  refine hd_leave (W := put4 w2 (q + 1) (.int .i64 k) (.int .i64 t) (.bool m) (.int .i64 L)) (H2.out.put4 _ _ _ _) _ rfl rfl ?_
  exact ⟨rfl, grew_of_below (below_put4 (grew_below HG.out (Nat.le_refl _) (fun _ e => by cases e)) (by have := HQ.out; omega) _ _ _ _)⟩

set_option maxRecDepth 100000 in
set_option maxHeartbeats 1000000 in
theorem wrongalone_any (w : World) (hT : Tb w) (f : Nd) (hf : f.In w) (hcn : f.cnt ≤ 1000000) :
    Calls Tryd.prog 36 #[.agg #[.int .i64 f.k, .int .i64 f.t, .bool f.m, .slice f.B f.bs.length f.d, .slice f.A f.ls.length f.c]] w fun e w' => e = .returned (.int .i64 f.wa) ∧ Grew w w' none := by
  have hn := hf.num
  have hb := hf.bytes
  have hll := hf.list.2.2
  have hbl : f.bs.length ≤ 1000000 := by
    obtain ⟨k, t, m, B, d, bs, A, c, ls⟩ := f
    simp only [Nd.cnt, Nd.bs] at *
    omega
  clear hcn hf
  unfold Nd.wa
  obtain ⟨k, t, m, B, d, bs, A, c, ls⟩ := f
  simp only [Nd.k, Nd.t, Nd.m, Nd.bs, Nd.ls, Nd.B, Nd.d, Nd.A, Nd.c] at hn hb hll hbl ⊢
  obtain ⟨R, hR⟩ : ∃ R, waF k t m bs ls.length = R := ⟨_, rfl⟩
  rw [hR]
  unfold waF at hR
  have HR := Lib.hid hR
  obtain ⟨q, hq⟩ : ∃ q, w.heap.size = q := ⟨_, rfl⟩
  obtain ⟨w1, hw1⟩ : ∃ w1, w.alloc (.cells #[.int .i64 k, .int .i64 t, .bool m, .slice B bs.length d, .slice A ls.length c] 27) = w1 := ⟨_, rfl⟩
  have HG1 := Lib.hid (show Grew w w1 none by rw [← hw1]; exact grew_alloc (grew_refl _ none) _)
  have H1 := Lib.hid (show Whole w1 q #[.int .i64 k, .int .i64 t, .bool m, .slice B bs.length d, .slice A ls.length c] 27 by rw [← hw1, ← hq]; exact Whole.new _ _ _)
  have hkk := kind_any w1 (hT.self (grew_below HG1.out (Nat.le_refl _) (fun _ e => by cases e))) k t m
  have HB := Lib.hid (fun (w2 : World) (g : Grew w w2 none) => wrongb_any w2 k t hn.2 m B d bs ((hb.1.grew g (fun _ e => by cases e)).more g.size) hb.2.1 (by omega))
  generalize ls.length = N at *
  generalize bs.length = L at *
  have hLI : (L : Int) ≤ 1000000 := by omega
  have hNI : (N : Int) ≤ 1954687338268 := by omega
  have HWB := Lib.hid (fun h => wb_kd (k := k) (t := t) (m := m) h bs)
  generalize wb k t m bs = E at *
  clear hn hb hll hT hR hbl
  have c0 : w1.cell? ⟨q, 0, none⟩ = some (.int .i64 k) := H1.out.cell 0
  have c1 : w1.cell? ⟨q, 1, none⟩ = some (.int .i64 t) := H1.out.cell 1
  have c2 : w1.cell? ⟨q, 2, none⟩ = some (.bool m) := H1.out.cell 2
  cases hkd : kd k t m with
  | false =>
    rw [hkd] at hkk HR
    simp only [Bool.false_eq_true, if_false] at hkk
    have HE := Lib.hid (show R = 13 by rw [← HR.out, if_pos rfl])
    have HK := Lib.hid hkk
    clear hkk hkd HR HWB HB
    go_enter Tryd.func36, Tryd.ntmps36
    go_wp2_with fail
    refine HK.out.mono ?_
    rintro e w2 ⟨rfl, b2⟩
    have HG2 := Lib.hid (grew_trans HG1.out (grew_of_below b2))
    clear b2 HK
    go_wp2_with fail
    go_ret
    exact ⟨by rw [HE.out]; rfl, HG2.out⟩
  | true =>
    rw [hkd] at hkk HR
    simp only [if_true] at hkk
    have HR1 := Lib.hid HR.out
    rw [if_neg (by simp)] at HR1
    have HK := Lib.hid hkk
    have HKD := Lib.hid hkd
    clear hkk hkd HR
    go_enter Tryd.func36, Tryd.ntmps36
    go_wp2_with fail
    refine HK.out.mono ?_
    rintro e w2 ⟨rfl, b2⟩
    have HG2 := Lib.hid (grew_trans HG1.out (grew_of_below b2))
    have H2 := Lib.hid (H1.out.below b2 H1.out.lt)
    clear b2 HK c0 c1 c2 H1 HG1 hw1
    have c0 : w2.cell? ⟨q, 0, none⟩ = some (.int .i64 k) := H2.out.cell 0
    have c1 : w2.cell? ⟨q, 1, none⟩ = some (.int .i64 t) := H2.out.cell 1
    have c2 : w2.cell? ⟨q, 2, none⟩ = some (.bool m) := H2.out.cell 2
    have c3 : w2.cell? ⟨q, 3, none⟩ = some (.slice B L d) := H2.out.cell 3
    have c4 : w2.cell? ⟨q, 4, none⟩ = some (.slice A N c) := H2.out.cell 4
    rcases Decidable.em ((m = true ∧ 0 < L) ∨ (m = false ∧ 0 < N)) with g | g
    · have HE := Lib.hid (show R = 15 by rw [← HR1.out, if_pos g])
      clear HR1 HWB HB
      rcases g with ⟨rfl, g⟩ | ⟨rfl, g⟩
      · have g' : (0 : Int) < (L : Int) := by omega
        clear g
        go_wp2_with fail
        go_ret
        exact ⟨by rw [HE.out]; rfl, HG2.out⟩
      · have g' : (0 : Int) < (N : Int) := by omega
        clear g
        go_wp2_with fail
        go_ret
        exact ⟨by rw [HE.out]; rfl, HG2.out⟩
    · have HE := Lib.hid (show E = R by rw [← HR1.out, if_neg g])
      have HC := Lib.hid (HB.out w2 HG2.out)
      clear HR1 HWB HB
      cases m with
      | true =>
        obtain rfl : L = 0 := by
          rcases Nat.eq_zero_or_pos L with h | h
          · exact h
          · exact absurd (.inl ⟨rfl, h⟩) g
        clear g hLI
        go_wp2_with fail
        refine HC.out.mono ?_
        rintro e w3 ⟨rfl, b3⟩
        have HG3 := Lib.hid (grew_trans HG2.out (grew_of_below b3))
        clear b3 HC
        go_wp2_with fail
        go_ret
        exact ⟨by rw [← HE.out]; rfl, HG3.out⟩
      | false =>
        obtain rfl : N = 0 := by
          rcases Nat.eq_zero_or_pos N with h | h
          · exact h
          · exact absurd (.inr ⟨rfl, h⟩) g
        clear g hNI
        go_wp2_with fail
        refine HC.out.mono ?_
        rintro e w3 ⟨rfl, b3⟩
        have HG3 := Lib.hid (grew_trans HG2.out (grew_of_below b3))
        clear b3 HC
        go_wp2_with fail
        go_ret
        exact ⟨by rw [← HE.out]; rfl, HG3.out⟩
end Go.Proofs.YtnjnghbonmdbdaaDoor


/- Layer 11: blocks of cells that stay as they are, whatever else turns. -/
namespace Go.Proofs.YtnjnghbonmdbdaaDoor
open Go.RowKit Nd

/-- All blocks of cells stay. -/
structure Keep (w w' : World) : Prop where
  size : w.heap.size ≤ w'.heap.size
  cells : ∀ (i : Nat) (c : Array Value) (t : TypeId) (f : Nat × Nat), w.heap[i]? = some (.cells c t f) → w'.heap[i]? = some (.cells c t f)
theorem Keep.of_below {w w' : World} (b : Below w.heap.size w w') : Keep w w' := ⟨b.size, fun i _ _ _ h => (b.block i (Array.getElem?_eq_some_iff.1 h).1).trans h⟩
theorem Keep.of_grew {w w' : World} (g : Grew w w' none) : Keep w w' := ⟨g.size, fun i _ _ _ h => (g.block i (Array.getElem?_eq_some_iff.1 h).1 (by simp)).trans h⟩
theorem Keep.trans {a b c : World} (h : Keep a b) (k : Keep b c) : Keep a c := ⟨Nat.le_trans h.size k.size, fun i x t f e => k.cells i x t f (h.cells i x t f e)⟩
theorem Keep.grew {w w' w2 : World} (h : Keep w w') (g : Grew w' w2 none) : Keep w w2 := h.trans (.of_grew g)
theorem Keep.fr {w w' w2 : World} (h : Keep w w') {K : Nat} (g : Fr w' w2 (fun i => i = K)) {w0 : World} {M : Addr} {f : Option Addr → Nat → Option Value} (hm : MapN w0 w' M K f) : Keep w w2 :=
  ⟨Nat.le_trans h.size g.size, fun i x t f e => by
    have h1 := h.cells i x t f e
    have hne : i ≠ K := by
      rintro rfl
      obtain ⟨es, k, h2, _⟩ := hm
      rw [h2] at h1
      cases h1
    exact (g.block i (Array.getElem?_eq_some_iff.1 h1).1 hne).trans h1⟩
theorem Keep.cell {w w' : World} (h : Keep w w') {a : Addr} {v : Value} (hc : w.cell? a = some v) : w'.cell? a = some v := by
  unfold World.cell? at hc ⊢
  cases hb : w.heap[a.block]? with
  | none => rw [hb] at hc; cases hc
  | some o =>
    rw [hb] at hc
    cases o with
    | cells c t f => rw [h.cells _ _ _ _ hb]; exact hc
    | _ => cases hc
theorem Keep.byt {w w' : World} (h : Keep w w') {B : Nat} {A : Option Addr} {xs : List UInt8} (hb : Byt w B A xs) : Byt w' B A xs := fun h0 => by
  obtain ⟨b, o, e, hlt, hc⟩ := hb h0
  exact ⟨b, o, e, hlt, fun i hi => h.cell (hc i hi)⟩
theorem Nd.In.keep {w w' : World} {v : Nd} (h : v.In w) (k : Keep w w') : v.In w' := by
  induction h with
  | mk hn hb hd hc hz ha _ ih =>
    refine .mk hn ((k.byt hb).more k.size) hd hc hz (fun h0 => ?_) ih
    obtain ⟨b, o, e, hcell⟩ := ha h0
    exact ⟨b, o, e, fun i p hi j v hv => k.cell (hcell i p hi j v hv)⟩
theorem Tb.keep {w w' : World} (h : Tb w) (k : Keep w w') : Tb w' := by
  obtain ⟨t, hW⟩ := h
  exact ⟨t, k.cells _ _ _ _ hW⟩
theorem Um.keep {w w' : World} {a : Addr} (h : Um w a) (k : Keep w w') : Um w' a := by
  obtain ⟨c, t, h, h2⟩ := h
  exact ⟨c, t, k.cells _ _ _ _ h, h2⟩
theorem Mk.keep {w w' : World} {a : Addr} (h : Mk w a) (k : Keep w w') : Mk w' a := by
  obtain ⟨c, t, f, h, h2⟩ := h
  exact ⟨c, t, f, k.cells _ _ _ _ h, h2⟩
theorem Kx.keep {w w' : World} {M : Addr} {o : Option Addr} (h : Kx w M o) (k : Keep w w') : Kx w' M o := fun a e => (h a e).imp id (fun h => h.keep k)
theorem NKeys.keep {w w' : World} {M : Addr} {es : List MapEntry} (h : NKeys w M es) (k : Keep w w') : NKeys w' M es := fun e he => by
  obtain ⟨o, n, h1, h2⟩ := h e he
  exact ⟨o, n, h1, h2.keep k⟩
theorem Nd.Cx.keep {w w' : World} {M : Addr} {v : Nd} (h : Cx w M v) (k : Keep w w') : Cx w' M v := by
  induction h with
  | mk h _ ih =>
    refine .mk (fun h0 => ?_) ih
    obtain ⟨b', o, e, h1⟩ := h h0
    exact ⟨b', o, e, h1.imp id (fun h => h.keep k)⟩

set_option maxRecDepth 100000 in
theorem run_klookup {w0 w : World} {M : Addr} {q : Nat} {f : Option Addr → Nat → Option Value} (hm : MapN w0 w M q f) (b : Keep w0 w) (hM : Mk w0 M) {o : Option Addr} (n : Nat) (ho : Kx w0 M o) :
    (Instr.lookup 56 (.map (some q)) (.agg #[.pointer o, .int .i64 (n : Int)]) true).run Tryd.prog w = .ok (ngot (f o n)) w := by
  have hz : (zeroValue 3).run Tryd.prog w = .ok (.int .i64 0) w := by kernel_rfl
  obtain ⟨es, k, hq, hk, rfl⟩ := hm
  change (Instr.lookup 56 (.map (some q)) (nkey o n) true).run Tryd.prog w = _
  unfold Instr.lookup
  simp only [Sem.run_bind, run_underlying Tryd.underlying56, Result.andThen_ok, getObj, Sem.run, hq, Sem.run_pure, run_ncheck, run_nkey w (hM.keep b) n (ho.keep b) es.toList (hk.keep b)]
  unfold nval
  cases nfind o n es.toList 0 with
  | none => simp [hz, ngot]
  | some r => simp [ngot]
set_option maxRecDepth 100000 in
theorem run_kupdate {w0 w : World} {M : Addr} {q : Nat} {f : Option Addr → Nat → Option Value} (hm : MapN w0 w M q f) (b : Keep w0 w) (hM : Mk w0 M) {o : Option Addr} (n : Nat) (ho : Kx w0 M o) (v : Value) :
    ∃ w', (Instr.mapUpdate 56 (.map (some q)) (.agg #[.pointer o, .int .i64 (n : Int)]) v).run Tryd.prog w = .ok () w' ∧ MapN w0 w' M q (nset f o n v) ∧ Fr w w' (fun i => i = q) := by
  obtain ⟨es, k, hq, hk, rfl⟩ := hm
  have hlt : q < w.heap.size := (Array.getElem?_eq_some_iff.1 hq).1
  change ∃ w', (Instr.mapUpdate 56 (.map (some q)) (nkey o n) v).run Tryd.prog w = .ok () w' ∧ _
  have fr : ∀ x, Fr w { w with heap := w.heap.setIfInBounds q x } (fun i => i = q) := fun x => ⟨rfl, rfl, rfl, by simp, fun i hi hn => by simp [Ne.symm hn]⟩
  cases hf : nfind o n es.toList 0 with
  | none =>
    unfold Instr.mapUpdate
    simp only [Sem.run_bind, run_underlying Tryd.underlying56, Result.andThen_ok, getObj, Sem.run, hq, run_ncheck, run_nkey w (hM.keep b) n (ho.keep b) es.toList (hk.keep b), hf, setObj]
    refine ⟨_, rfl, ⟨es.push { key := nkey o n, val := v, born := k }, k + 1, by simp [hlt], ?_, ?_⟩, fr _⟩
    · intro e he
      rw [Array.toList_push] at he
      rcases List.mem_append.1 he with he | he
      · exact hk e he
      · rw [List.mem_singleton.1 he]; exact ⟨o, n, rfl, ho⟩
    · rw [Array.toList_push]
      exact nval_push _ _ _ _ _ (by unfold nval; rw [hf]; rfl)
  | some r =>
    obtain ⟨i, u⟩ := r
    have hkey : ∀ (es : List MapEntry) (i : Nat) (u : Value), nfind o n es 0 = some (i, u) → ∃ e, es[i]? = some e ∧ e.key = nkey o n := by
      intro es
      induction es with
      | nil => intro i u h; cases h
      | cons e es ih =>
        intro i u h
        unfold nfind at h
        split at h
        · rename_i hk; cases h; exact ⟨e, rfl, hk⟩
        · rw [nfind_shift] at h
          obtain ⟨⟨i', u'⟩, h1, h2⟩ := Option.map_eq_some_iff.1 h
          simp only [Prod.mk.injEq] at h2
          obtain ⟨rfl, rfl⟩ := h2
          obtain ⟨e', h3, h4⟩ := ih i' u' h1
          exact ⟨e', by rw [show i' + (0 + 1) = i' + 1 by omega, List.getElem?_cons_succ]; exact h3, h4⟩
    obtain ⟨e, he, hke⟩ := hkey _ _ _ hf
    have hst : (Instr.keyThatStays (nkey o n) (nkey o n)).run Tryd.prog w = .ok (nkey o n) w := by
      have hsb : Instr.sameBits 10000 (nkey o n) (nkey o n) = true := by
        have : ∀ d, Instr.sameBits (d + 2) (nkey o n) (nkey o n) = true := fun d => by simp [Instr.sameBits, nkey]
        exact this 9998
      unfold Instr.keyThatStays
      rw [if_pos hsb]
      rfl
    have hge : (((es[i]?).map (·.key)).getD (nkey o n)) = nkey o n := by
      rw [← Array.getElem?_toList, he]; exact hke
    unfold Instr.mapUpdate
    simp only [Sem.run_bind, run_underlying Tryd.underlying56, Result.andThen_ok, getObj, Sem.run, hq, run_ncheck, run_nkey w (hM.keep b) n (ho.keep b) es.toList (hk.keep b), hf, setObj, hge, hst]
    refine ⟨_, rfl, ⟨es.modify i fun e => { e with key := nkey o n, val := v }, k, by simp [hlt], ?_, ?_⟩, fr _⟩
    · intro e' he'
      rw [Array.toList_modify] at he'
      obtain ⟨j, hj⟩ := List.getElem?_of_mem he'
      rw [List.getElem?_modify] at hj
      cases hx : es.toList[j]? with
      | none => rw [hx] at hj; cases hj
      | some e0 =>
        rw [hx] at hj
        simp only [Option.map_eq_map, Option.map_some, Option.some.injEq] at hj
        split at hj
        · subst hj; exact ⟨o, n, rfl, ho⟩
        · subst hj; exact hk _ (List.mem_of_getElem? hx)
    · rw [Array.toList_modify]
      exact nval_modify o n v _ _ _ hf
end Go.Proofs.YtnjnghbonmdbdaaDoor


/- Layer 11: how many bytes the things of a list have (measure's closure). -/
namespace Go.Proofs.YtnjnghbonmdbdaaDoor
open Go.RowKit Nd

/-- What the map tells of sizes. -/
def MS (w0 : World) (g : Option Addr → Nat → Option Value) : Prop := ∀ p : Nd, p.In w0 → ∀ v, g p.key p.ls.length = some v → (wns p.ls).2 = 0 ∧ v = .int .i64 ((wns p.ls).1.length : Int)
/-- Memory while sizes are asked for. -/
structure SzI (w0 wr : World) (M : Addr) (P1 P2 Km : Nat) (g : Option Addr → Nat → Option Value) : Prop where
  map : MapN w0 wr M Km g
  ms : MS w0 g
  keep : Keep w0 wr
  bx : Whole wr P1 #[.map (some Km)] 56
  fx : Whole wr P2 #[.func (.func 35) #[] #[.pointer (some ⟨P1, 0, none⟩), .pointer (some ⟨P2, 0, none⟩)]] 73
theorem SzI.ne {w0 wr : World} {M : Addr} {P1 P2 Km : Nat} {g : Option Addr → Nat → Option Value} (h : SzI w0 wr M P1 P2 Km g) : P1 ≠ Km ∧ P2 ≠ Km := ⟨h.map.ne h.bx, h.map.ne h.fx⟩
theorem SzI.grew {w0 wr w' : World} {M : Addr} {P1 P2 Km : Nat} {g : Option Addr → Nat → Option Value} (h : SzI w0 wr M P1 P2 Km g) (gr : Grew wr w' none) : SzI w0 w' M P1 P2 Km g :=
  ⟨h.map.grew gr, h.ms, h.keep.grew gr, h.bx.grew gr (by simp), h.fx.grew gr (by simp)⟩
theorem wns_len0 (ls : List Nd) (h : (wns ls).2 ≠ 0) : (wns ls).1 = [] := by
  cases ls with
  | nil => exact absurd (show (wns []).2 = 0 by rw [wns.eq_1]) h
  | cons p ps =>
    rw [wns] at h ⊢
    split
    · rfl
    · rename_i h1
      rw [if_neg h1] at h
      split
      · rfl
      · rename_i h2
        rw [if_neg h2] at h
        exact absurd rfl h
theorem MS.key {w0 : World} {g : Option Addr → Nat → Option Value} (h : MS w0 g) {q : Nd} (hq : q.In w0) (h0 : (wns q.ls).2 = 0) : MS w0 (nset g q.key q.ls.length (.int .i64 ((wns q.ls).1.length : Int))) := by
  intro p hp v hv
  unfold nset at hv
  split at hv
  · rename_i hc
    cases hv
    have e : wns p.ls = wns q.ls := by rw [← wns_nfs (fun r _ => wn_nf r) (ls := p.ls), key_nfs hp hq hc.1 hc.2, wns_nfs (fun r _ => wn_nf r)]
    rw [e]
    exact ⟨h0, rfl⟩
  · exact h p hp v hv
theorem cnt_le_cnts {ls : List Nd} {p : Nd} (h : p ∈ ls) : p.cnt ≤ cnts ls := by
  induction ls with
  | nil => cases h
  | cons q qs ih =>
    rw [cnts]
    rcases List.mem_cons.1 h with rfl | h
    · omega
    · have := ih h; omega
theorem cnts_le_cnt (p : Nd) : cnts p.ls ≤ p.cnt := by cases p; simp only [Nd.cnt, Nd.ls]; omega
theorem bs_le_cnt (p : Nd) : p.bs.length ≤ p.cnt := by cases p; simp only [Nd.cnt, Nd.bs]; omega
theorem wns_le (ls : List Nd) : (wns ls).1.length ≤ 5 * cnts ls := Nd.wns_small (fun p _ => Nd.wn_small p)
theorem wns_take_len {ls : List Nd} {j : Nat} {p : Nd} (hp : ls[j]? = some p) (h : (wns (ls.take j)).2 = 0) (h2 : p.wn.2 = 0) : (wns (ls.take (j + 1))).2 = 0 ∧ (wns (ls.take (j + 1))).1.length = (wns (ls.take j)).1.length + p.wn.1.length := by
  have h3 : wns (ls.take j) = ((wns (ls.take j)).1, 0) := by rw [← h]
  have := (wns_take hp h3).1 h2
  rw [this]
  exact ⟨rfl, by simp⟩
theorem wns_take_no {ls : List Nd} {j : Nat} {p : Nd} (hp : ls[j]? = some p) (h : (wns (ls.take j)).2 = 0) (h2 : p.wn.2 ≠ 0) : wns ls = ([], p.wn.2) := by
  have h3 : wns (ls.take j) = ((wns (ls.take j)).1, 0) := by rw [← h]
  exact (wns_take hp h3).2 h2
theorem wa_kd {f : Nd} (h : f.wa = 0) : kd f.k f.t f.m = true := by
  unfold Nd.wa waF at h
  cases hk : kd f.k f.t f.m with
  | true => rfl
  | false => rw [hk, if_pos rfl] at h; exact absurd h (by decide)

/-- What is left where sizes are asked for. -/
def SzP (w0 : World) (M : Addr) (P1 P2 Km : Nat) (ls : List Nd) (w : World) (e : Ending) (w' : World) : Prop :=
  e = .returned (.tuple #[.int .i64 ((wns ls).1.length : Int), .int .i64 (wns ls).2]) ∧ ∃ g', SzI w0 w' M P1 P2 Km g' ∧ Fr w w' (fun i => i = Km)
/-- What the closure answers. -/
def SzC (v : Nd) : Prop := ∀ (w0 w : World) (M : Addr) (P1 P2 Km : Nat) (g : Option Addr → Nat → Option Value), Tb w0 → Mk w0 M → v.In w0 → v.Cx w0 M → cnts v.ls ≤ 1000000 → SzI w0 w M P1 P2 Km g →
  Calls Tryd.prog 35 #[.slice v.A v.ls.length v.c, .pointer (some ⟨P1, 0, none⟩), .pointer (some ⟨P2, 0, none⟩)] w (SzP w0 M P1 P2 Km v.ls w)
section
variable {ρ : Operand → Value} {o : Oper}
theorem run_ldM {x : Operand} {b i : Nat} {v : Value} (ho : o.op = .load 56 x) (hx : ρ x = .pointer (some ⟨b, i, none⟩)) {w : World} (hc : w.cell? ⟨b, i, none⟩ = some v) : (execOp ρ o).run Tryd.prog w = .ok (.value v) w := by
  simp [execOp, ho, hx, go_sem, hc]
end

set_option maxRecDepth 100000 in
set_option maxHeartbeats 2000000 in
theorem sz_step (v : Nd) (ih : ∀ p ∈ v.ls, SzC p) : SzC v := by
  intro w0 w M P1 P2 Km g hT hM hin hcx hcn hI
  have HIN := Lib.hid hin
  have HCX := Lib.hid hcx
  have HM := Lib.hid hM
  have HT := Lib.hid hT
  have HCN := Lib.hid hcn
  have HIH := Lib.hid ih
  have HI := Lib.hid hI
  have HNE := Lib.hid hI.ne
  have hlen : v.ls.length ≤ 1954687338268 := hin.list.2.2
  have HMO := Lib.hid (fun w' => memof_any w' v.A v.ls.length v.c (fun h => by obtain ⟨b', o, e, _⟩ := hin.list.1 h; exact ⟨b', o, e⟩) hlen)
  have HMG := Lib.hid (fun w' => (HMO.out w'))
  obtain ⟨r, hr⟩ : ∃ r, g v.key v.ls.length = r := ⟨_, rfl⟩
  have hlk : ∀ x, (Instr.lookup 56 (.map (some Km)) (.agg #[.pointer (kq v.A v.ls.length), .int .i64 (v.ls.length : Int)]) true).run Tryd.prog (World.pad w x) = .ok (ngot r) (World.pad w x) := fun x => by
    rw [← hr]
    exact run_klookup (hI.map.grew (grew_pad w x)) (hI.keep.grew (grew_pad w x)) hM v.ls.length hcx.kx
  have p1 := fun x => pad_cell (show w.cell? ⟨P1, 0, none⟩ = some (.map (some Km)) from hI.bx.cell 0) x
  have HRR := Lib.hid hr
  obtain ⟨S0, hS0⟩ : ∃ S0, (wns v.ls).1.length = S0 := ⟨_, rfl⟩
  obtain ⟨E0, hE0⟩ : ∃ E0, (wns v.ls).2 = E0 := ⟨_, rfl⟩
  have HSE := Lib.hid (And.intro hS0 hE0)
  clear hT hM hin hcx hcn hI ih hr hS0 hE0
  cases r with
  | some u =>
    obtain ⟨h0, rfl⟩ := HI.out.ms v HIN.out u HRR.out
    rw [HSE.out.1, show ngot (some (Value.int .i64 (S0 : Int))) = .tuple #[.int .i64 (S0 : Int), .bool true] from rfl] at hlk
    have HZ := Lib.hid (show E0 = 0 by rw [← HSE.out.2]; exact h0)
    clear h0
    go_enter Tryd.func35, Tryd.ntmps35
    go_upto_region 1 with (fail)
    refine wp_region_pad (by kernel_rfl) (by kernel_rfl) ?_
    repeat (go_big_quiet_step (fail))
    go_big_quiet_step ((go_at_call 27; exact pad_call (HMO.out _)))
    repeat (go_big_quiet_step (fail))
    refine wpQuiet_nil ?_
    rintro _ ⟨xq, rfl⟩
    have HG := Lib.hid (grew_pad w xq)
    clear hlk p1
    generalize World.pad w xq = w1 at *
    go_wp2_with fail
    refine bodyPost_ret (results_tmp2 rfl _ _ _) rfl ?_
    exact ⟨by rw [HSE.out.1, HSE.out.2, HZ.out]; rfl, g, HI.out.grew HG.out, Fr.of_grew' HG.out (fun _ e => by cases e)⟩
  | none =>
    rw [show ngot none = .tuple #[.int .i64 0, .bool false] from rfl] at hlk
    go_enter Tryd.func35, Tryd.ntmps35
    go_upto_region 1 with (fail)
    refine wp_region_pad (by kernel_rfl) (by kernel_rfl) ?_
    repeat (go_big_quiet_step (fail))
    go_big_quiet_step ((go_at_call 27; exact pad_call (HMO.out _)))
    repeat (go_big_quiet_step (fail))
    refine wpQuiet_nil ?_
    rintro _ ⟨xq, rfl⟩
    have HG := Lib.hid (grew_pad w xq)
    have HI0 := Lib.hid (show SzI w0 (World.pad w xq) M P1 P2 Km g ∧ Fr w (World.pad w xq) (fun i => i = Km) from ⟨HI.out.grew HG.out, Fr.of_grew' HG.out (fun _ e => by cases e)⟩)
    clear hlk p1 HI HRR HG
    generalize World.pad w xq = w1 at *
    go_upto_region 5 with (fail)
    go_loopw [6, 25] (fun a6 a25 wr => ∃ (i Sm : Nat) (g : Option Addr → Nat → Option Value), i ≤ v.ls.length ∧ a25 = .int .i64 (i : Int) ∧ a6 = .int .i64 (Sm : Int) ∧ Hid ((wns (v.ls.take i)).2 = 0 ∧ (wns (v.ls.take i)).1.length = Sm) ∧ Hid (SzI w0 wr M P1 P2 Km g ∧ Fr w wr (fun i => i = Km))) (fun _ a25 _ => v.ls.length - (intOf a25).toNat)
    case atStart => exact ⟨0, 0, g, Nat.zero_le _, rfl, rfl, Lib.hid ⟨by rw [List.take_zero, wns.eq_1], by rw [List.take_zero, wns.eq_1]; rfl⟩, HI0⟩
    case round =>
      clear HI0
      obtain ⟨i, Sm, g, hil, rfl, rfl, HS, HI⟩ := hrel
      have hSmI : (Sm : Int) ≤ 5000000 := by
        have h1 := wns_le (v.ls.take i)
        have h2 := cnts_take_le v.ls i
        have h3 := HCN.out
        have h4 := HS.out.2
        omega
      have hiI : (i : Int) ≤ 1954687338268 := by omega
      by_cases hlt : i < v.ls.length
      · have hltI : (i : Int) < (v.ls.length : Int) := by omega
        obtain ⟨b', o', p, hA, hp, hpm, k0, k1, k2, k3, k4⟩ := ((HIN.out.keep HI.out.1.keep).list.1).at hlt
        have HP := Lib.hid (And.intro hp hpm)
        rw [hA]
        have HA := Lib.hid hA
        clear hp hpm hA
        have HPC := Lib.hid (show p.cnt ≤ 1000000 from Nat.le_trans (cnt_le_cnts HP.out.2) HCN.out)
        have hpb : (p.bs.length : Int) ≤ 1000000 := by have := bs_le_cnt p; have := HPC.out; omega
        have hpl : p.ls.length ≤ 1954687338268 := (HIN.out.parts p HP.out.2).list.2.2
        go_upto_region 7 with (fail)
        clear k0 k1 k2 k3 k4
        obtain ⟨q, hq⟩ : ∃ q, wr.heap.size = q := ⟨_, rfl⟩
        rw [hq]
        have HQ := Lib.hid (show Whole (wr.alloc (.cells #[.int .i64 p.k, .int .i64 p.t, .bool p.m, .slice p.B p.bs.length p.d, .slice p.A p.ls.length p.c] 27)) q #[.int .i64 p.k, .int .i64 p.t, .bool p.m, .slice p.B p.bs.length p.d, .slice p.A p.ls.length p.c] 27 by rw [← hq]; exact Whole.new _ _ _)
        have HI1 := Lib.hid (show SzI w0 (wr.alloc (.cells #[.int .i64 p.k, .int .i64 p.t, .bool p.m, .slice p.B p.bs.length p.d, .slice p.A p.ls.length p.c] 27)) M P1 P2 Km g ∧ Fr w (wr.alloc (.cells #[.int .i64 p.k, .int .i64 p.t, .bool p.m, .slice p.B p.bs.length p.d, .slice p.A p.ls.length p.c] 27)) (fun i => i = Km) from ⟨HI.out.1.grew (grew_alloc (grew_refl wr none) _), HI.out.2.alloc _⟩)
        have HKQ := Lib.hid (show Km < q by have := HI.out.1.map.lt; omega)
        clear hq HI
        generalize wr.alloc (.cells #[.int .i64 p.k, .int .i64 p.t, .bool p.m, .slice p.B p.bs.length p.d, .slice p.A p.ls.length p.c] 27) = w2 at *
        have hpi := HIN.out.parts p HP.out.2
        have HWA := Lib.hid (wrongalone_any w2 (HT.out.keep HI1.out.1.keep) p (hpi.keep HI1.out.1.keep) HPC.out)
        have HPI := Lib.hid (And.intro hpi (HCX.out.parts p HP.out.2))
        obtain ⟨X, hX⟩ : ∃ X, p.wa = X := ⟨_, rfl⟩
        rw [hX] at HWA
        have HX := Lib.hid hX
        clear hpi hX
        have y0 : w2.cell? ⟨q, 0, none⟩ = some (.int .i64 p.k) := HQ.out.cell 0
        have y1 : w2.cell? ⟨q, 1, none⟩ = some (.int .i64 p.t) := HQ.out.cell 1
        have y2 : w2.cell? ⟨q, 2, none⟩ = some (.bool p.m) := HQ.out.cell 2
        have y3 : w2.cell? ⟨q, 3, none⟩ = some (.slice p.B p.bs.length p.d) := HQ.out.cell 3
        have y4 : w2.cell? ⟨q, 4, none⟩ = some (.slice p.A p.ls.length p.c) := HQ.out.cell 4
        go_wp2_with fail
        refine HWA.out.mono ?_
        rintro e w3 ⟨rfl, g3⟩
        have HI2 := Lib.hid (show SzI w0 w3 M P1 P2 Km g ∧ Fr w w3 (fun i => i = Km) from ⟨HI1.out.1.grew g3, fr_then HI1.out.2 g3⟩)
        have HQ2 := Lib.hid (HQ.out.grew g3 (by simp))
        clear g3 HWA HI1 HQ y0 y1 y2 y3 y4
        rcases (Decidable.em (X = 0)).symm with g1 | g1
        · have g1' : (X != 0) = true := bne_iff_ne.2 g1
          have HE := Lib.hid (wns_take_no HP.out.1 HS.out.1 (by rw [wn_wa, HX.out, if_pos g1]; exact g1))
          have HE2 := Lib.hid (show p.wn.2 = X by rw [wn_wa, HX.out, if_pos g1])
          clear g1
          go_wp2_with fail
          refine bodyPost_ret (results_tmp2 rfl _ _ _) rfl ?_
          exact ⟨by rw [HE.out, HE2.out]; rfl, g, HI2.out⟩
        have HX0 := Lib.hid g1
        have g1' : (X != 0) = false := by rw [g1]; rfl
        clear g1
        have y0 : w3.cell? ⟨q, 0, none⟩ = some (.int .i64 p.k) := HQ2.out.cell 0
        have y1 : w3.cell? ⟨q, 1, none⟩ = some (.int .i64 p.t) := HQ2.out.cell 1
        have y2 : w3.cell? ⟨q, 2, none⟩ = some (.bool p.m) := HQ2.out.cell 2
        have y3 : w3.cell? ⟨q, 3, none⟩ = some (.slice p.B p.bs.length p.d) := HQ2.out.cell 3
        have y4 : w3.cell? ⟨q, 4, none⟩ = some (.slice p.A p.ls.length p.c) := HQ2.out.cell 4
        have f0 : w3.cell? ⟨P2, 0, none⟩ = some (.func (.func 35) #[] #[.pointer (some ⟨P1, 0, none⟩), .pointer (some ⟨P2, 0, none⟩)]) := HI2.out.1.fx.cell 0
        have hsz := HIH.out p HP.out.2 w0 w3 M P1 P2 Km g HT.out HM.out HPI.out.1 HPI.out.2 (Nat.le_trans (cnts_le_cnt p) HPC.out) HI2.out.1
        obtain ⟨Sp, hSp⟩ : ∃ S, (wns p.ls).1.length = S := ⟨_, rfl⟩
        obtain ⟨Ep, hEp⟩ : ∃ E, (wns p.ls).2 = E := ⟨_, rfl⟩
        unfold SzP at hsz
        rw [hSp, hEp] at hsz
        have HSZ := Lib.hid hsz
        have HSP := Lib.hid (And.intro hSp hEp)
        have hSpI : (Sp : Int) ≤ 5000000 := by have h1 := wns_le p.ls; have h2 := cnts_le_cnt p; have h3 := HPC.out; omega
        clear hsz hSp hEp
        go_wp2_with fail
        refine HSZ.out.mono ?_
        rintro e w4 ⟨rfl, g', hI4, hF4⟩
        have HI4 := Lib.hid (show SzI w0 w4 M P1 P2 Km g' ∧ Fr w w4 (fun i => i = Km) from ⟨hI4, HI2.out.2.trans hF4 (fun _ _ e => e)⟩)
        have HQ4 := Lib.hid (HQ2.out.fr hF4 (by have := HKQ.out; omega))
        clear hI4 hF4 HSZ HI2 HQ2 y0 y1 y2 y3 y4 f0
        rcases (Decidable.em (Ep = 0)).symm with g2 | g2
        · have g2' : (Ep != 0) = true := bne_iff_ne.2 g2
          have HE2 := Lib.hid (show p.wn.2 = Ep by rw [wn_wa, HX.out, if_neg (fun h => h HX0.out), HSP.out.2, if_pos g2])
          have HE := Lib.hid (wns_take_no HP.out.1 HS.out.1 (by rw [HE2.out]; exact g2))
          clear g2
          go_wp2_with fail
          refine bodyPost_ret (results_tmp2 rfl _ _ _) rfl ?_
          exact ⟨by rw [HE.out, HE2.out]; rfl, g', HI4.out⟩
        have g2' : (Ep != 0) = false := by rw [g2]; rfl
        have HE0 := Lib.hid g2
        clear g2
        have y0 : w4.cell? ⟨q, 0, none⟩ = some (.int .i64 p.k) := HQ4.out.cell 0
        have y1 : w4.cell? ⟨q, 1, none⟩ = some (.int .i64 p.t) := HQ4.out.cell 1
        have y2 : w4.cell? ⟨q, 2, none⟩ = some (.bool p.m) := HQ4.out.cell 2
        have y3 : w4.cell? ⟨q, 3, none⟩ = some (.slice p.B p.bs.length p.d) := HQ4.out.cell 3
        have y4 : w4.cell? ⟨q, 4, none⟩ = some (.slice p.A p.ls.length p.c) := HQ4.out.cell 4
        have hLN : (Sp : Int) + (p.bs.length : Int) = ((p.bs.length + Sp : Nat) : Int) := by omega
        have HHD := Lib.hid (head_any w4 p ((p.bs.length + Sp : Nat) : Int))
        obtain ⟨N, hN⟩ : ∃ N, p.bs.length + Sp = N := ⟨_, rfl⟩
        rw [hN] at HHD hLN
        have HN := Lib.hid hN
        have hNI : (N : Int) ≤ 6000000 := by omega
        clear hN
        go_wp2_with fail
        refine HHD.out.mono ?_
        rintro e w5 ⟨rfl, g5⟩
        have HI5 := Lib.hid (show SzI w0 w5 M P1 P2 Km g' ∧ Fr w w5 (fun i => i = Km) from ⟨HI4.out.1.grew g5, fr_then HI4.out.2 g5⟩)
        have HPT := Lib.hid (put_yes w5 (HT.out.keep HI5.out.1.keep) ⟨p.k, p.t, p.m, (N : Int)⟩ (wa_kd (HX.out.trans HX0.out)))
        clear g5 HHD HI4 HQ4 y0 y1 y2 y3 y4
        go_wp2_with fail
        refine HPT.out.mono ?_
        rintro e w6 ⟨h6 | ⟨_, ⟨v6, rfl, own6, _⟩⟩, b6⟩
        · exact absurd ⟨by omega, by omega⟩ h6.1
        have HI6 := Lib.hid (show SzI w0 w6 M P1 P2 Km g' ∧ Fr w w6 (fun i => i = Km) from ⟨HI5.out.1.grew (grew_of_below b6), fr_then HI5.out.2 (grew_of_below b6)⟩)
        obtain ⟨-, A6, c6, rfl, hc6⟩ := own8_form own6
        clear own6 b6 HPT HI5 hc6
        have HWN := Lib.hid (show p.wn.2 = 0 ∧ p.wn.1.length = (putH ⟨p.k, p.t, p.m, (N : Int)⟩).length + N by
          have h1 : ¬ (16777215 < (p.bs ++ (wns p.ls).1).length) := by rw [List.length_append, HSP.out.1, HN.out]; omega
          have h2 : (p.bs ++ (wns p.ls).1).length = N := by rw [List.length_append, HSP.out.1, HN.out]
          rw [wn_wa, HX.out, if_neg (fun h => h HX0.out), HSP.out.2, if_neg (fun h => h HE0.out), if_neg h1, h2]
          exact ⟨rfl, by rw [List.length_append, h2]⟩)
        have HTK := Lib.hid (wns_take_len HP.out.1 HS.out.1 HWN.out.1)
        have hp5 := putH_le5 ⟨p.k, p.t, p.m, (N : Int)⟩
        obtain ⟨Hl, hHl⟩ : ∃ H, (putH ⟨p.k, p.t, p.m, (N : Int)⟩).length = H := ⟨_, rfl⟩
        rw [hHl] at HWN hp5 ⊢
        have hHI : (Hl : Int) ≤ 5 := by omega
        clear hHl hp5
        go_wp2_with fail
        go_roundw
        case rel => exact ⟨i + 1, Sm + (Hl + N), g', by omega, by go_num, by go_num, Lib.hid ⟨HTK.out.1, by rw [HTK.out.2, HS.out.2, HWN.out.2]⟩, HI6⟩
        case measure => simp [intOf]; omega
      · obtain rfl : i = v.ls.length := by omega
        clear hlt
        have HS1 := Lib.hid (show (wns v.ls).2 = 0 ∧ (wns v.ls).1.length = Sm by have := HS.out; rwa [List.take_length] at this)
        have hKmw : Km < wr.heap.size := HI.out.1.map.lt
        go_upto_region 19 with (fail)
        have HI1 := Lib.hid HI.out.1
        have HFW := Lib.hid HI.out.2
        clear HI hKmw
        have c0 : wr.cell? ⟨P1, 0, none⟩ = some (.map (some Km)) := HI1.out.bx.cell 0
        have HUP := Lib.hid (show ∀ X, Fr wr X (fun i => i = Km) → MapN w0 X M Km g → ∃ w', (Instr.mapUpdate 56 (.map (some Km)) (.agg #[.pointer (kq v.A v.ls.length), .int .i64 (v.ls.length : Int)]) (.int .i64 (Sm : Int))).run Tryd.prog X = .ok () w' ∧ MapN w0 w' M Km (nset g v.key v.ls.length (.int .i64 (Sm : Int))) ∧ Fr X w' (fun i => i = Km) from
          fun X hX hm => run_kupdate hm (HI1.out.keep.fr hX HI1.out.map) HM.out v.ls.length HCX.out.kx _)
        generalize wr = w1 at *
        have GS := Lib.hid (show Fr w1 w1.drew (fun i => i = Km) from (Fr.refl w1 _).drew)
        have MG := Lib.hid (HI1.out.map.grew (grew_drew (grew_refl w1 none)))
        refine act_letterC (fun A1 hA1 => ?_)
        have d0 : A1.eval (.tmp 0) = .slice v.A v.ls.length v.c := by rw [← hA1]; rfl
        have d1 : A1.eval (.tmp 1) = .pointer (some ⟨P1, 0, none⟩) := by rw [← hA1]; rfl
        have d6 : A1.eval (.tmp 6) = .int .i64 (Sm : Int) := by rw [← hA1]; rfl
        have szA1 : A1.tmps.size = 71 := by rw [← hA1]; rfl
        have HA1 := Lib.hid hA1
        clear hA1
        refine wp_region_held (S := fun w' => Fr w1 w' (fun i => i = Km)) (by kernel_rfl) ?_
        change wpAnyH _ _ _ _ _ _ _ _ (World.drew w1)
        refine wpAnyH_take (i := 0) (v := .map (some Km)) rfl (by kernel_rfl) (by kernel_rfl) (by kernel_rfl) (fun _ _ _ h => h) (.inl ⟨rfl, fun w g => run_ldM rfl d1 (g.cell c0 HNE.out.1)⟩) GS.out ?_
        refine act_letter (fun A2 hA2 => ?_)
        replace d0 : A2.eval (.tmp 0) = .slice v.A v.ls.length v.c := by rw [← hA2]; exact (ev_ne A1 (m := 66) (n := 0) (.map (some Km)) (by decide)).trans d0
        replace d1 : A2.eval (.tmp 1) = .pointer (some ⟨P1, 0, none⟩) := by rw [← hA2]; exact (ev_ne A1 (m := 66) (n := 1) (.map (some Km)) (by decide)).trans d1
        replace d6 : A2.eval (.tmp 6) = .int .i64 (Sm : Int) := by rw [← hA2]; exact (ev_ne A1 (m := 66) (n := 6) (.map (some Km)) (by decide)).trans d6
        have e66 : A2.eval (.tmp 66) = .map (some Km) := by rw [← hA2]; exact ev_self A1 66 (.map (some Km)) (by omega)
        have szA2 : A2.tmps.size = 71 := by rw [← hA2]; exact (sz_put A1 66 (.map (some Km))).trans szA1
        have HA2 := Lib.hid (show A1.put (some 66) (.map (some Km)) = A2 from hA2)
        clear hA2 szA1
        have d66 := e66
        clear e66
        refine wpAnyH_take (i := 1) (v := .slice v.A v.ls.length v.c) rfl (by kernel_rfl) (by kernel_rfl) (by kernel_rfl) (fun _ _ _ h => h) (.inl ⟨rfl, fun w g => run_moveV rfl d0 w⟩) GS.out ?_
        refine act_letter (fun A3 hA3 => ?_)
        replace d0 : A3.eval (.tmp 0) = .slice v.A v.ls.length v.c := by rw [← hA3]; exact (ev_ne A2 (m := 67) (n := 0) (.slice v.A v.ls.length v.c) (by decide)).trans d0
        replace d1 : A3.eval (.tmp 1) = .pointer (some ⟨P1, 0, none⟩) := by rw [← hA3]; exact (ev_ne A2 (m := 67) (n := 1) (.slice v.A v.ls.length v.c) (by decide)).trans d1
        replace d6 : A3.eval (.tmp 6) = .int .i64 (Sm : Int) := by rw [← hA3]; exact (ev_ne A2 (m := 67) (n := 6) (.slice v.A v.ls.length v.c) (by decide)).trans d6
        replace d66 : A3.eval (.tmp 66) = .map (some Km) := by rw [← hA3]; exact (ev_ne A2 (m := 67) (n := 66) (.slice v.A v.ls.length v.c) (by decide)).trans d66
        have e67 : A3.eval (.tmp 67) = .slice v.A v.ls.length v.c := by rw [← hA3]; exact ev_self A2 67 (.slice v.A v.ls.length v.c) (by omega)
        have szA3 : A3.tmps.size = 71 := by rw [← hA3]; exact (sz_put A2 67 (.slice v.A v.ls.length v.c)).trans szA2
        have HA3 := Lib.hid (show A2.put (some 67) (.slice v.A v.ls.length v.c) = A3 from hA3)
        clear hA3 szA2
        have d67 := e67
        clear e67
        refine wpAnyH_take (i := 3) (v := .int .i64 (Sm : Int)) rfl (by kernel_rfl) (by kernel_rfl) (by kernel_rfl) (fun _ _ _ h => h) (.inl ⟨rfl, fun w g => run_moveV rfl d6 w⟩) GS.out ?_
        refine act_letter (fun A4 hA4 => ?_)
        replace d0 : A4.eval (.tmp 0) = .slice v.A v.ls.length v.c := by rw [← hA4]; exact (ev_ne A3 (m := 69) (n := 0) (.int .i64 (Sm : Int)) (by decide)).trans d0
        replace d1 : A4.eval (.tmp 1) = .pointer (some ⟨P1, 0, none⟩) := by rw [← hA4]; exact (ev_ne A3 (m := 69) (n := 1) (.int .i64 (Sm : Int)) (by decide)).trans d1
        replace d6 : A4.eval (.tmp 6) = .int .i64 (Sm : Int) := by rw [← hA4]; exact (ev_ne A3 (m := 69) (n := 6) (.int .i64 (Sm : Int)) (by decide)).trans d6
        replace d66 : A4.eval (.tmp 66) = .map (some Km) := by rw [← hA4]; exact (ev_ne A3 (m := 69) (n := 66) (.int .i64 (Sm : Int)) (by decide)).trans d66
        replace d67 : A4.eval (.tmp 67) = .slice v.A v.ls.length v.c := by rw [← hA4]; exact (ev_ne A3 (m := 69) (n := 67) (.int .i64 (Sm : Int)) (by decide)).trans d67
        have e69 : A4.eval (.tmp 69) = .int .i64 (Sm : Int) := by rw [← hA4]; exact ev_self A3 69 (.int .i64 (Sm : Int)) (by omega)
        have szA4 : A4.tmps.size = 71 := by rw [← hA4]; exact (sz_put A3 69 (.int .i64 (Sm : Int))).trans szA3
        have HA4 := Lib.hid (show A3.put (some 69) (.int .i64 (Sm : Int)) = A4 from hA4)
        clear hA4 szA3
        have d69 := e69
        clear e69
        refine wpAnyH_ready (rs := [2]) (by kernel_rfl) (by simp) ?_
        refine AllReadyH.cons rfl (fun K hK => ?_) AllReadyH.nil
        refine wp_callG rfl (rfl) enter_mo (vs := #[.slice v.A v.ls.length v.c]) (by simp [d67]) ((HMO.out _).mono ?_)
        rintro e x1 ⟨rfl, g1⟩
        refine ⟨_, rfl, hK.out _ _ (fr_then GS.out g1) (fun _ => ?_)⟩
        clear hK K
        have S1 := Lib.hid (show (fun w' => Fr w1 w' (fun i => i = Km)) x1 from fr_then GS.out g1)
        have M1 := Lib.hid (MG.out.grew g1)
        clear GS
        refine act_letter (fun A5 hA5 => ?_)
        replace d0 : A5.eval (.tmp 0) = .slice v.A v.ls.length v.c := by rw [← hA5]; exact (ev_ne A4 (m := 68) (n := 0) (.agg #[.pointer (kq v.A v.ls.length), .int .i64 (v.ls.length : Int)]) (by decide)).trans d0
        replace d1 : A5.eval (.tmp 1) = .pointer (some ⟨P1, 0, none⟩) := by rw [← hA5]; exact (ev_ne A4 (m := 68) (n := 1) (.agg #[.pointer (kq v.A v.ls.length), .int .i64 (v.ls.length : Int)]) (by decide)).trans d1
        replace d6 : A5.eval (.tmp 6) = .int .i64 (Sm : Int) := by rw [← hA5]; exact (ev_ne A4 (m := 68) (n := 6) (.agg #[.pointer (kq v.A v.ls.length), .int .i64 (v.ls.length : Int)]) (by decide)).trans d6
        replace d66 : A5.eval (.tmp 66) = .map (some Km) := by rw [← hA5]; exact (ev_ne A4 (m := 68) (n := 66) (.agg #[.pointer (kq v.A v.ls.length), .int .i64 (v.ls.length : Int)]) (by decide)).trans d66
        replace d69 : A5.eval (.tmp 69) = .int .i64 (Sm : Int) := by rw [← hA5]; exact (ev_ne A4 (m := 68) (n := 69) (.agg #[.pointer (kq v.A v.ls.length), .int .i64 (v.ls.length : Int)]) (by decide)).trans d69
        have e68 : A5.eval (.tmp 68) = .agg #[.pointer (kq v.A v.ls.length), .int .i64 (v.ls.length : Int)] := by rw [← hA5]; exact ev_self A4 68 (.agg #[.pointer (kq v.A v.ls.length), .int .i64 (v.ls.length : Int)]) (by omega)
        have szA5 : A5.tmps.size = 71 := by rw [← hA5]; exact (sz_put A4 68 (.agg #[.pointer (kq v.A v.ls.length), .int .i64 (v.ls.length : Int)])).trans szA4
        have HA5 := Lib.hid (show A4.put (some 68) (.agg #[.pointer (kq v.A v.ls.length), .int .i64 (v.ls.length : Int)]) = A5 from hA5)
        clear hA5 szA4 d67
        have d68 := e68
        clear e68
        obtain ⟨X7, hX7, hM7, hF7⟩ := HUP.out _ S1.out M1.out
        have HM7 := Lib.hid hM7
        refine wpAnyH_ready (rs := [4]) (by kernel_rfl) (by simp) ?_
        refine AllReadyH.cons rfl (fun K hK => ?_) AllReadyH.nil
        refine wp_skipG rfl (w' := X7) (run_mupd rfl d66 d68 d69 hX7) (hK.out _ _ (S1.out.trans hF7 (fun i _ e => e)) (fun _ => ?_))
        clear hK K
        have S2 := Lib.hid (show (fun w' => Fr w1 w' (fun i => i = Km)) (X7) from S1.out.trans hF7 (fun i _ e => e))
        clear S1
        refine act_letter (fun A6 hA6 => ?_)
        replace d0 : A6.eval (.tmp 0) = .slice v.A v.ls.length v.c := by rw [← hA6]; exact d0
        replace d1 : A6.eval (.tmp 1) = .pointer (some ⟨P1, 0, none⟩) := by rw [← hA6]; exact d1
        replace d6 : A6.eval (.tmp 6) = .int .i64 (Sm : Int) := by rw [← hA6]; exact d6
        replace d66 : A6.eval (.tmp 66) = .map (some Km) := by rw [← hA6]; exact d66
        replace d69 : A6.eval (.tmp 69) = .int .i64 (Sm : Int) := by rw [← hA6]; exact d69
        replace d68 : A6.eval (.tmp 68) = .agg #[.pointer (kq v.A v.ls.length), .int .i64 (v.ls.length : Int)] := by rw [← hA6]; exact d68
        have szA6 : A6.tmps.size = 71 := by rw [← hA6]; exact szA5
        have HA6 := Lib.hid (show A5 = A6 from hA6)
        clear hA6 szA5
        clear hM7
        refine wpAnyH_done (by kernel_rfl) ?_ _
        rw [← HA6.out, ← HA5.out, ← HA4.out, ← HA3.out, ← HA2.out, ← HA1.out]
        clear HA2 HA3 HA4 HA5 HA6 HA1 d0 d1 d6 d66 d69 d68 szA6
        simp only [Act.put, List.setIfInBounds_toArray, List.set_cons_zero, List.set_cons_succ]
        go_wp2_with fail
        refine bodyPost_ret (results_tmp2 rfl _ _ _) rfl ?_
        have hms := HI1.out.ms.key HIN.out HS1.out.1
        rw [HS1.out.2] at hms
        refine ⟨by rw [HS1.out.1, HS1.out.2]; rfl, _, ⟨HM7.out, hms, HI1.out.keep.fr S2.out HI1.out.map, HI1.out.bx.fr S2.out HNE.out.1, HI1.out.fx.fr S2.out HNE.out.2⟩, HFW.out.trans S2.out (fun _ _ e => e)⟩
theorem sz_any : ∀ v : Nd, SzC v := Nd.ind fun k t m B d bs A c ls ih => sz_step (.mk k t m B d bs A c ls) ih
end Go.Proofs.YtnjnghbonmdbdaaDoor


/- Layer 11: measure, Check. -/
namespace Go.Proofs.YtnjnghbonmdbdaaDoor
open Go.RowKit Nd

theorem wns_one1 (f : Nd) : (wns [f]).1.length = f.wn.1.length ∧ (wns [f]).2 = f.wn.2 := by
  rw [wns, wns.eq_1]
  split
  · rename_i h; rw [wn_err f h]; exact ⟨rfl, rfl⟩
  · rename_i h
    rw [if_neg (by simp)]
    exact ⟨by simp, (Classical.not_not.1 h).symm⟩
theorem root_in {w : World} {f : Nd} (hf : f.In w) {B : Nat} (hB : Whole w B f.cells 27) : (rootOf B f).In w :=
  .mk (by omega) (fun h => by simp at h) (by simp) (by simp) (by simp) (Lie.whole hB (by simp [flat])) (fun p hp => by simp at hp; rw [hp]; exact hf)
theorem root_cx {w : World} {M : Addr} {f : Nd} (hx : f.Cx w M) {B : Nat} (hB : Whole w B f.cells 27) : (rootOf B f).Cx w M :=
  .mk (fun _ => ⟨B, 0, rfl, .inr ⟨_, _, hB, by simp [Nd.cells]⟩⟩) (fun p hp => by simp at hp; rw [hp]; exact hx)

set_option maxRecDepth 100000 in
set_option maxHeartbeats 1000000 in
theorem measure_any (w : World) (hT : Tb w) (M : Addr) (hM : Mk w M) (f : Nd) (hf : f.In w) (hx : f.Cx w M) (hn : f.cnt ≤ 1000000) :
    Calls Tryd.prog 24 #[.agg #[.int .i64 f.k, .int .i64 f.t, .bool f.m, .slice f.B f.bs.length f.d, .slice f.A f.ls.length f.c]] w fun e w' => e = .returned (.tuple #[.int .i64 (f.wr.1.length : Int), .int .i64 f.wr.2]) ∧ Grew w w' none := by
  have HF := Lib.hid hf
  have HX := Lib.hid hx
  have HM := Lib.hid hM
  have HN := Lib.hid hn
  have HT := Lib.hid hT
  obtain ⟨P, hP⟩ : ∃ P, w.heap.size = P := ⟨_, rfl⟩
  obtain ⟨w1, hw1⟩ : ∃ w1, w.alloc (.cells #[.int .i64 f.k, .int .i64 f.t, .bool f.m, .slice f.B f.bs.length f.d, .slice f.A f.ls.length f.c] 27) = w1 := ⟨_, rfl⟩
  have HG1 := Lib.hid (show Grew w w1 none by rw [← hw1]; exact grew_alloc (grew_refl _ none) _)
  have H1 := Lib.hid (show Whole w1 P f.cells 27 by rw [← hw1, ← hP]; exact Whole.new _ _ _)
  have HD := Lib.hid (depth_any w1 M (hM.keep (.of_grew HG1.out)) f (hf.grew HG1.out) (hx.keep (.of_grew HG1.out)) hn)
  have hdI : (f.dep : Int) ≤ 1000000 := by have := dep_le_cnt f; omega
  obtain ⟨D, hD⟩ : ∃ D, f.dep = D := ⟨_, rfl⟩
  rw [hD] at HD hdI
  have HDD := Lib.hid hD
  have y0 : w1.cell? ⟨P, 0, none⟩ = some (.int .i64 f.k) := H1.out.cell 0
  have y1 : w1.cell? ⟨P, 1, none⟩ = some (.int .i64 f.t) := H1.out.cell 1
  have y2 : w1.cell? ⟨P, 2, none⟩ = some (.bool f.m) := H1.out.cell 2
  have y3 : w1.cell? ⟨P, 3, none⟩ = some (.slice f.B f.bs.length f.d) := H1.out.cell 3
  have y4 : w1.cell? ⟨P, 4, none⟩ = some (.slice f.A f.ls.length f.c) := H1.out.cell 4
  clear hf hx hM hn hT hD
  go_enter Tryd.func24, Tryd.ntmps24
  go_wp2_with fail
  refine HD.out.mono ?_
  rintro e w2 ⟨rfl, g2⟩
  have HG2 := Lib.hid (grew_trans HG1.out g2)
  have H2 := Lib.hid (H1.out.grew g2 (by simp))
  clear g2 HD H1 HG1 y0 y1 y2 y3 y4 hw1 hP
  by_cases h8 : 8 < D
  · have h8' : (8 : Int) < (D : Int) := by omega
    have HE := Lib.hid (show f.wr = ([], 14) by unfold Nd.wr; rw [HDD.out, if_pos h8])
    clear h8
    go_wp2_with fail
    refine bodyPost_ret (results_tmp2 rfl _ _ _) rfl ?_
    exact ⟨by rw [HE.out]; rfl, HG2.out⟩
  · have h8' : ¬ (8 : Int) < (D : Int) := by omega
    have HE := Lib.hid (show f.wr = f.wn by unfold Nd.wr; rw [HDD.out, if_neg h8])
    have y0 : w2.cell? ⟨P, 0, none⟩ = some (.int .i64 f.k) := H2.out.cell 0
    have y1 : w2.cell? ⟨P, 1, none⟩ = some (.int .i64 f.t) := H2.out.cell 1
    have y2 : w2.cell? ⟨P, 2, none⟩ = some (.bool f.m) := H2.out.cell 2
    have y3 : w2.cell? ⟨P, 3, none⟩ = some (.slice f.B f.bs.length f.d) := H2.out.cell 3
    have y4 : w2.cell? ⟨P, 4, none⟩ = some (.slice f.A f.ls.length f.c) := H2.out.cell 4
    have hmm := @run_makeMap Tryd.prog
    obtain ⟨Km, hK⟩ : ∃ K, w2.heap.size = K := ⟨_, rfl⟩
    have HK := Lib.hid hK
    clear h8
    go_upto_region 6 with (fail)
    clear hmm
    obtain ⟨P1, hP1⟩ : ∃ P1, Km + 1 = P1 := ⟨_, rfl⟩
    rw [hP1]
    obtain ⟨P2, hP2⟩ : ∃ P2, P1 + 1 = P2 := ⟨_, rfl⟩
    rw [hP2]
    obtain ⟨W, hW⟩ : ∃ W, ((w2.alloc (.map #[] 0)).alloc (.cells #[.map (some Km)] 56)).alloc (.cells #[.func (.func 35) #[] #[.pointer (some ⟨P1, 0, none⟩), .pointer (some ⟨P2, 0, none⟩)]] 73) = W := ⟨_, rfl⟩
    rw [hW]
    have HW := Lib.hid (show Grew w2 W none ∧ W.heap.size = P2 + 1 ∧ (∀ w0, MapN w0 W M Km (fun _ _ => none)) ∧ Whole W P1 #[.map (some Km)] 56 ∧ Whole W P2 #[.func (.func 35) #[] #[.pointer (some ⟨P1, 0, none⟩), .pointer (some ⟨P2, 0, none⟩)]] 73 by
      have h0 := fun w0 => MapN.new w0 w2 M 0
      have h1 := Whole.new (w2.alloc (.map #[] 0)) #[.map (some Km)] 56
      have h2 := Whole.new ((w2.alloc (.map #[] 0)).alloc (.cells #[.map (some Km)] 56)) #[.func (.func 35) #[] #[.pointer (some ⟨P1, 0, none⟩), .pointer (some ⟨P2, 0, none⟩)]] 73
      simp only [World.size_alloc, HK.out, hP1, hP2] at h0 h1 h2
      rw [← hW]
      exact ⟨grew_alloc (grew_alloc (grew_alloc (grew_refl _ none) _) _) _, by simp [World.size_alloc, HK.out, hP1, hP2], fun w0 => (h0 w0).grew (grew_alloc (grew_alloc (grew_refl _ none) _) _), h1.grew (grew_alloc (grew_refl _ none) _) (by simp), h2⟩)
    clear hP1 hP2 hW hK y0 y1 y2 y3 y4
    have H3 := Lib.hid (H2.out.grew HW.out.1 (by simp))
    have f0 : W.cell? ⟨P2, 0, none⟩ = some (.func (.func 35) #[] #[.pointer (some ⟨P1, 0, none⟩), .pointer (some ⟨P2, 0, none⟩)]) := HW.out.2.2.2.2.cell 0
    have y0 : W.cell? ⟨P, 0, none⟩ = some (.int .i64 f.k) := H3.out.cell 0
    have y1 : W.cell? ⟨P, 1, none⟩ = some (.int .i64 f.t) := H3.out.cell 1
    have y2 : W.cell? ⟨P, 2, none⟩ = some (.bool f.m) := H3.out.cell 2
    have y3 : W.cell? ⟨P, 3, none⟩ = some (.slice f.B f.bs.length f.d) := H3.out.cell 3
    have y4 : W.cell? ⟨P, 4, none⟩ = some (.slice f.A f.ls.length f.c) := H3.out.cell 4
    obtain ⟨W4, hW4⟩ : ∃ W4, W.alloc (.cells #[.int .i64 f.k, .int .i64 f.t, .bool f.m, .slice f.B f.bs.length f.d, .slice f.A f.ls.length f.c] 27) = W4 := ⟨_, rfl⟩
    have hG4 : Grew W W4 none := by rw [← hW4]; exact grew_alloc (grew_refl _ none) _
    have hB4 : Whole W4 (P2 + 1) f.cells 27 := by have := Whole.new W f.cells 27; rw [HW.out.2.1] at this; rw [← hW4]; exact this
    have hGG := grew_trans HG2.out (grew_trans HW.out.1 hG4)
    have hk4 := Keep.of_grew hGG
    have hsz := sz_any (rootOf (P2 + 1) f) W4 W4 M P1 P2 Km (fun _ _ => none) (HT.out.keep hk4) (HM.out.keep hk4) (root_in (HF.out.keep hk4) hB4) (root_cx (HX.out.keep hk4) hB4) (by simp [rootOf, Nd.ls, cnts]; have := HN.out; omega)
      ⟨(HW.out.2.2.1 W4).grew hG4, (fun p hp v hv => by cases hv), ⟨Nat.le_refl _, fun _ _ _ _ h => h⟩, HW.out.2.2.2.1.grew hG4 (by simp), HW.out.2.2.2.2.grew hG4 (by simp)⟩
    unfold SzP at hsz
    change Calls Tryd.prog 35 #[.slice (some ⟨P2 + 1, 0, none⟩) 1 1, .pointer (some ⟨P1, 0, none⟩), .pointer (some ⟨P2, 0, none⟩)] W4 (fun e w' => e = .returned (.tuple #[.int .i64 ((wns [f]).1.length : Int), .int .i64 (wns [f]).2]) ∧ ∃ g', SzI W4 w' M P1 P2 Km g' ∧ Fr W4 w' (fun i => i = Km)) at hsz
    rw [(wns_one1 f).1, (wns_one1 f).2] at hsz
    have HSZ := Lib.hid hsz
    have HGG := Lib.hid hGG
    have HKW := Lib.hid (show w.heap.size ≤ Km by have := HG2.out.size; have := HK.out; omega)
    have HSW := Lib.hid HW.out.2.1
    obtain ⟨S0, hS0⟩ : ∃ S, f.wn.1.length = S := ⟨_, rfl⟩
    obtain ⟨E0, hE0⟩ : ∃ E, f.wn.2 = E := ⟨_, rfl⟩
    rw [hS0, hE0] at HSZ
    have HSS := Lib.hid (And.intro hS0 hE0)
    have hsW := HSW.out
    clear hsz hGG hk4 hG4 hB4 hS0 hE0
    go_wp2_with fail
    refine HSZ.out.mono ?_
    rintro e w5 ⟨rfl, g', _, hF⟩
    have HF5 := Lib.hid (grew_fr HGG.out hF (fun i e => by have := HKW.out; omega))
    clear hF HSZ f0 y0 y1 y2 y3 y4 hW4 hsW
    go_wp2_with fail
    refine bodyPost_ret (results_tmp2 rfl _ _ _) rfl ?_
    exact ⟨by rw [HE.out, HSS.out.1, HSS.out.2]; rfl, HF5.out⟩

set_option maxRecDepth 100000 in
set_option maxHeartbeats 1000000 in
theorem check11_any (w : World) (hT : Tb w) (M : Addr) (hM : Mk w M) (f : Nd) (hf : f.In w) (hx : f.Cx w M) (hn : f.cnt ≤ 1000000) :
    Calls Tryd.prog 17 #[.agg #[.int .i64 f.k, .int .i64 f.t, .bool f.m, .slice f.B f.bs.length f.d, .slice f.A f.ls.length f.c]] w fun e w' => e = .returned (.int .i64 f.wr.2) ∧ Grew w w' none := by
  obtain ⟨P, hP⟩ : ∃ P, w.heap.size = P := ⟨_, rfl⟩
  obtain ⟨w1, hw1⟩ : ∃ w1, w.alloc (.cells #[.int .i64 f.k, .int .i64 f.t, .bool f.m, .slice f.B f.bs.length f.d, .slice f.A f.ls.length f.c] 27) = w1 := ⟨_, rfl⟩
  have HG1 := Lib.hid (show Grew w w1 none by rw [← hw1]; exact grew_alloc (grew_refl _ none) _)
  have H1 := Lib.hid (show Whole w1 P f.cells 27 by rw [← hw1, ← hP]; exact Whole.new _ _ _)
  have hme := measure_any w1 (hT.keep (.of_grew HG1.out)) M (hM.keep (.of_grew HG1.out)) f (hf.grew HG1.out) (hx.keep (.of_grew HG1.out)) hn
  obtain ⟨E0, hE0⟩ : ∃ E, f.wr.2 = E := ⟨_, rfl⟩
  obtain ⟨S0, hS0⟩ : ∃ S, f.wr.1.length = S := ⟨_, rfl⟩
  rw [hS0, hE0] at hme
  rw [hE0]
  have HME := Lib.hid hme
  have y0 : w1.cell? ⟨P, 0, none⟩ = some (.int .i64 f.k) := H1.out.cell 0
  have y1 : w1.cell? ⟨P, 1, none⟩ = some (.int .i64 f.t) := H1.out.cell 1
  have y2 : w1.cell? ⟨P, 2, none⟩ = some (.bool f.m) := H1.out.cell 2
  have y3 : w1.cell? ⟨P, 3, none⟩ = some (.slice f.B f.bs.length f.d) := H1.out.cell 3
  have y4 : w1.cell? ⟨P, 4, none⟩ = some (.slice f.A f.ls.length f.c) := H1.out.cell 4
  clear hf hx hM hn hT hme hE0 hS0
  go_enter Tryd.func17, Tryd.ntmps17
  go_wp2_with fail
  refine HME.out.mono ?_
  rintro e w2 ⟨rfl, g2⟩
  have HG2 := Lib.hid (grew_trans HG1.out g2)
  clear g2 HME H1 HG1 y0 y1 y2 y3 y4 hw1 hP
  go_wp2_with fail
  go_ret
  exact ⟨rfl, HG2.out⟩
end Go.Proofs.YtnjnghbonmdbdaaDoor

