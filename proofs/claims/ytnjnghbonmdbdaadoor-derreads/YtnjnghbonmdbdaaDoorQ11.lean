/- Layer 11: Read. -/
import Derived.Test.YtnjnghbonmdbdaaDoorQ10
import Derived.Test.YtnjnghbonmdbdaaDoorQ7
import Derived.Test.YtnjnghbonmdbdaaDoorQ1
import Derived.Test.YtnjnghbonmdbdaaDoorRows
import Derived.ProofKit
import Derived.OpenShut
import Derived.ShutString
import Derived.ChangeOld
import Derived.Below
import Derived.SizedLaws
import Derived.Deep.SlicePairs
namespace Go.Proofs.YtnjnghbonmdbdaaDoor
open Go.RowKit Nd

/-- What a Read leaves, where its lists lie told, too. -/
def ReadQ (w : World) (base : Int) (R : Rn) (e : Ending) (w' : World) : Prop :=
  ∃ v : Nd, e = .returned (.tuple #[.agg #[.int .i64 v.k, .int .i64 v.t, .bool v.m, .slice v.B v.bs.length v.d, .slice v.A v.ls.length v.c], .int .i64 (base + (R.n : Int)), .int .i64 R.e]) ∧ v.nf = R.v ∧ v.In w' ∧ v.Cl w' ∧ v.Off (· < w.heap.size) ∧ Below w.heap.size w w'
theorem ReadQ.err {w w' : World} {base : Int} {R : Rn} {E : Int} {n : Nat} (h : R = ⟨E, n, .z⟩) (b : Below w.heap.size w w') : ReadQ w base R (.returned (.tuple #[.agg #[.int .i64 0, .int .i64 0, .bool false, .slice none 0 0, .slice none 0 0], .int .i64 (base + (n : Int)), .int .i64 E])) w' := by
  subst h
  exact ⟨.z, rfl, rfl, z_in _, z_cl _, z_off _, b⟩

/-- 'readWhole' leaves with what lies in its result. -/
theorem rw_leave {W : World} {q : Nat} {a0 a1 a2 a3 a4 : Value} (h : Whole W q #[a0, a1, a2, a3, a4] 27) (v0 v1 v2 v3 v4 : Value) (a : Act) (x y : Value)
    (h2 : a.tmps.getD 2 undef = .pointer (some ⟨q, 0, none⟩)) (h3 : a.tmps.getD 3 undef = x) (h4 : a.tmps.getD 4 undef = y) (hd : a.defers = []) {E : Ending → World → Prop}
    (hE : E (.returned (.tuple #[.agg #[v0, v1, v2, v3, v4], x, y])) (put5 W q v0 v1 v2 v3 v4)) :
    bodyPost Tryd.prog Tryd.f21 E Exit.ret a (put5 W q v0 v1 v2 v3 v4) := by
  refine bodyPost_ret (results_cell_tmps rfl _ _ q _ _ _ _ h2 (h.put5 _ _ _ _ _) Tryd.underlying27 rfl (by kernel_rfl)) hd ?_
  rw [h3, h4]
  exact hE
/-- 'Read' leaves with what lies in its result. -/
theorem dr_leave {W : World} {q : Nat} {a0 a1 a2 a3 a4 : Value} (h : Whole W q #[a0, a1, a2, a3, a4] 27) (v0 v1 v2 v3 v4 : Value) (a : Act) (x y : Value)
    (h2 : a.tmps.getD 4 undef = .pointer (some ⟨q, 0, none⟩)) (h3 : a.tmps.getD 5 undef = x) (h4 : a.tmps.getD 6 undef = y) (hd : a.defers = []) {E : Ending → World → Prop}
    (hE : E (.returned (.tuple #[.agg #[v0, v1, v2, v3, v4], x, y])) (put5 W q v0 v1 v2 v3 v4)) :
    bodyPost Tryd.prog Tryd.f11 E Exit.ret a (put5 W q v0 v1 v2 v3 v4) := by
  refine bodyPost_ret (results_cell_tmps rfl _ _ q _ _ _ _ h2 (h.put5 _ _ _ _ _) Tryd.underlying27 rfl (by kernel_rfl)) hd ?_
  rw [h3, h4]
  exact hE

set_option maxRecDepth 100000 in
set_option maxHeartbeats 1000000 in
theorem readwhole_any (w : World) (hT : Tb w) (A : Option Addr) (c : Nat) (xs : List UInt8) (hb : Byt w w.heap.size A xs) (hc : xs.length ≤ c) (hl : xs.length ≤ 1099511627776) :
    Calls Tryd.prog 21 #[.slice A xs.length c] w (ReadQ w 0 (rdN xs)) := by
  obtain ⟨R, hR⟩ : ∃ R, rdN xs = R := ⟨_, rfl⟩
  rw [hR]
  have hR2 := hR.symm
  unfold rdN at hR2
  have HB := Lib.hid hb
  have HC := Lib.hid (And.intro hc hl)
  have HTB := Lib.hid hT
  have HR := Lib.hid hR2
  obtain ⟨L, hL⟩ : ∃ L, xs.length = L := ⟨_, rfl⟩
  have HL := Lib.hid hL
  rw [hL] at hl HR ⊢
  have hLI : (L : Int) ≤ 1099511627776 := by omega
  clear hb hc hl hR hR2 hT hL
  go_enter Tryd.func21, Tryd.ntmps21
  go_upto_region 3 with (fail)
  obtain ⟨P, hP⟩ : ∃ P, w.heap.size = P := ⟨_, rfl⟩
  rw [hP]
  obtain ⟨q, hq⟩ : ∃ q, P + 1 = q := ⟨_, rfl⟩
  rw [hq]
  obtain ⟨U, hU⟩ : ∃ U, q + 1 = U := ⟨_, rfl⟩
  rw [hU]
  obtain ⟨W, hW⟩ : ∃ W, ((w.alloc (.cells #[.slice A L c] 22)).alloc (.cells #[.int .i64 0, .int .i64 0, .bool false, .slice none 0 0, .slice none 0 0] 27)).alloc (.cells #[.func (.func 30) #[] #[.pointer (some ⟨P, 0, none⟩), .pointer (some ⟨U, 0, none⟩)]] 63) = W := ⟨_, rfl⟩
  rw [hW]
  have HP := Lib.hid hP
  have HM := Lib.hid (show Whole W P #[.slice A L c] 22 ∧ Whole W q #[.int .i64 0, .int .i64 0, .bool false, .slice none 0 0, .slice none 0 0] 27 ∧ Whole W (U) #[.func (.func 30) #[] #[.pointer (some ⟨P, 0, none⟩), .pointer (some ⟨U, 0, none⟩)]] 63 ∧ Below w.heap.size w W ∧ W.heap.size = P + 3 by
    rw [← hW]
    refine ⟨?_, ?_, ?_, ?_, by simp [World.size_alloc, hP]⟩
    · have := (Whole.new w #[.slice A L c] 22)
      rw [hP] at this
      exact this.grew (grew_alloc (grew_alloc (grew_refl _ none) _) _) (by simp)
    · have := (Whole.new (w.alloc (.cells #[.slice A L c] 22)) #[.int .i64 0, .int .i64 0, .bool false, .slice none 0 0, .slice none 0 0] 27)
      rw [World.size_alloc, hP, hq] at this
      exact this.grew (grew_alloc (grew_refl _ none) _) (by simp)
    · have := Whole.new ((w.alloc (.cells #[.slice A L c] 22)).alloc (.cells #[.int .i64 0, .int .i64 0, .bool false, .slice none 0 0, .slice none 0 0] 27)) #[.func (.func 30) #[] #[.pointer (some ⟨P, 0, none⟩), .pointer (some ⟨U, 0, none⟩)]] 63
      rw [World.size_alloc, World.size_alloc, hP, hq, hU] at this
      exact this
    · exact (((Below.refl _ w).alloc (Nat.le_refl _) _).alloc (by simp) _).alloc (by simp; omega) _)
  have HQ := Lib.hid hq
  clear hW hP hq hU
  have hone := th_any 8 1 rfl W A c xs 0 xs.length P U (HTB.out.self HM.out.2.2.2.1) ((byt_below HB.out HM.out.2.2.2.1 (Nat.le_refl _)).more HM.out.2.2.2.1.size) HC.out.1 HC.out.2 (Nat.zero_le _) (Nat.le_refl _) ⟨by rw [HL.out]; exact HM.out.1, HM.out.2.2.1⟩
  rw [show (xs.drop 0).take (xs.length - 0) = xs by simp, HL.out] at hone
  change Calls Tryd.prog 30 #[.int .i64 0, .int .i64 (L : Int), .int .i64 1, .pointer (some ⟨P, 0, none⟩), .pointer (some ⟨U, 0, none⟩)] W _ at hone
  have hg := rn_good 8 xs
  obtain ⟨r, hr⟩ : ∃ r, rn 8 xs = r := ⟨_, rfl⟩
  rw [hr] at hone HR hg
  rw [HL.out] at hg
  have HG := Lib.hid hg
  have HC1 := Lib.hid hone
  have hrI : (r.n : Int) ≤ 1099511627776 := by omega
  have u1 : W.cell? ⟨U, 0, none⟩ = some (.func (.func 30) #[] #[.pointer (some ⟨P, 0, none⟩), .pointer (some ⟨U, 0, none⟩)]) := HM.out.2.2.1.cell 0
  have p1 : W.cell? ⟨P, 0, none⟩ = some (.slice A L c) := HM.out.1.cell 0
  clear hone hg hr
  go_wp2_with fail
  refine HC1.out.mono ?_
  rintro e w2 ⟨v, rfl, hnf, ⟨hvi, hvc, hvo⟩, b2⟩
  rw [Nat.zero_add]
  have HV := Lib.hid (show v.nf = r.v ∧ v.In w2 ∧ v.Cl w2 ∧ v.Off (· < W.heap.size) from ⟨hnf, hvi, hvc, hvo⟩)
  have B2 := Lib.hid (HM.out.2.2.2.1.trans (b2.mono HM.out.2.2.2.1.size))
  have HW2 := Lib.hid (HM.out.2.1.below b2 HM.out.2.1.lt)
  have HP2 := Lib.hid (HM.out.1.below b2 HM.out.1.lt)
  clear b2 HC1 hnf hvi hvc hvo u1 p1
  go_upto_region 4 with (fail)
  obtain ⟨g, hg⟩ : ∃ g, w2.heap.size = g := ⟨_, rfl⟩
  rw [hg]
  have HN3 := Lib.hid (show Whole (w2.alloc (.cells #[.int .i64 v.k, .int .i64 v.t, .bool v.m, .slice v.B v.bs.length v.d, .slice v.A v.ls.length v.c] 27)) g #[.int .i64 v.k, .int .i64 v.t, .bool v.m, .slice v.B v.bs.length v.d, .slice v.A v.ls.length v.c] 27 by rw [← hg]; exact Whole.new _ _ _)
  have HW3 := Lib.hid (HW2.out.grew (grew_alloc (grew_refl w2 none) (.cells #[.int .i64 v.k, .int .i64 v.t, .bool v.m, .slice v.B v.bs.length v.d, .slice v.A v.ls.length v.c] 27)) (by simp))
  have HP3 := Lib.hid (HP2.out.grew (grew_alloc (grew_refl w2 none) (.cells #[.int .i64 v.k, .int .i64 v.t, .bool v.m, .slice v.B v.bs.length v.d, .slice v.A v.ls.length v.c] 27)) (by simp))
  have HV3 := Lib.hid (And.intro (HV.out.2.1.grew (grew_alloc (grew_refl w2 none) (.cells #[.int .i64 v.k, .int .i64 v.t, .bool v.m, .slice v.B v.bs.length v.d, .slice v.A v.ls.length v.c] 27))) (HV.out.2.2.1.grew (grew_alloc (grew_refl w2 none) (.cells #[.int .i64 v.k, .int .i64 v.t, .bool v.m, .slice v.B v.bs.length v.d, .slice v.A v.ls.length v.c] 27))))
  have B3 := Lib.hid (B2.out.alloc B2.out.size (.cells #[.int .i64 v.k, .int .i64 v.t, .bool v.m, .slice v.B v.bs.length v.d, .slice v.A v.ls.length v.c] 27))
  generalize w2.alloc (.cells #[.int .i64 v.k, .int .i64 v.t, .bool v.m, .slice v.B v.bs.length v.d, .slice v.A v.ls.length v.c] 27) = w3 at *
  clear hg
  have zf := HW3.out.frozen
  have zc := fun i => HW3.out.cell i
  have p3 : w3.cell? ⟨P, 0, none⟩ = some (.slice A L c) := HP3.out.cell 0
  have y0 : w3.cell? ⟨g, 0, none⟩ = some (.int .i64 v.k) := HN3.out.cell 0
  have y1 : w3.cell? ⟨g, 1, none⟩ = some (.int .i64 v.t) := HN3.out.cell 1
  have y2 : w3.cell? ⟨g, 2, none⟩ = some (.bool v.m) := HN3.out.cell 2
  have y3 : w3.cell? ⟨g, 3, none⟩ = some (.slice v.B v.bs.length v.d) := HN3.out.cell 3
  have y4 : w3.cell? ⟨g, 4, none⟩ = some (.slice v.A v.ls.length v.c) := HN3.out.cell 4
  have HQP := Lib.hid (show w.heap.size ≤ q ∧ q < W.heap.size by have := HP.out; have := HQ.out; have := HM.out.2.2.2.2; omega)
  rcases (Decidable.em (r.e = 0)).symm with g0 | g0
  · have HE := Lib.hid (show R = r by rw [HR.out, if_pos g0])
    have g0' : (r.e == 0) = false := beq_eq_false_iff_ne.2 g0
    clear g0
    go_wp2_with fail
    refine rw_leave HW3.out _ _ _ _ _ _ (.int .i64 (0 + (r.n : Int))) (.int .i64 r.e) rfl (by rw [Int.zero_add]; rfl) rfl rfl ?_
    rw [HE.out]
    exact ⟨v, rfl, HV.out.1, HV3.out.1.fr2 (fr_put5 _ _ _ _ _ _ _) (HV.out.2.2.2.mono (fun i e => by have := HQP.out; omega)), HV3.out.2.fr (fr_put5 _ _ _ _ _ _ _) (HV.out.2.2.2.mono (fun i e => by have := HQP.out; omega)), HV.out.2.2.2.mono (fun i e => by have := HQP.out; omega), below_put5 B3.out HQP.out.1 _ _ _ _ _⟩
  · have g0' : (r.e == 0) = true := beq_iff_eq.2 g0
    have HR2 := Lib.hid (show R = if r.n ≠ L then ⟨6, r.n, .z⟩ else r by rw [HR.out, if_neg (fun h => h g0)])
    have HG0 := Lib.hid g0
    clear g0
    rcases Decidable.em (r.n < L) with g1 | g1
    · have g1' : (r.n : Int) < (L : Int) := by omega
      have HE := Lib.hid (show R = ⟨6, r.n, .z⟩ by rw [HR2.out, if_pos (by omega)])
      clear g1
      go_wp2_with fail
      refine rw_leave HW3.out _ _ _ _ _ _ (.int .i64 (0 + (r.n : Int))) _ rfl (by rw [Int.zero_add]; rfl) rfl rfl ?_
      exact ReadQ.err HE.out (below_put5 B3.out HQP.out.1 _ _ _ _ _)
    · have g1' : ¬ (r.n : Int) < (L : Int) := by omega
      have HE := Lib.hid (show R = r by rw [HR2.out, if_neg (by have := HG.out.1; omega)])
      clear g1
      go_wp2_with fail
      refine rw_leave HW3.out _ _ _ _ _ _ (.int .i64 (0 + (r.n : Int))) (.int .i64 r.e) rfl (by rw [Int.zero_add]; rfl) rfl rfl ?_
      rw [HE.out]
      exact ⟨v, rfl, HV.out.1, HV3.out.1.fr2 (fr_put5 _ _ _ _ _ _ _) (HV.out.2.2.2.mono (fun i e => by have := HQP.out; omega)), HV3.out.2.fr (fr_put5 _ _ _ _ _ _ _) (HV.out.2.2.2.mono (fun i e => by have := HQP.out; omega)), HV.out.2.2.2.mono (fun i e => by have := HQP.out; omega), below_put5 B3.out HQP.out.1 _ _ _ _ _⟩

set_option maxRecDepth 100000 in
set_option maxHeartbeats 1000000 in
theorem derread_any (w : World) (hT : Tb w) (A : Option Addr) (c : Nat) (xs : List UInt8) (base : Int) (hb : Byt w w.heap.size A xs) (hc : xs.length ≤ c) (hl : xs.length ≤ 1099511627776) (hb0 : 0 ≤ base) (hb1 : base ≤ 1099511627776) :
    Calls Tryd.prog 11 #[.slice A xs.length c, .int .i64 base] w (ReadQ w base (rdN xs)) := by
  obtain ⟨R, hR⟩ : ∃ R, rdN xs = R := ⟨_, rfl⟩
  rw [hR]
  obtain ⟨q, hq⟩ : ∃ q, w.heap.size = q := ⟨_, rfl⟩
  obtain ⟨w1, hw1⟩ : ∃ w1, w.alloc (.cells #[.int .i64 0, .int .i64 0, .bool false, .slice none 0 0, .slice none 0 0] 27) = w1 := ⟨_, rfl⟩
  have HQ := Lib.hid hq
  have HW1 := Lib.hid (show Whole w1 q #[.int .i64 0, .int .i64 0, .bool false, .slice none 0 0, .slice none 0 0] 27 by rw [← hw1, ← hq]; exact Whole.new _ _ _)
  have B1 := Lib.hid (show Below w.heap.size w w1 ∧ w1.heap.size = q + 1 from ⟨by rw [← hw1]; exact (Below.refl _ w).alloc (Nat.le_refl _) _, by rw [← hw1, World.size_alloc, hq]⟩)
  have hrw := readwhole_any w1 (hT.self B1.out.1) A c xs ((byt_below hb B1.out.1 (Nat.le_refl _)).more B1.out.1.size) hc hl
  rw [hR] at hrw
  have hRn : R.n ≤ xs.length := by
    rw [← hR]
    have := (rn_good 8 xs).1
    unfold rdN
    split
    · exact this
    · split
      · exact this
      · exact this
  have HC := Lib.hid hrw
  have hRI : (R.n : Int) ≤ 1099511627776 := by omega
  generalize xs.length = L at *
  clear hb hc hl hR hrw hT hRn
  go_enter Tryd.func11, Tryd.ntmps11
  go_wp2_with fail
  refine HC.out.mono ?_
  rintro e w2 ⟨v, rfl, hnf, hvi, hvc, hvo, b2⟩
  rw [Int.zero_add]
  have HV := Lib.hid (show v.nf = R.v ∧ v.In w2 ∧ v.Cl w2 ∧ v.Off (· < w1.heap.size) from ⟨hnf, hvi, hvc, hvo⟩)
  have B2 := Lib.hid (B1.out.1.trans (b2.mono B1.out.1.size))
  have HW2 := Lib.hid (HW1.out.below b2 HW1.out.lt)
  clear b2 HC hnf hvi hvc hvo hw1 hq
  go_upto_region 2 with (fail)
  obtain ⟨g, hg⟩ : ∃ g, w2.heap.size = g := ⟨_, rfl⟩
  rw [hg]
  have HN3 := Lib.hid (show Whole (w2.alloc (.cells #[.int .i64 v.k, .int .i64 v.t, .bool v.m, .slice v.B v.bs.length v.d, .slice v.A v.ls.length v.c] 27)) g #[.int .i64 v.k, .int .i64 v.t, .bool v.m, .slice v.B v.bs.length v.d, .slice v.A v.ls.length v.c] 27 by rw [← hg]; exact Whole.new _ _ _)
  have HW3 := Lib.hid (HW2.out.grew (grew_alloc (grew_refl w2 none) (.cells #[.int .i64 v.k, .int .i64 v.t, .bool v.m, .slice v.B v.bs.length v.d, .slice v.A v.ls.length v.c] 27)) (by simp))
  have HV3 := Lib.hid (And.intro (HV.out.2.1.grew (grew_alloc (grew_refl w2 none) (.cells #[.int .i64 v.k, .int .i64 v.t, .bool v.m, .slice v.B v.bs.length v.d, .slice v.A v.ls.length v.c] 27))) (HV.out.2.2.1.grew (grew_alloc (grew_refl w2 none) (.cells #[.int .i64 v.k, .int .i64 v.t, .bool v.m, .slice v.B v.bs.length v.d, .slice v.A v.ls.length v.c] 27))))
  have B3 := Lib.hid (B2.out.alloc B2.out.size (.cells #[.int .i64 v.k, .int .i64 v.t, .bool v.m, .slice v.B v.bs.length v.d, .slice v.A v.ls.length v.c] 27))
  generalize w2.alloc (.cells #[.int .i64 v.k, .int .i64 v.t, .bool v.m, .slice v.B v.bs.length v.d, .slice v.A v.ls.length v.c] 27) = w3 at *
  clear hg
  have zf := HW3.out.frozen
  have zc := fun i => HW3.out.cell i
  have y0 : w3.cell? ⟨g, 0, none⟩ = some (.int .i64 v.k) := HN3.out.cell 0
  have y1 : w3.cell? ⟨g, 1, none⟩ = some (.int .i64 v.t) := HN3.out.cell 1
  have y2 : w3.cell? ⟨g, 2, none⟩ = some (.bool v.m) := HN3.out.cell 2
  have y3 : w3.cell? ⟨g, 3, none⟩ = some (.slice v.B v.bs.length v.d) := HN3.out.cell 3
  have y4 : w3.cell? ⟨g, 4, none⟩ = some (.slice v.A v.ls.length v.c) := HN3.out.cell 4
  have HQP := Lib.hid (show w.heap.size ≤ q ∧ q < w1.heap.size ∧ w.heap.size ≤ w1.heap.size by have := HQ.out; have := B1.out.2; omega)
  go_wp2_with fail
  refine dr_leave HW3.out _ _ _ _ _ _ (.int .i64 (base + (R.n : Int))) (.int .i64 R.e) rfl rfl rfl rfl ?_
  exact ⟨v, rfl, HV.out.1, HV3.out.1.fr2 (fr_put5 _ _ _ _ _ _ _) (HV.out.2.2.2.mono (fun i e => by have := HQP.out; omega)), HV3.out.2.fr (fr_put5 _ _ _ _ _ _ _) (HV.out.2.2.2.mono (fun i e => by have := HQP.out; omega)), HV.out.2.2.2.mono (fun i e => by have := HQP.out; omega), below_put5 B3.out HQP.out.1 _ _ _ _ _⟩

/-- Read keeps what the laws' walks ask of it. -/
theorem readE : ReadE := fun w A c xs base hT hb hc hl h0 h1 => (derread_any w hT A c xs base hb hc (by omega) h0 h1).mono fun _ _ ⟨v, he, hn, hi, _, _, hB⟩ => ⟨v, he, hn, hi, hB⟩
end Go.Proofs.YtnjnghbonmdbdaaDoor


/- The document's examples of layer 11. -/
namespace Go.Proofs.YtnjnghbonmdbdaaDoor
open Go.RowKit Nd

/-- Read of bytes in new memory. -/
theorem derread_new (w : World) (hT : Tb w) (cs : Array Value) (xs : List UInt8) (hcs : cs.toList = cellsOf xs) (m : Nat) (hm : xs.length = m) (h100 : m ≤ 100) (E : Int) (n : Nat) (V : Nd) (hR : rdN xs = ⟨E, n, V⟩) :
    Calls Tryd.prog 11 #[.slice (some ⟨w.heap.size, 0, none⟩) m m, .int .i64 0] (w.alloc (.cells cs 5)) fun e w' =>
      ∃ v : Nd, e = .returned (.tuple #[.agg #[.int .i64 v.k, .int .i64 v.t, .bool v.m, .slice v.B v.bs.length v.d, .slice v.A v.ls.length v.c], .int .i64 (n : Int), .int .i64 E]) ∧ v.nf = V ∧ v.In w' ∧ Below w.heap.size w w' := by
  subst hm
  have hw := Whole.new w cs 5
  have hb : Byt (w.alloc (.cells cs 5)) (w.alloc (.cells cs 5)).heap.size (some ⟨w.heap.size, 0, none⟩) xs := by
    intro _
    refine ⟨w.heap.size, 0, rfl, by simp, fun i hi => ?_⟩
    rw [hw.cell, ← Array.getElem?_toList, hcs, Nat.zero_add, cellsOf_at _ _ hi]
  refine (derread_any _ (hT.alloc _) (some ⟨w.heap.size, 0, none⟩) xs.length xs 0 hb (Nat.le_refl _) (by omega) (by omega) (by omega)).mono ?_
  rintro e w' ⟨v, he, hn, hi, _, _, hB⟩
  rw [hR, Int.zero_add] at he
  rw [hR] at hn
  exact ⟨v, he, hn, hi, ((Below.refl _ w).alloc (Nat.le_refl _) _).trans (hB.mono (by simp))⟩

theorem ex_one : rdN [48, 3, 2, 1, 5] = ⟨0, 5, .mk 0 16 true none 0 [] none 0 [.mk 0 2 false none 0 [5] none 0 []]⟩ := by kernel_rfl
theorem ex_two : rdN [48, 3, 2, 1] = ⟨4, 4, .z⟩ := by kernel_rfl
theorem ex_three : rdN [48, 2, 5, 1] = ⟨4, 4, .z⟩ := by kernel_rfl
theorem ex_four : rdN [5, 1, 0] = ⟨13, 2, .z⟩ := by kernel_rfl
/-- The sequence of the integer 5. -/
theorem ex_five {v : Nd} (h : v.nf = .mk 0 16 true none 0 [] none 0 [.mk 0 2 false none 0 [5] none 0 []]) : v.m = true ∧ ∃ p : Nd, v.ls = [p] ∧ p.bs = [5] := by
  obtain ⟨k, t, m, B, d, bs, A, c, ls⟩ := v
  rw [nf] at h
  injection h with _ _ hm _ _ _ _ _ hl
  refine ⟨hm, ?_⟩
  have hlen : ls.length = 1 := by have := congrArg List.length hl; rwa [nfs_length] at this
  obtain ⟨p, rfl⟩ := List.length_eq_one_iff.1 hlen
  obtain ⟨k', t', m', B', d', bs', A', c', ls'⟩ := p
  rw [nfs, nfs, nf] at hl
  injection hl with hl _
  injection hl with _ _ _ _ _ hb
  exact ⟨_, rfl, hb⟩

set_option maxRecDepth 100000 in
set_option maxHeartbeats 2000000 in
theorem alive11_any (w : World) (hT : Tb w) : Calls Tryd.prog 10 #[] w fun e w' => e = .returned (.bool true) ∧ Below w.heap.size w w' := by
  have HT := Lib.hid hT
  clear hT
  go_enter Tryd.func10, Tryd.ntmps10
  have r1 := derread_new w HT.out #[.int .u8 48, .int .u8 3, .int .u8 2, .int .u8 1, .int .u8 5] [48, 3, 2, 1, 5] rfl 5 rfl (by omega) 0 5 (.mk 0 16 true none 0 [] none 0 [.mk 0 2 false none 0 [5] none 0 []]) ex_one
  have HR1 := Lib.hid r1
  clear r1
  go_wp2_with fail
  refine HR1.out.mono ?_
  rintro e x1 ⟨v1, rfl, hn1, hi1, b1⟩
  clear HR1
  have HV := Lib.hid (And.intro hn1 hi1)
  have BB1 := Lib.hid b1
  clear b1 hn1 hi1
  go_upto_region 2 with (fail)
  obtain ⟨q, hq⟩ : ∃ q, x1.heap.size = q := ⟨_, rfl⟩
  rw [hq]
  have HX := Lib.hid (show Whole (x1.alloc (.cells #[.int .i64 v1.k, .int .i64 v1.t, .bool v1.m, .slice v1.B v1.bs.length v1.d, .slice v1.A v1.ls.length v1.c] 27)) q #[.int .i64 v1.k, .int .i64 v1.t, .bool v1.m, .slice v1.B v1.bs.length v1.d, .slice v1.A v1.ls.length v1.c] 27 by rw [← hq]; exact Whole.new _ _ _)
  have HV := Lib.hid (show v1.nf = (.mk 0 16 true none 0 [] none 0 [.mk 0 2 false none 0 [5] none 0 []]) ∧ v1.In (x1.alloc (.cells #[.int .i64 v1.k, .int .i64 v1.t, .bool v1.m, .slice v1.B v1.bs.length v1.d, .slice v1.A v1.ls.length v1.c] 27)) from ⟨HV.out.1, HV.out.2.grew (grew_alloc (grew_refl x1 none) _)⟩)
  have B1 := Lib.hid (BB1.out.alloc BB1.out.size (.cells #[.int .i64 v1.k, .int .i64 v1.t, .bool v1.m, .slice v1.B v1.bs.length v1.d, .slice v1.A v1.ls.length v1.c] 27))
  clear BB1 hq
  generalize x1.alloc (.cells #[.int .i64 v1.k, .int .i64 v1.t, .bool v1.m, .slice v1.B v1.bs.length v1.d, .slice v1.A v1.ls.length v1.c] 27) = W1 at *
  have r2 := derread_new W1 (HT.out.self B1.out) #[.int .u8 48, .int .u8 3, .int .u8 2, .int .u8 1] [48, 3, 2, 1] rfl 4 rfl (by omega) 4 4 .z ex_two
  have HR2 := Lib.hid r2
  clear r2
  go_wp2_with fail
  refine HR2.out.mono ?_
  rintro e x2 ⟨v2, rfl, hn2, hi2, b2⟩
  clear HR2
  have HV := Lib.hid (show v1.nf = (.mk 0 16 true none 0 [] none 0 [.mk 0 2 false none 0 [5] none 0 []]) ∧ v1.In x2 from ⟨HV.out.1, HV.out.2.grew (grew_of_below b2)⟩)
  have HX := Lib.hid (HX.out.below b2 HX.out.lt)
  have BB2 := Lib.hid (B1.out.trans (b2.mono B1.out.size))
  clear b2 hn2 hi2
  go_upto_region 3 with (fail)
  have HX := Lib.hid (HX.out.grew (grew_alloc (grew_refl x2 none) (.cells #[.int .i64 v2.k, .int .i64 v2.t, .bool v2.m, .slice v2.B v2.bs.length v2.d, .slice v2.A v2.ls.length v2.c] 27)) (by simp))
  have HV := Lib.hid (show v1.nf = (.mk 0 16 true none 0 [] none 0 [.mk 0 2 false none 0 [5] none 0 []]) ∧ v1.In (x2.alloc (.cells #[.int .i64 v2.k, .int .i64 v2.t, .bool v2.m, .slice v2.B v2.bs.length v2.d, .slice v2.A v2.ls.length v2.c] 27)) from ⟨HV.out.1, HV.out.2.grew (grew_alloc (grew_refl x2 none) _)⟩)
  have B2 := Lib.hid (BB2.out.alloc BB2.out.size (.cells #[.int .i64 v2.k, .int .i64 v2.t, .bool v2.m, .slice v2.B v2.bs.length v2.d, .slice v2.A v2.ls.length v2.c] 27))
  clear BB2
  generalize x2.alloc (.cells #[.int .i64 v2.k, .int .i64 v2.t, .bool v2.m, .slice v2.B v2.bs.length v2.d, .slice v2.A v2.ls.length v2.c] 27) = W2 at *
  generalize x2.heap.size = y2 at *
  have r3 := derread_new W2 (HT.out.self B2.out) #[.int .u8 48, .int .u8 2, .int .u8 5, .int .u8 1] [48, 2, 5, 1] rfl 4 rfl (by omega) 4 4 .z ex_three
  have HR3 := Lib.hid r3
  clear r3
  go_wp2_with fail
  refine HR3.out.mono ?_
  rintro e x3 ⟨v3, rfl, hn3, hi3, b3⟩
  clear HR3
  have HV := Lib.hid (show v1.nf = (.mk 0 16 true none 0 [] none 0 [.mk 0 2 false none 0 [5] none 0 []]) ∧ v1.In x3 from ⟨HV.out.1, HV.out.2.grew (grew_of_below b3)⟩)
  have HX := Lib.hid (HX.out.below b3 HX.out.lt)
  have BB3 := Lib.hid (B2.out.trans (b3.mono B2.out.size))
  clear b3 hn3 hi3
  go_upto_region 4 with (fail)
  have HX := Lib.hid (HX.out.grew (grew_alloc (grew_refl x3 none) (.cells #[.int .i64 v3.k, .int .i64 v3.t, .bool v3.m, .slice v3.B v3.bs.length v3.d, .slice v3.A v3.ls.length v3.c] 27)) (by simp))
  have HV := Lib.hid (show v1.nf = (.mk 0 16 true none 0 [] none 0 [.mk 0 2 false none 0 [5] none 0 []]) ∧ v1.In (x3.alloc (.cells #[.int .i64 v3.k, .int .i64 v3.t, .bool v3.m, .slice v3.B v3.bs.length v3.d, .slice v3.A v3.ls.length v3.c] 27)) from ⟨HV.out.1, HV.out.2.grew (grew_alloc (grew_refl x3 none) _)⟩)
  have B3 := Lib.hid (BB3.out.alloc BB3.out.size (.cells #[.int .i64 v3.k, .int .i64 v3.t, .bool v3.m, .slice v3.B v3.bs.length v3.d, .slice v3.A v3.ls.length v3.c] 27))
  clear BB3
  generalize x3.alloc (.cells #[.int .i64 v3.k, .int .i64 v3.t, .bool v3.m, .slice v3.B v3.bs.length v3.d, .slice v3.A v3.ls.length v3.c] 27) = W3 at *
  generalize x3.heap.size = y3 at *
  have r4 := derread_new W3 (HT.out.self B3.out) #[.int .u8 5, .int .u8 1, .int .u8 0] [5, 1, 0] rfl 3 rfl (by omega) 13 2 .z ex_four
  have HR4 := Lib.hid r4
  clear r4
  go_wp2_with fail
  refine HR4.out.mono ?_
  rintro e x4 ⟨v4, rfl, hn4, hi4, b4⟩
  clear HR4
  have HV := Lib.hid (show v1.nf = (.mk 0 16 true none 0 [] none 0 [.mk 0 2 false none 0 [5] none 0 []]) ∧ v1.In x4 from ⟨HV.out.1, HV.out.2.grew (grew_of_below b4)⟩)
  have HX := Lib.hid (HX.out.below b4 HX.out.lt)
  have BB4 := Lib.hid (B3.out.trans (b4.mono B3.out.size))
  clear b4 hn4 hi4
  go_upto_region 5 with (fail)
  have HX := Lib.hid (HX.out.grew (grew_alloc (grew_refl x4 none) (.cells #[.int .i64 v4.k, .int .i64 v4.t, .bool v4.m, .slice v4.B v4.bs.length v4.d, .slice v4.A v4.ls.length v4.c] 27)) (by simp))
  have HV := Lib.hid (show v1.nf = (.mk 0 16 true none 0 [] none 0 [.mk 0 2 false none 0 [5] none 0 []]) ∧ v1.In (x4.alloc (.cells #[.int .i64 v4.k, .int .i64 v4.t, .bool v4.m, .slice v4.B v4.bs.length v4.d, .slice v4.A v4.ls.length v4.c] 27)) from ⟨HV.out.1, HV.out.2.grew (grew_alloc (grew_refl x4 none) _)⟩)
  have B4 := Lib.hid (BB4.out.alloc BB4.out.size (.cells #[.int .i64 v4.k, .int .i64 v4.t, .bool v4.m, .slice v4.B v4.bs.length v4.d, .slice v4.A v4.ls.length v4.c] 27))
  clear BB4
  generalize x4.alloc (.cells #[.int .i64 v4.k, .int .i64 v4.t, .bool v4.m, .slice v4.B v4.bs.length v4.d, .slice v4.A v4.ls.length v4.c] 27) = W4 at *
  generalize x4.heap.size = y4 at *
  obtain ⟨hm, p, hls, hbs⟩ := ex_five HV.out.1
  have hin := HV.out.2
  obtain ⟨b, o, p2, hA, hp2, hpm, k0, k1, k2, k3, k4⟩ := hin.list.1.at (i := 0) (by rw [hls]; simp)
  obtain rfl : p = p2 := by rw [hls] at hp2; simpa using hp2
  have hpi := hin.parts p (by rw [hls]; simp)
  have hcv := conv_txt (P := Tryd.prog) W4 Tryd.underlying22 Tryd.underlying5 Tryd.underlying9 hpi.bytes.1 (n := 1) (by rw [hbs]; rfl) p.d
  have t2 : W4.cell? ⟨q, 2, none⟩ = some (.bool true) := by rw [← hm]; exact HX.out.cell 2
  have t4 : W4.cell? ⟨q, 4, none⟩ = some (.slice (some ⟨b, o, none⟩) 1 v1.c) := by rw [HX.out.cell 4, hA, hls]; rfl
  rw [Nat.zero_mul, Nat.add_zero, hbs, show ([5] : List UInt8).length = 1 from rfl] at k3
  rw [hbs, show txt [5] = ⟨#[5]⟩ from rfl] at hcv
  have hse : ((⟨#[5]⟩ : ByteArray).toList == (⟨#[5]⟩ : ByteArray).toList) = true := BEq.rfl
  clear hm hls hbs hin hA hp2 hpm k0 k1 k2 k4 hpi HV HX
  go_wp2_with fail
  go_ret
  exact ⟨rfl, B4.out⟩
theorem aliveE : AliveE := alive11_any
end Go.Proofs.YtnjnghbonmdbdaaDoor


/- How arguments that came in are opened: bytes, numbers, acts. -/
namespace Go.Proofs.YtnjnghbonmdbdaaDoor
open Go.ChangeShapes Go.WideShapes Go.ChangeAt Go.RowKit Go.Deep

set_option maxRecDepth 100000 in
theorem own : ownKnob Tryd.prog.godebug = none := by kernel_rfl
set_option maxRecDepth 100000 in
theorem laidOut : laidOutB Tryd.prog = true := by kernel_rfl
set_option maxRecDepth 100000 in
theorem bytes_u8 : Tryd.prog.bytesOf 5 = 1 := by kernel_rfl
set_option maxRecDepth 100000 in
theorem bytes_int : Tryd.prog.bytesOf 3 = 8 := by kernel_rfl
set_option maxRecDepth 100000 in
theorem cells_u8 : Tryd.prog.cellsOf 5 = 1 := by kernel_rfl
set_option maxRecDepth 100000 in
theorem cells_int : Tryd.prog.cellsOf 3 = 1 := by kernel_rfl

set_option maxRecDepth 100000 in
theorem add_zero_of_cell {w : World} {a : Addr} {n : Nat} {v : Value} (h : w.cell? (a.add n) = some v) : n = 0 → a.spot = none := by
  intro e
  subst e
  have := World.cell?_spot h
  simpa [Addr.add] using this

set_option maxRecDepth 100000 in
theorem add_form (b o n : Nat) : (⟨b, o, none⟩ : Addr).add n = ⟨b, o + n, none⟩ := by
  unfold Addr.add
  split <;> simp_all

section
variable {H : Type} {enc : TypeId × Value → H} {W : World} {v : Value} {d : DataW H} {p : List MemPlace} {base : Nat} {ts : List TypeId} {ds : List (DataW H)}

set_option maxRecDepth 100000 in
/-- Bytes that came in. -/
theorem arg_bytes (hv : Value.okWide Tryd.prog W .any base 22 v) (h : DataW.Trod enc Tryd.prog W 0 (fun _ => true) true 22 v d p)
    (hsz : (DataW.weightsEach Tryd.prog ts ds).all (· ≤ reachBytes) = true) {j : Nat} (hj : ts[j]? = some 22) (hd : ds[j]? = some d) :
    ∃ (A : Option Addr) (c : Nat) (xs : List UInt8), v = .slice A xs.length c ∧ xs.length ≤ c ∧ c ≤ 140737488351232 ∧ Byt W W.heap.size A xs := by
  obtain ⟨A, n, c, rfl⟩ := okWide_slice Tryd.underlying22 hv
  obtain ⟨fuel, hf⟩ := h
  rcases open_ints Tryd.underlying22 Tryd.underlying5 cells_u8 hf with ⟨hcs, _⟩ | ⟨x, l, c', zs, hcs, _, hl, hm, hz, hx, hcell, hwz⟩
  · simp [Value.cells] at hcs
    obtain ⟨rfl, rfl, rfl⟩ := hcs
    exact ⟨none, 0, [], rfl, Nat.le_refl _, by omega, fun h => by simp at h⟩
  · simp [Value.cells] at hcs
    obtain ⟨rfl, rfl, rfl⟩ := hcs
    simp only [Prod.mk.injEq] at hx
    obtain ⟨rfl, rfl⟩ := hx
    simp only [if_true] at hz
    have hreach : c ≤ 140737488351232 := by
      have := sized_slice hsz hj hd Tryd.underlying22
      rw [bytes_u8] at this
      simp only [lits, List.length_map, List.length_take, List.length_drop, reachBytes] at this
      omega
    have hle : ((zs.take n).map fun z => UInt8.ofNat z.toNat).length = n := by
      rw [List.length_map, List.length_take]; omega
    refine ⟨some x, c, (zs.take n).map fun z => UInt8.ofNat z.toNat, by rw [hle], by rw [hle]; exact hl, hreach, ?_⟩
    intro hn
    rw [hle] at hn ⊢
    obtain ⟨b, o, s⟩ := x
    have hs : s = none := by
      have := add_zero_of_cell (hcell 0 (by omega)) rfl
      exact this
    subst hs
    refine ⟨b, o, rfl, ?_, fun i hi => ?_⟩
    · have := World.block_lt_of_cell? _ _ (hcell 0 (by omega))
      rwa [add_form] at this
    · have h1 := hcell i (by omega)
      rw [add_form] at h1
      rw [h1]
      have hi' : i < zs.length := by omega
      have hm : zs[i] ∈ zs := List.getElem_mem hi'
      have hw := hwz _ hm
      have hb := bounds_u8 hw
      simp only [List.getD, List.getElem?_map, List.getElem?_take_of_lt hi, List.getElem?_eq_getElem hi', Option.map_some, Option.getD_some]
      congr 2
      simp
      omega

/-- Numbers that came in. -/
def Nums (w : World) (A : Option Addr) (zs : List Int) : Prop :=
  0 < zs.length → ∃ b o, A = some ⟨b, o, none⟩ ∧ b < w.heap.size ∧ ∀ i, i < zs.length → w.cell? ⟨b, o + i, none⟩ = some (.int .i64 (zs.getD i 0))

end
end Go.Proofs.YtnjnghbonmdbdaaDoor

