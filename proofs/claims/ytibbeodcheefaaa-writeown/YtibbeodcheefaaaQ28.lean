/- The document's reader, of bytes that are right: lists. -/
import Derived.Test.YtibbeodcheefaaaQ27
import Derived.StillTailTactics
import Derived.Test.YtibbeodcheefaaaQ21
import Derived.Test.YtibbeodcheefaaaQ22
import Derived.Test.YtibbeodcheefaaaQ23
import Derived.Test.YtibbeodcheefaaaQ25
import Derived.Test.YtibbeodcheefaaaQ14
namespace Go.Proofs.Ytibbeodcheefaaa
open Go.RowKit Va


set_option maxRecDepth 100000 in
set_option maxHeartbeats 4000000 in
theorem rf_2 (w0 w : World) (p : Nat) (A : Option Addr) (xs : List UInt8) (c i e st : Nat) (hpre : Pre6 w0 w p A xs c i e st) (v : Va) (s : Nat) (l hh t : Int) (N : Nat) (fA : Option Addr) (fc : Nat) (ps : List Fo) (hin : Fo.In w0 (.mk 2 s l hh t fA fc ps)) (hnf : v.nf = .mk 0 none 0 [] none 0 (nfs v.ls)) (hcn : v.cnt = cnts v.ls + 1) (hll : v.ls.length ≤ 1000000) (o : Nat → Nat) (g : Nat → Fo) (hg : 0 < ps.length ∧ ∀ j pf, ps[0]? = some pf → g j = pf) (ho : o 0 = 0 ∧ o v.ls.length = N ∧ ∀ j, j < v.ls.length → o j < N) (hs : 1 ≤ s ∧ s ≤ 3) (hNl : N < 256 ^ s) (h1 : l ≤ N) (h2 : (N : Int) ≤ hh) (h3 : (N : Int) % t = 0) (ht : 1 ≤ t) (hbs : (xs.drop i).take s = be s N) (hk : i + s + N ≤ e) (hel : Elem6 w0 p A xs c (i + s) (i + s + N) (st + 1) o g v.ls) (hst : st + v.cnt ≤ 1000000) :
    Calls Try.prog 30 #[.pointer (some ⟨p, 0, none⟩), .agg #[.int .i64 2, .int .i64 s, .int .i64 l, .int .i64 hh, .int .i64 t, .slice fA ps.length fc]] w (Got6 w p A xs.length c i e st (s + N) v) := by
  have HIN := Lib.hid hin
  have HEL := Lib.hid hel
  have HG := Lib.hid hg
  have HLL := Lib.hid hll
  have HO := Lib.hid ho
  clear hin hel hg hll ho
  obtain ⟨g1, k0, k1, ks⟩ := two_new w #[.int .i64 2, .int .i64 s, .int .i64 l, .int .i64 hh, .int .i64 t, .slice fA ps.length fc] 24 #[.int .u64 0, .slice none 0 0, .slice none 0 0] 29
  have hp := Whole.lt hpre.rr
  have hR1 : Rr ((w.alloc (.cells #[.int .i64 2, .int .i64 s, .int .i64 l, .int .i64 hh, .int .i64 t, .slice fA ps.length fc] 24)).alloc (.cells #[.int .u64 0, .slice none 0 0, .slice none 0 0] 29)) p A xs.length c i e st := Whole.grew hpre.rr g1 (by simp)
  have G1 := Lib.hid g1
  have K0 := Lib.hid k0
  have K1 := Lib.hid k1
  have HR1 := Lib.hid hR1
  have PRE := Lib.hid hpre
  have hst' : st ≤ 1000000 := by omega
  obtain ⟨r0, r1, r2, r4, r5, r6⟩ := hR1.cells
  have f5 := Whole.frozen hR1 5
  clear g1 k0 k1 hR1 hpre
  have pw : IntKind.i64.wrap ((st : Int) + 1) = (st : Int) + 1 := IntWalk.i64_in _ (by omega)
  go_enter Try.func30, Try.ntmps30
  go_upto_region 3 with (fail)
  generalize (w.alloc (.cells #[.int .i64 2, .int .i64 s, .int .i64 l, .int .i64 hh, .int .i64 t, .slice fA ps.length fc] 24)).alloc (.cells #[.int .u64 0, .slice none 0 0, .slice none 0 0] 29) = W at *
  generalize hq : w.heap.size = q at *
  have HQ := Lib.hid hq
  have KS := Lib.hid ks
  clear hq ks
  have hm : decide ((1099511627776 : Int) ≤ (st : Int)) = false := decide_eq_false (by omega)
  go_quiet (fail)

  clear hm
  go_upto_region 7 with (fail)
  have hF : Fr w ((W.drewN nq).setCell ⟨p, 5, none⟩ (.int .i64 ((st : Int) + 1))) (fun j => j = p) := ((fr_of G1.out).trans ((Fr.refl W (fun j => j = p)).drewN nq) (fun _ _ h => h)).trans (fr_cell _ _ _ _) (fun _ _ h => h)
  have hFW : Fr W ((W.drewN nq).setCell ⟨p, 5, none⟩ (.int .i64 ((st : Int) + 1))) (fun j => j = p) := ((Fr.refl W (fun j => j = p)).drewN nq).trans (fr_cell _ _ _ _) (fun _ _ h => h)
  have hR2 : Rr ((W.drewN nq).setCell ⟨p, 5, none⟩ (.int .i64 ((st : Int) + 1))) p A xs.length c i e (st + 1) := Rr.set5 (w := W.drewN nq) HR1.out (st + 1)
  have k0 := K0.out.fr hFW (show ¬ q = p by omega)
  have k1 := K1.out.fr hFW (show ¬ q + 1 = p by omega)
  clear r0 r1 r2 r4 r5 r6 f5 pw
  generalize (W.drewN nq).setCell ⟨p, 5, none⟩ (.int .i64 ((st : Int) + 1)) = X at *
  have HF := Lib.hid hF
  have HR2 := Lib.hid hR2
  have K0' := Lib.hid k0
  have K1' := Lib.hid k1
  have hXs : q + 2 ≤ X.heap.size := by have := hFW.size; have := KS.out; omega
  clear hF hFW hR2 k0 k1 HR1 K0 K1 G1
  obtain ⟨a0, a1, a2, a3, a4, a5⟩ := K0'.out.six

  go_upto_region 22 with (fail)
  have ga := grew_alloc (grew_refl X none) (.cells #[.int .u64 0, .slice none 0 0, .slice none 0 0] 29)
  have kz := Whole.new X #[.int .u64 0, .slice none 0 0, .slice none 0 0] 29
  have k0 := K0'.out.grew ga (by simp)
  have k1 := K1'.out.grew ga (by simp)
  have r2 : Rr (X.alloc (.cells #[.int .u64 0, .slice none 0 0, .slice none 0 0] 29)) p A xs.length c i e (st + 1) := Whole.grew HR2.out ga (by simp)
  have fz := kz.frozen
  obtain ⟨y0, y1, y2⟩ := kz.three
  have G2 := Lib.hid ga
  clear a0 a1 a2 a3 a4 a5
  obtain ⟨a0, a1, a2, a3, a4, a5⟩ := k0.six
  have KZ := Lib.hid kz
  have K0 := Lib.hid k0
  have K1 := Lib.hid k1
  have R2 := Lib.hid r2
  clear ga kz k0 k1 r2 K0' K1' HR2
  go_upto_region 29 with (fail)
  generalize X.alloc (.cells #[.int .u64 0, .slice none 0 0, .slice none 0 0] 29) = X0 at *
  generalize hz : X.heap.size = z at *
  have hF0 := (HF.out.trans (fr_of G2.out (F := fun j => j = p)) (fun _ _ h => h))
  have hF1 := hF0
  have kz := KZ.out
  have k0 := K0.out
  have k1 := K1.out
  have r2 := R2.out
  clear hF0 KZ K0 K1 R2 y0 y1 y2 fz a0 a1 a2 a3 a4 a5 HF G2
  generalize X0 = X1 at *
  have HLN := Lib.hid (rr_length X1 p A xs c i e (st + 1) r2 s l hh t fA fc ps N ⟨w0.heap.size, PRE.out.lo, ((PRE.out.by'.grew PRE.out.g (fun _ h => by cases h)).byf).fr hF1 (fun j hj e => by have := PRE.out.lo; omega)⟩ hs hbs hNl h1 h2 h3 ht hk PRE.out.he PRE.out.hn (by have := PRE.out.hc; omega) 2)
  obtain ⟨a0, a1, a2, a3, a4, a5⟩ := k0.six
  have HF1 := Lib.hid hF1
  have K0 := Lib.hid k0
  have K1 := Lib.hid k1
  have KZ := Lib.hid kz
  clear hF1 kz k0 k1 r2 hbs hNl h1 h2 h3 ht
  go_wp2_with fail
  refine HLN.out.mono ?_
  rintro r X2 ⟨rfl, r3, f3⟩
  obtain ⟨r30, r31, r32, r34, r35, r36⟩ := r3.cells
  have fz2 := Whole.frozen r3 2
  have R3 := Lib.hid r3
  have F3 := Lib.hid f3
  obtain ⟨is, his⟩ : ∃ is, is = i + s := ⟨_, rfl⟩
  obtain ⟨en, hen⟩ : ∃ en, en = i + s + N := ⟨_, rfl⟩
  rw [← his] at r31
  have pw : IntKind.i64.wrap ((is : Int) + N) = (en : Int) := by rw [show (is : Int) + N = (en : Int) by omega]; exact IntWalk.i64_in _ (by have := PRE.out.hc; have := PRE.out.he; omega)
  have HIS := Lib.hid his
  have HEN := Lib.hid hen
  clear r3 f3 HLN a0 a1 a2 a3 a4 a5 his hen
  go_upto_region 34 with (fail)
  clear pw r30 r31 r32 r34 r35 r36 fz2
  have his := HIS.out
  have hen := HEN.out
  clear HIS HEN
  subst hen his
  have hfr : Fr X1 (X2.setCell ⟨p, 2, none⟩ (.int .i64 ((i + s + N : Nat) : Int))) (fun j => j = p) := F3.out.trans (fr_cell _ _ _ _) (fun _ _ h => h)
  have HB := Lib.hid (show Bld w (X2.setCell ⟨p, 2, none⟩ (.int .i64 ((i + s + N : Nat) : Int))) p z A xs.length c (i + s) (i + s + N) (st + 1) #[.int .i64 2, .int .i64 s, .int .i64 l, .int .i64 hh, .int .i64 t, .slice fA ps.length fc] o v.ls 0 (.slice none 0 0) [] from
    ⟨HF1.out.trans hfr (fun _ _ h => h), by rw [HO.out.1]; exact Rr.set2 R3.out (i + s + N), by rw [HQ.out]; exact K0.out.fr hfr (show ¬ q = p by omega), by rw [HQ.out]; exact K1.out.fr hfr (show ¬ q + 1 = p by omega), KZ.out.fr hfr (show ¬ z = p by omega), ⟨rfl, .inl ⟨rfl, rfl⟩⟩, fun b hb => (by cases hb), fun u hu => (by simp at hu), rfl, rfl, by rw [HQ.out]; exact hXs, by rw [HQ.out]; exact hp⟩)
  clear hfr R3 F3 K0 K1 KZ HF1
  generalize X2.setCell ⟨p, 2, none⟩ (.int .i64 ((i + s + N : Nat) : Int)) = X3 at *
  have HZP := Lib.hid (show p < q ∧ q + 2 ≤ z from ⟨hp, hXs⟩)
  go_loopg [] (v.ls.length) (fun gi wr => ∃ (j : Nat) (V : Value) (us : List Va), j ≤ v.ls.length ∧ gi = v.ls.length - j ∧ Hid (Bld w wr p z A xs.length c (i + s) (i + s + N) (st + 1) #[.int .i64 2, .int .i64 s, .int .i64 l, .int .i64 hh, .int .i64 t, .slice fA ps.length fc] o v.ls j V us))
  case atStart => exact ⟨0, _, [], Nat.zero_le _, rfl, HB⟩
  case round =>
    obtain ⟨j, V, us, hj, hgi, R⟩ := hrel
    have HGI := Lib.hid hgi
    clear hgi
    have hk0 := R.out.k0
    have hk1 := R.out.k1
    rw [HQ.out] at hk0 hk1
    have K0 := Lib.hid hk0
    have K1 := Lib.hid hk1
    obtain ⟨b0, b1, b2, b3, b4, b5⟩ := hk0.six
    obtain ⟨m0, m1, m2⟩ := R.out.k2.three
    clear hk0 hk1
    obtain ⟨n0, n1, n2, n4, n5, n6⟩ := R.out.rr.cells
    obtain ⟨ij, hij⟩ : ∃ ij, ij = i + s + o j := ⟨_, rfl⟩
    obtain ⟨ee, hee⟩ : ∃ ee, ee = i + s + N := ⟨_, rfl⟩
    rw [← hij] at n1
    rw [← hee] at n2
    have HIJ := Lib.hid hij
    have HEE := Lib.hid hee
    clear hij hee
    by_cases hlt : j < v.ls.length
    · have hltI : ij < ee := by have := HO.out.2.2 j hlt; have := HIJ.out; have := HEE.out; omega
      go_upto_region 34 with (fail)
      go_quiet (fail)
      clear n0 n1 n2 n4 n5 n6
      go_upto_region 35 with (fail)
      clear hltI
      have hR' : Bld w (wr.drewN nq) p z A xs.length c (i + s) (i + s + N) (st + 1) #[.int .i64 2, .int .i64 s, .int .i64 l, .int .i64 hh, .int .i64 t, .slice fA ps.length fc] o v.ls j V us := R.out.drewN nq
      have hK' : Whole (wr.drewN nq) q #[.int .i64 2, .int .i64 s, .int .i64 l, .int .i64 hh, .int .i64 t, .slice fA ps.length fc] 24 := K0.out
      clear R K0 K1 b0 b1 b2 b3 b4 b5 m0 m1 m2
      generalize wr.drewN nq = wo at *
      clear wr
      rename World => wr
      obtain ⟨b0, b1, b2, b3, b4, b5⟩ := hK'.six
      obtain ⟨m0, m1, m2⟩ := hR'.k2.three
      have R := Lib.hid hR'
      have K0 := Lib.hid hK'
      clear hR' hK' 
      obtain ⟨bf, of, pf, hA, hpf, hpm, hpi, d0, d1, d2, d3, d4, d5⟩ := HIN.out.at (i := 0) (HG.out.1)
      subst hA
      obtain ⟨u, hu⟩ : ∃ u, v.ls[j]? = some u := ⟨_, List.getElem?_eq_getElem hlt⟩
      have hbf : bf < w0.heap.size := by have := World.block_lt_of_cell? _ _ d0; exact this
      have hg0 : Grew w0 wr none := grew_fr PRE.out.g R.out.fr (fun k e => by have := PRE.out.lo; omega)
      have hoj : i + s + o j ≤ i + s + N ∧ i + s + N ≤ e := by have := HO.out.2.2 j hlt; omega
      obtain ⟨zz, hzz, hcv⟩ := HEL.out j u hu (World.drew wr) (PRE.out.fr (F := fun k => k = p) (R.out.fr.drew) (fun k e => by have := PRE.out.lo; omega) R.out.rr (by omega) (by have := PRE.out.he; omega))
      rw [HG.out.2 j pf hpf] at hcv
      have HCV := Lib.hid hcv
      have HZZ := Lib.hid hzz
      have d0' := hg0.cell d0 (by simp)
      have d1' := hg0.cell d1 (by simp)
      have d2' := hg0.cell d2 (by simp)
      have d3' := hg0.cell d3 (by simp)
      have d4' := hg0.cell d4 (by simp)
      have d5' := hg0.cell d5 (by simp)
      have n1 : ¬ (q = p ∨ V.ownBlock = some q ∨ q = z) := fun e => by
        have := HZP.out
        rcases e with e | e | e
        · omega
        · have := R.out.hi _ e; omega
        · omega
      have n2 : ¬ (bf = p ∨ V.ownBlock = some bf ∨ bf = z) := fun e => by
        have := HZP.out
        have := PRE.out.lo
        rcases e with e | e | e
        · omega
        · have := R.out.hi _ e; omega
        · omega
      have HN := Lib.hid (show _ ∧ _ from ⟨n1, n2⟩)
      have HU := Lib.hid hu
      have K2 := Lib.hid (show _ ∧ _ from ⟨m2, m1⟩)
      clear hcv hzz hpm hpi hpf d0 d1 d2 d3 d4 d5 hbf hg0 hoj n1 n2 hu b0 b1 b2 b3 b4 m0 m1 m2
      have GS := Lib.hid (show (fun w' => Fr wr w' (fun i => i = p ∨ V.ownBlock = some i ∨ i = z)) (World.drew wr) from (Fr.refl _ _).drew)
      refine act_letterC (fun A1 hA1 => ?_)
      have d0 : A1.eval (.tmp 0) = .pointer (some ⟨p, 0, none⟩) := by rw [← hA1]; rfl
      have d3 : A1.eval (.tmp 3) = .pointer (some ⟨q, 0, none⟩) := by rw [← hA1]; rfl
      have d7 : A1.eval (.tmp 7) = .pointer (some ⟨z, 0, none⟩) := by rw [← hA1]; rfl
      have szA1 : A1.tmps.size = 188 := by rw [← hA1]; rfl
      have HA1 := Lib.hid hA1
      clear hA1
      refine wp_region_held (S := fun w' => Fr wr w' (fun i => i = p ∨ V.ownBlock = some i ∨ i = z)) (by kernel_rfl) ?_
      change wpAnyH _ _ _ _ _ _ _ _ (World.drew wr)
      refine wpAnyH_take (i := 0) (v := .pointer (some ⟨z, 2, none⟩)) rfl (by kernel_rfl) (by kernel_rfl) (by kernel_rfl) (fun _ _ _ h => h) (.inl ⟨rfl, fun w g => run_fv2 rfl d7 w⟩) GS.out ?_
      refine act_letter (fun A2 hA2 => ?_)
      replace d0 : A2.eval (.tmp 0) = .pointer (some ⟨p, 0, none⟩) := by rw [← hA2]; exact (ev_ne A1 (m := 172) (n := 0) (.pointer (some ⟨z, 2, none⟩)) (by decide)).trans d0
      replace d3 : A2.eval (.tmp 3) = .pointer (some ⟨q, 0, none⟩) := by rw [← hA2]; exact (ev_ne A1 (m := 172) (n := 3) (.pointer (some ⟨z, 2, none⟩)) (by decide)).trans d3
      replace d7 : A2.eval (.tmp 7) = .pointer (some ⟨z, 0, none⟩) := by rw [← hA2]; exact (ev_ne A1 (m := 172) (n := 7) (.pointer (some ⟨z, 2, none⟩)) (by decide)).trans d7
      have e172 : A2.eval (.tmp 172) = .pointer (some ⟨z, 2, none⟩) := by rw [← hA2]; exact ev_self A1 172 (.pointer (some ⟨z, 2, none⟩)) (by omega)
      have szA2 : A2.tmps.size = 188 := by rw [← hA2]; exact (sz_put A1 172 (.pointer (some ⟨z, 2, none⟩))).trans szA1
      have HA2 := Lib.hid (show A1.put (some 172) (.pointer (some ⟨z, 2, none⟩)) = A2 from hA2)
      clear hA2 szA1
      have d172 := e172
      clear e172
      refine wpAnyH_take (i := 2) (v := .pointer (some ⟨p, 0, none⟩)) rfl (by kernel_rfl) (by kernel_rfl) (by kernel_rfl) (fun _ _ _ h => h) (.inl ⟨rfl, fun w g => run_moveV rfl d0 w⟩) GS.out ?_
      refine act_letter (fun A3 hA3 => ?_)
      replace d3 : A3.eval (.tmp 3) = .pointer (some ⟨q, 0, none⟩) := by rw [← hA3]; exact (ev_ne A2 (m := 174) (n := 3) (.pointer (some ⟨p, 0, none⟩)) (by decide)).trans d3
      replace d7 : A3.eval (.tmp 7) = .pointer (some ⟨z, 0, none⟩) := by rw [← hA3]; exact (ev_ne A2 (m := 174) (n := 7) (.pointer (some ⟨p, 0, none⟩)) (by decide)).trans d7
      replace d172 : A3.eval (.tmp 172) = .pointer (some ⟨z, 2, none⟩) := by rw [← hA3]; exact (ev_ne A2 (m := 174) (n := 172) (.pointer (some ⟨p, 0, none⟩)) (by decide)).trans d172
      have e174 : A3.eval (.tmp 174) = .pointer (some ⟨p, 0, none⟩) := by rw [← hA3]; exact ev_self A2 174 (.pointer (some ⟨p, 0, none⟩)) (by omega)
      have szA3 : A3.tmps.size = 188 := by rw [← hA3]; exact (sz_put A2 174 (.pointer (some ⟨p, 0, none⟩))).trans szA2
      have HA3 := Lib.hid (show A2.put (some 174) (.pointer (some ⟨p, 0, none⟩)) = A3 from hA3)
      clear hA3 szA2 d0
      have d174 := e174
      clear e174
      refine wpAnyH_take (i := 3) (v := .pointer (some ⟨q, 5, none⟩)) rfl (by kernel_rfl) (by kernel_rfl) (by kernel_rfl) (fun _ _ _ h => h) (.inl ⟨rfl, fun w g => run_ff5 rfl d3 w⟩) GS.out ?_
      refine act_letter (fun A4 hA4 => ?_)
      replace d7 : A4.eval (.tmp 7) = .pointer (some ⟨z, 0, none⟩) := by rw [← hA4]; exact (ev_ne A3 (m := 175) (n := 7) (.pointer (some ⟨q, 5, none⟩)) (by decide)).trans d7
      replace d172 : A4.eval (.tmp 172) = .pointer (some ⟨z, 2, none⟩) := by rw [← hA4]; exact (ev_ne A3 (m := 175) (n := 172) (.pointer (some ⟨q, 5, none⟩)) (by decide)).trans d172
      replace d174 : A4.eval (.tmp 174) = .pointer (some ⟨p, 0, none⟩) := by rw [← hA4]; exact (ev_ne A3 (m := 175) (n := 174) (.pointer (some ⟨q, 5, none⟩)) (by decide)).trans d174
      have e175 : A4.eval (.tmp 175) = .pointer (some ⟨q, 5, none⟩) := by rw [← hA4]; exact ev_self A3 175 (.pointer (some ⟨q, 5, none⟩)) (by omega)
      have szA4 : A4.tmps.size = 188 := by rw [← hA4]; exact (sz_put A3 175 (.pointer (some ⟨q, 5, none⟩))).trans szA3
      have HA4 := Lib.hid (show A3.put (some 175) (.pointer (some ⟨q, 5, none⟩)) = A4 from hA4)
      clear hA4 szA3 d3
      have d175 := e175
      clear e175
      refine wpAnyH_take (i := 4) (v := .slice (some ⟨bf, of, none⟩) ps.length fc) rfl (by kernel_rfl) (by kernel_rfl) (by kernel_rfl) (fun _ _ _ h => h) (.inl ⟨rfl, fun w g => run_ldFs rfl d175 (g.cell b5 HN.out.1)⟩) GS.out ?_
      refine act_letter (fun A5 hA5 => ?_)
      replace d7 : A5.eval (.tmp 7) = .pointer (some ⟨z, 0, none⟩) := by rw [← hA5]; exact (ev_ne A4 (m := 176) (n := 7) (.slice (some ⟨bf, of, none⟩) ps.length fc) (by decide)).trans d7
      replace d172 : A5.eval (.tmp 172) = .pointer (some ⟨z, 2, none⟩) := by rw [← hA5]; exact (ev_ne A4 (m := 176) (n := 172) (.slice (some ⟨bf, of, none⟩) ps.length fc) (by decide)).trans d172
      replace d174 : A5.eval (.tmp 174) = .pointer (some ⟨p, 0, none⟩) := by rw [← hA5]; exact (ev_ne A4 (m := 176) (n := 174) (.slice (some ⟨bf, of, none⟩) ps.length fc) (by decide)).trans d174
      have e176 : A5.eval (.tmp 176) = .slice (some ⟨bf, of, none⟩) ps.length fc := by rw [← hA5]; exact ev_self A4 176 (.slice (some ⟨bf, of, none⟩) ps.length fc) (by omega)
      have szA5 : A5.tmps.size = 188 := by rw [← hA5]; exact (sz_put A4 176 (.slice (some ⟨bf, of, none⟩) ps.length fc)).trans szA4
      have HA5 := Lib.hid (show A4.put (some 176) (.slice (some ⟨bf, of, none⟩) ps.length fc) = A5 from hA5)
      clear hA5 szA4 d175
      have d176 := e176
      clear e176
      refine wpAnyH_take (i := 5) (v := .pointer (some ⟨bf, of + 0 * 6, none⟩)) rfl (by kernel_rfl) (by kernel_rfl) (by kernel_rfl) (fun _ _ _ h => h) (.inl ⟨rfl, fun w g => run_idxF (k := 0) rfl d176 rfl HG.out.1 w⟩) GS.out ?_
      refine act_letter (fun A6 hA6 => ?_)
      replace d7 : A6.eval (.tmp 7) = .pointer (some ⟨z, 0, none⟩) := by rw [← hA6]; exact (ev_ne A5 (m := 177) (n := 7) (.pointer (some ⟨bf, of + 0 * 6, none⟩)) (by decide)).trans d7
      replace d172 : A6.eval (.tmp 172) = .pointer (some ⟨z, 2, none⟩) := by rw [← hA6]; exact (ev_ne A5 (m := 177) (n := 172) (.pointer (some ⟨bf, of + 0 * 6, none⟩)) (by decide)).trans d172
      replace d174 : A6.eval (.tmp 174) = .pointer (some ⟨p, 0, none⟩) := by rw [← hA6]; exact (ev_ne A5 (m := 177) (n := 174) (.pointer (some ⟨bf, of + 0 * 6, none⟩)) (by decide)).trans d174
      have e177 : A6.eval (.tmp 177) = .pointer (some ⟨bf, of + 0 * 6, none⟩) := by rw [← hA6]; exact ev_self A5 177 (.pointer (some ⟨bf, of + 0 * 6, none⟩)) (by omega)
      have szA6 : A6.tmps.size = 188 := by rw [← hA6]; exact (sz_put A5 177 (.pointer (some ⟨bf, of + 0 * 6, none⟩))).trans szA5
      have HA6 := Lib.hid (show A5.put (some 177) (.pointer (some ⟨bf, of + 0 * 6, none⟩)) = A6 from hA6)
      clear hA6 szA5 d176
      have d177 := e177
      clear e177
      refine wpAnyH_take (i := 6) (v := pf.val) rfl (by kernel_rfl) (by kernel_rfl) (by kernel_rfl) (fun _ _ _ h => h) (.inl ⟨rfl, fun w g => run_ldF rfl d177 (g.cell d0' HN.out.2) (g.cell d1' HN.out.2) (g.cell d2' HN.out.2) (g.cell d3' HN.out.2) (g.cell d4' HN.out.2) (g.cell d5' HN.out.2)⟩) GS.out ?_
      refine act_letter (fun A7 hA7 => ?_)
      replace d7 : A7.eval (.tmp 7) = .pointer (some ⟨z, 0, none⟩) := by rw [← hA7]; exact (ev_ne A6 (m := 178) (n := 7) (pf.val) (by decide)).trans d7
      replace d172 : A7.eval (.tmp 172) = .pointer (some ⟨z, 2, none⟩) := by rw [← hA7]; exact (ev_ne A6 (m := 178) (n := 172) (pf.val) (by decide)).trans d172
      replace d174 : A7.eval (.tmp 174) = .pointer (some ⟨p, 0, none⟩) := by rw [← hA7]; exact (ev_ne A6 (m := 178) (n := 174) (pf.val) (by decide)).trans d174
      have e178 : A7.eval (.tmp 178) = pf.val := by rw [← hA7]; exact ev_self A6 178 (pf.val) (by omega)
      have szA7 : A7.tmps.size = 188 := by rw [← hA7]; exact (sz_put A6 178 (pf.val)).trans szA6
      have HA7 := Lib.hid (show A6.put (some 178) (pf.val) = A7 from hA7)
      clear hA7 szA6 d177
      have d178 := e178
      clear e178
      refine wpAnyH_ready (rs := [1, 7]) (by kernel_rfl) (by simp) ?_
      refine AllReadyH.cons rfl (fun K hK => ?_) (AllReadyH.cons rfl (fun K hK => ?_) AllReadyH.nil)
      · refine wp_runG rfl (run_ldVs rfl d172 (show (World.drew wr).cell? ⟨z, 2, none⟩ = some V from K2.out.1)) (hK.out _ _ GS.out (fun _ => ?_))
        clear hK K
        refine act_letter (fun A8 hA8 => ?_)
        replace d7 : A8.eval (.tmp 7) = .pointer (some ⟨z, 0, none⟩) := by rw [← hA8]; exact (ev_ne A7 (m := 173) (n := 7) (V) (by decide)).trans d7
        replace d174 : A8.eval (.tmp 174) = .pointer (some ⟨p, 0, none⟩) := by rw [← hA8]; exact (ev_ne A7 (m := 173) (n := 174) (V) (by decide)).trans d174
        replace d178 : A8.eval (.tmp 178) = pf.val := by rw [← hA8]; exact (ev_ne A7 (m := 173) (n := 178) (V) (by decide)).trans d178
        have e173 : A8.eval (.tmp 173) = V := by rw [← hA8]; exact ev_self A7 173 (V) (by omega)
        have szA8 : A8.tmps.size = 188 := by rw [← hA8]; exact (sz_put A7 173 (V)).trans szA7
        have HA8 := Lib.hid (show A7.put (some 173) (V) = A8 from hA8)
        clear hA8 szA7 d172
        have d173 := e173
        clear e173
        refine wpAnyH_ready (rs := [7]) (by kernel_rfl) (by simp) ?_
        refine AllReadyH.cons rfl (fun K hK => ?_) AllReadyH.nil
        refine wp_callG rfl (rfl) enter_rform (vs := #[.pointer (some ⟨p, 0, none⟩), pf.val]) (by simp [d174, d178]) (HCV.out.mono ?_)
        rintro r X ⟨u', rfl, nv, nfu, rr, fx⟩
        have hSX : Fr wr X (fun i => i = p ∨ V.ownBlock = some i ∨ i = z) := ((Fr.refl wr _).drew).trans fx (fun i _ e => .inl e)
        refine ⟨_, rfl, hK.out _ _ hSX (fun _ => ?_)⟩
        clear hK K
        have SX := Lib.hid hSX
        have FX := Lib.hid (show Fr wr X (fun k => k = p) from ((Fr.refl wr _).drew).trans fx (fun i _ e => e))
        have NVX := Lib.hid (show Nv X wr.heap.size u' from nv)
        have NFX := Lib.hid nfu
        have RRX := Lib.hid rr
        clear hSX nv nfu rr fx GS
        refine act_letter (fun A9 hA9 => ?_)
        replace d7 : A9.eval (.tmp 7) = .pointer (some ⟨z, 0, none⟩) := by rw [← hA9]; exact (ev_ne A8 (m := 179) (n := 7) (u'.val) (by decide)).trans d7
        replace d173 : A9.eval (.tmp 173) = V := by rw [← hA9]; exact (ev_ne A8 (m := 179) (n := 173) (u'.val) (by decide)).trans d173
        have e179 : A9.eval (.tmp 179) = u'.val := by rw [← hA9]; exact ev_self A8 179 (u'.val) (by omega)
        have szA9 : A9.tmps.size = 188 := by rw [← hA9]; exact (sz_put A8 179 (u'.val)).trans szA8
        have HA9 := Lib.hid (show A8.put (some 179) (u'.val) = A9 from hA9)
        clear hA9 szA8 d174 d178
        have d179 := e179
        clear e179
        refine wpAnyH_ready (rs := [8]) (by kernel_rfl) (by simp) ?_
        refine AllReadyH.cons rfl (fun K hK => ?_) AllReadyH.nil
        refine wp_vbuild1 rfl rfl d179 (fun y X1 hy gy => hK.out _ _ (SX.out.trans (fr_of gy) (fun _ _ h => h)) (fun _ => ?_))
        clear hK K
        have SY := Lib.hid (show Fr wr X1 (fun i => i = p ∨ V.ownBlock = some i ∨ i = z) from SX.out.trans (fr_of gy) (fun _ _ h => h))
        have GY := Lib.hid gy
        have LY := Lib.hid hy
        clear gy hy SX
        refine act_letter (fun A10 hA10 => ?_)
        replace d7 : A10.eval (.tmp 7) = .pointer (some ⟨z, 0, none⟩) := by rw [← hA10]; exact (ev_ne A9 (m := 180) (n := 7) (.slice (some ⟨y, 0, none⟩) 1 1) (by decide)).trans d7
        replace d173 : A10.eval (.tmp 173) = V := by rw [← hA10]; exact (ev_ne A9 (m := 180) (n := 173) (.slice (some ⟨y, 0, none⟩) 1 1) (by decide)).trans d173
        have e180 : A10.eval (.tmp 180) = .slice (some ⟨y, 0, none⟩) 1 1 := by rw [← hA10]; exact ev_self A9 180 (.slice (some ⟨y, 0, none⟩) 1 1) (by omega)
        have szA10 : A10.tmps.size = 188 := by rw [← hA10]; exact (sz_put A9 180 (.slice (some ⟨y, 0, none⟩) 1 1)).trans szA9
        have HA10 := Lib.hid (show A9.put (some 180) (.slice (some ⟨y, 0, none⟩) 1 1) = A10 from hA10)
        clear hA10 szA9 d179
        have d180 := e180
        clear e180
        refine wpAnyH_ready (rs := [9]) (by kernel_rfl) (by simp) ?_
        refine AllReadyH.cons rfl (fun K hK => ?_) AllReadyH.nil
        refine wp_appV rfl rfl (own_fr (own_fr R.out.own FX.out (fun k hk e => by have := R.out.hi k hk; have := HZP.out; omega)) (F := fun _ => False) (fr_of GY.out) (fun _ _ h => h)) d173 (ys := [u']) LY.out 1 d180 (by have := HLL.out; have := R.out.len; simp; omega) (fun V' Y hApp => hK.out _ _ (SY.out.trans (Fr.of_grew' (F := fun i => V.ownBlock = some i) hApp.2.1 (fun i hi => hi)) (fun i _ e => .inr (.inl e))) (fun _ => ?_))
        have SA := Lib.hid (show Fr wr Y (fun i => i = p ∨ V.ownBlock = some i ∨ i = z) from SY.out.trans (Fr.of_grew' (F := fun i => V.ownBlock = some i) hApp.2.1 (fun i hi => hi)) (fun i _ e => .inr (.inl e)))
        have FY := Lib.hid (show Fr X Y (fun i => V.ownBlock = some i) from (fr_of GY.out).trans (Fr.of_grew' (F := fun i => V.ownBlock = some i) hApp.2.1 (fun i hi => hi)) (fun _ _ e => e))
        obtain ⟨A2, c2, rfl, _⟩ := own_form hApp.1
        have HAP := Lib.hid hApp
        clear hK K hApp SY
        refine act_letter (fun A11 hA11 => ?_)
        replace d7 : A11.eval (.tmp 7) = .pointer (some ⟨z, 0, none⟩) := by rw [← hA11]; exact (ev_ne A10 (m := 181) (n := 7) (.slice A2 (us.length + [u'].length) c2) (by decide)).trans d7
        have e181 : A11.eval (.tmp 181) = .slice A2 (us.length + [u'].length) c2 := by rw [← hA11]; exact ev_self A10 181 (.slice A2 (us.length + [u'].length) c2) (by omega)
        have szA11 : A11.tmps.size = 188 := by rw [← hA11]; exact (sz_put A10 181 (.slice A2 (us.length + [u'].length) c2)).trans szA10
        have HA11 := Lib.hid (show A10.put (some 181) (.slice A2 (us.length + [u'].length) c2) = A11 from hA11)
        clear hA11 szA10 d173 d180
        have d181 := e181
        clear e181
        refine wpAnyH_take (i := 10) (v := .pointer (some ⟨z, 2, none⟩)) rfl (by kernel_rfl) (by kernel_rfl) (by kernel_rfl) (fun _ _ _ h => h) (.inl ⟨rfl, fun w g => run_fv2 rfl d7 w⟩) SA.out ?_
        refine act_letter (fun A12 hA12 => ?_)
        replace d181 : A12.eval (.tmp 181) = .slice A2 (us.length + [u'].length) c2 := by rw [← hA12]; exact (ev_ne A11 (m := 182) (n := 181) (.pointer (some ⟨z, 2, none⟩)) (by decide)).trans d181
        have e182 : A12.eval (.tmp 182) = .pointer (some ⟨z, 2, none⟩) := by rw [← hA12]; exact ev_self A11 182 (.pointer (some ⟨z, 2, none⟩)) (by omega)
        have szA12 : A12.tmps.size = 188 := by rw [← hA12]; exact (sz_put A11 182 (.pointer (some ⟨z, 2, none⟩))).trans szA11
        have HA12 := Lib.hid (show A11.put (some 182) (.pointer (some ⟨z, 2, none⟩)) = A12 from hA12)
        clear hA12 szA11 d7
        have d182 := e182
        clear e182
        refine wpAnyH_ready (rs := [11]) (by kernel_rfl) (by simp) ?_
        refine AllReadyH.cons rfl (fun K hK => ?_) AllReadyH.nil
        refine wp_skipG rfl (w' := (Y.setCell ⟨z, 2, none⟩ (.slice A2 (us.length + [u'].length) c2))) (run_storeL rfl d182 d181 ((R.out.k2.fr FX.out (show ¬ z = p by have := HZP.out; omega)).fr FY.out (fun e => by have := R.out.hi z e; omega)) rfl) (hK.out _ _ (SA.out.trans (fr_cell Y z 2 _) (fun i _ e => .inr (.inr e))) (fun _ => ?_))
        clear hK K SA
        refine act_letter (fun A13 hA13 => ?_)
        replace d181 : A13.eval (.tmp 181) = .slice A2 (us.length + [u'].length) c2 := by rw [← hA13]; exact d181
        replace d182 : A13.eval (.tmp 182) = .pointer (some ⟨z, 2, none⟩) := by rw [← hA13]; exact d182
        have szA13 : A13.tmps.size = 188 := by rw [← hA13]; exact szA12
        have HA13 := Lib.hid (show A12 = A13 from hA13)
        clear hA13 szA12
        refine wpAnyH_done (by kernel_rfl) ?_ _
        rw [← HA13.out, ← HA12.out, ← HA11.out, ← HA10.out, ← HA9.out, ← HA8.out, ← HA7.out, ← HA6.out, ← HA5.out, ← HA4.out, ← HA3.out, ← HA2.out, ← HA1.out]
        clear HA2 HA3 HA4 HA5 HA6 HA7 HA8 HA9 HA10 HA11 HA12 HA13 HA1 d181 d182 szA13
        simp only [Act.put, List.setIfInBounds_toArray, List.set_cons_zero, List.set_cons_succ]
        have HR2 := Lib.hid (show Bld w (Y.setCell ⟨z, 2, none⟩ (.slice A2 (us.length + [u'].length) c2)) p z A xs.length c (i + s) (i + s + N) (st + 1) #[.int .i64 2, .int .i64 s, .int .i64 l, .int .i64 hh, .int .i64 t, .slice (some ⟨bf, of, none⟩) ps.length fc] o v.ls (j + 1) (.slice A2 (us.length + [u'].length) c2) (us ++ [u']) from R.out.step FX.out NVX.out NFX.out HU.out RRX.out HZZ.out GY.out HAP.out)
        clear R FX FY NVX NFX RRX GY LY HAP HU K2 HN HCV HZZ K0 d0' d1' d2' d3' d4' d5' b5
        go_wp2_with fail
        go_roundg (v.ls.length - (j + 1))
        case measure => have := HGI.out; omega
        case rel => exact ⟨j + 1, _, _, by omega, rfl, HR2⟩
      · refine wp_callG rfl (rfl) enter_rform (vs := #[.pointer (some ⟨p, 0, none⟩), pf.val]) (by simp [d174, d178]) (HCV.out.mono ?_)
        rintro r X ⟨u', rfl, nv, nfu, rr, fx⟩
        have hSX : Fr wr X (fun i => i = p ∨ V.ownBlock = some i ∨ i = z) := ((Fr.refl wr _).drew).trans fx (fun i _ e => .inl e)
        refine ⟨_, rfl, hK.out _ _ hSX (fun _ => ?_)⟩
        clear hK K
        have SX := Lib.hid hSX
        have FX := Lib.hid (show Fr wr X (fun k => k = p) from ((Fr.refl wr _).drew).trans fx (fun i _ e => e))
        have NVX := Lib.hid (show Nv X wr.heap.size u' from nv)
        have NFX := Lib.hid nfu
        have RRX := Lib.hid rr
        clear hSX nv nfu rr fx GS
        refine act_letter (fun A8 hA8 => ?_)
        replace d7 : A8.eval (.tmp 7) = .pointer (some ⟨z, 0, none⟩) := by rw [← hA8]; exact (ev_ne A7 (m := 179) (n := 7) (u'.val) (by decide)).trans d7
        replace d172 : A8.eval (.tmp 172) = .pointer (some ⟨z, 2, none⟩) := by rw [← hA8]; exact (ev_ne A7 (m := 179) (n := 172) (u'.val) (by decide)).trans d172
        have e179 : A8.eval (.tmp 179) = u'.val := by rw [← hA8]; exact ev_self A7 179 (u'.val) (by omega)
        have szA8 : A8.tmps.size = 188 := by rw [← hA8]; exact (sz_put A7 179 (u'.val)).trans szA7
        have HA8 := Lib.hid (show A7.put (some 179) (u'.val) = A8 from hA8)
        clear hA8 szA7 d174 d178
        have d179 := e179
        clear e179
        refine wpAnyH_ready (rs := [1, 8]) (by kernel_rfl) (by simp) ?_
        refine AllReadyH.cons rfl (fun K hK => ?_) (AllReadyH.cons rfl (fun K hK => ?_) AllReadyH.nil)
        · refine wp_runG rfl (run_ldVs rfl d172 (FX.out.cell K2.out.1 (show ¬ z = p by have := HZP.out; omega))) (hK.out _ _ SX.out (fun _ => ?_))
          clear hK K
          refine act_letter (fun A9 hA9 => ?_)
          replace d7 : A9.eval (.tmp 7) = .pointer (some ⟨z, 0, none⟩) := by rw [← hA9]; exact (ev_ne A8 (m := 173) (n := 7) (V) (by decide)).trans d7
          replace d179 : A9.eval (.tmp 179) = u'.val := by rw [← hA9]; exact (ev_ne A8 (m := 173) (n := 179) (V) (by decide)).trans d179
          have e173 : A9.eval (.tmp 173) = V := by rw [← hA9]; exact ev_self A8 173 (V) (by omega)
          have szA9 : A9.tmps.size = 188 := by rw [← hA9]; exact (sz_put A8 173 (V)).trans szA8
          have HA9 := Lib.hid (show A8.put (some 173) (V) = A9 from hA9)
          clear hA9 szA8 d172
          have d173 := e173
          clear e173
          refine wpAnyH_ready (rs := [8]) (by kernel_rfl) (by simp) ?_
          refine AllReadyH.cons rfl (fun K hK => ?_) AllReadyH.nil
          refine wp_vbuild1 rfl rfl d179 (fun y X1 hy gy => hK.out _ _ (SX.out.trans (fr_of gy) (fun _ _ h => h)) (fun _ => ?_))
          clear hK K
          have SY := Lib.hid (show Fr wr X1 (fun i => i = p ∨ V.ownBlock = some i ∨ i = z) from SX.out.trans (fr_of gy) (fun _ _ h => h))
          have GY := Lib.hid gy
          have LY := Lib.hid hy
          clear gy hy SX
          refine act_letter (fun A10 hA10 => ?_)
          replace d7 : A10.eval (.tmp 7) = .pointer (some ⟨z, 0, none⟩) := by rw [← hA10]; exact (ev_ne A9 (m := 180) (n := 7) (.slice (some ⟨y, 0, none⟩) 1 1) (by decide)).trans d7
          replace d173 : A10.eval (.tmp 173) = V := by rw [← hA10]; exact (ev_ne A9 (m := 180) (n := 173) (.slice (some ⟨y, 0, none⟩) 1 1) (by decide)).trans d173
          have e180 : A10.eval (.tmp 180) = .slice (some ⟨y, 0, none⟩) 1 1 := by rw [← hA10]; exact ev_self A9 180 (.slice (some ⟨y, 0, none⟩) 1 1) (by omega)
          have szA10 : A10.tmps.size = 188 := by rw [← hA10]; exact (sz_put A9 180 (.slice (some ⟨y, 0, none⟩) 1 1)).trans szA9
          have HA10 := Lib.hid (show A9.put (some 180) (.slice (some ⟨y, 0, none⟩) 1 1) = A10 from hA10)
          clear hA10 szA9 d179
          have d180 := e180
          clear e180
          refine wpAnyH_ready (rs := [9]) (by kernel_rfl) (by simp) ?_
          refine AllReadyH.cons rfl (fun K hK => ?_) AllReadyH.nil
          refine wp_appV rfl rfl (own_fr (own_fr R.out.own FX.out (fun k hk e => by have := R.out.hi k hk; have := HZP.out; omega)) (F := fun _ => False) (fr_of GY.out) (fun _ _ h => h)) d173 (ys := [u']) LY.out 1 d180 (by have := HLL.out; have := R.out.len; simp; omega) (fun V' Y hApp => hK.out _ _ (SY.out.trans (Fr.of_grew' (F := fun i => V.ownBlock = some i) hApp.2.1 (fun i hi => hi)) (fun i _ e => .inr (.inl e))) (fun _ => ?_))
          have SA := Lib.hid (show Fr wr Y (fun i => i = p ∨ V.ownBlock = some i ∨ i = z) from SY.out.trans (Fr.of_grew' (F := fun i => V.ownBlock = some i) hApp.2.1 (fun i hi => hi)) (fun i _ e => .inr (.inl e)))
          have FY := Lib.hid (show Fr X Y (fun i => V.ownBlock = some i) from (fr_of GY.out).trans (Fr.of_grew' (F := fun i => V.ownBlock = some i) hApp.2.1 (fun i hi => hi)) (fun _ _ e => e))
          obtain ⟨A2, c2, rfl, _⟩ := own_form hApp.1
          have HAP := Lib.hid hApp
          clear hK K hApp SY
          refine act_letter (fun A11 hA11 => ?_)
          replace d7 : A11.eval (.tmp 7) = .pointer (some ⟨z, 0, none⟩) := by rw [← hA11]; exact (ev_ne A10 (m := 181) (n := 7) (.slice A2 (us.length + [u'].length) c2) (by decide)).trans d7
          have e181 : A11.eval (.tmp 181) = .slice A2 (us.length + [u'].length) c2 := by rw [← hA11]; exact ev_self A10 181 (.slice A2 (us.length + [u'].length) c2) (by omega)
          have szA11 : A11.tmps.size = 188 := by rw [← hA11]; exact (sz_put A10 181 (.slice A2 (us.length + [u'].length) c2)).trans szA10
          have HA11 := Lib.hid (show A10.put (some 181) (.slice A2 (us.length + [u'].length) c2) = A11 from hA11)
          clear hA11 szA10 d173 d180
          have d181 := e181
          clear e181
          refine wpAnyH_take (i := 10) (v := .pointer (some ⟨z, 2, none⟩)) rfl (by kernel_rfl) (by kernel_rfl) (by kernel_rfl) (fun _ _ _ h => h) (.inl ⟨rfl, fun w g => run_fv2 rfl d7 w⟩) SA.out ?_
          refine act_letter (fun A12 hA12 => ?_)
          replace d181 : A12.eval (.tmp 181) = .slice A2 (us.length + [u'].length) c2 := by rw [← hA12]; exact (ev_ne A11 (m := 182) (n := 181) (.pointer (some ⟨z, 2, none⟩)) (by decide)).trans d181
          have e182 : A12.eval (.tmp 182) = .pointer (some ⟨z, 2, none⟩) := by rw [← hA12]; exact ev_self A11 182 (.pointer (some ⟨z, 2, none⟩)) (by omega)
          have szA12 : A12.tmps.size = 188 := by rw [← hA12]; exact (sz_put A11 182 (.pointer (some ⟨z, 2, none⟩))).trans szA11
          have HA12 := Lib.hid (show A11.put (some 182) (.pointer (some ⟨z, 2, none⟩)) = A12 from hA12)
          clear hA12 szA11 d7
          have d182 := e182
          clear e182
          refine wpAnyH_ready (rs := [11]) (by kernel_rfl) (by simp) ?_
          refine AllReadyH.cons rfl (fun K hK => ?_) AllReadyH.nil
          refine wp_skipG rfl (w' := (Y.setCell ⟨z, 2, none⟩ (.slice A2 (us.length + [u'].length) c2))) (run_storeL rfl d182 d181 ((R.out.k2.fr FX.out (show ¬ z = p by have := HZP.out; omega)).fr FY.out (fun e => by have := R.out.hi z e; omega)) rfl) (hK.out _ _ (SA.out.trans (fr_cell Y z 2 _) (fun i _ e => .inr (.inr e))) (fun _ => ?_))
          clear hK K SA
          refine act_letter (fun A13 hA13 => ?_)
          replace d181 : A13.eval (.tmp 181) = .slice A2 (us.length + [u'].length) c2 := by rw [← hA13]; exact d181
          replace d182 : A13.eval (.tmp 182) = .pointer (some ⟨z, 2, none⟩) := by rw [← hA13]; exact d182
          have szA13 : A13.tmps.size = 188 := by rw [← hA13]; exact szA12
          have HA13 := Lib.hid (show A12 = A13 from hA13)
          clear hA13 szA12
          refine wpAnyH_done (by kernel_rfl) ?_ _
          rw [← HA13.out, ← HA12.out, ← HA11.out, ← HA10.out, ← HA9.out, ← HA8.out, ← HA7.out, ← HA6.out, ← HA5.out, ← HA4.out, ← HA3.out, ← HA2.out, ← HA1.out]
          clear HA2 HA3 HA4 HA5 HA6 HA7 HA8 HA9 HA10 HA11 HA12 HA13 HA1 d181 d182 szA13
          simp only [Act.put, List.setIfInBounds_toArray, List.set_cons_zero, List.set_cons_succ]
          have HR2 := Lib.hid (show Bld w (Y.setCell ⟨z, 2, none⟩ (.slice A2 (us.length + [u'].length) c2)) p z A xs.length c (i + s) (i + s + N) (st + 1) #[.int .i64 2, .int .i64 s, .int .i64 l, .int .i64 hh, .int .i64 t, .slice (some ⟨bf, of, none⟩) ps.length fc] o v.ls (j + 1) (.slice A2 (us.length + [u'].length) c2) (us ++ [u']) from R.out.step FX.out NVX.out NFX.out HU.out RRX.out HZZ.out GY.out HAP.out)
          clear R FX FY NVX NFX RRX GY LY HAP HU K2 HN HCV HZZ K0 d0' d1' d2' d3' d4' d5' b5
          go_wp2_with fail
          go_roundg (v.ls.length - (j + 1))
          case measure => have := HGI.out; omega
          case rel => exact ⟨j + 1, _, _, by omega, rfl, HR2⟩
        · refine wp_vbuild1 rfl rfl d179 (fun y X1 hy gy => hK.out _ _ (SX.out.trans (fr_of gy) (fun _ _ h => h)) (fun _ => ?_))
          clear hK K
          have SY := Lib.hid (show Fr wr X1 (fun i => i = p ∨ V.ownBlock = some i ∨ i = z) from SX.out.trans (fr_of gy) (fun _ _ h => h))
          have GY := Lib.hid gy
          have LY := Lib.hid hy
          clear gy hy SX
          refine act_letter (fun A9 hA9 => ?_)
          replace d7 : A9.eval (.tmp 7) = .pointer (some ⟨z, 0, none⟩) := by rw [← hA9]; exact (ev_ne A8 (m := 180) (n := 7) (.slice (some ⟨y, 0, none⟩) 1 1) (by decide)).trans d7
          replace d172 : A9.eval (.tmp 172) = .pointer (some ⟨z, 2, none⟩) := by rw [← hA9]; exact (ev_ne A8 (m := 180) (n := 172) (.slice (some ⟨y, 0, none⟩) 1 1) (by decide)).trans d172
          have e180 : A9.eval (.tmp 180) = .slice (some ⟨y, 0, none⟩) 1 1 := by rw [← hA9]; exact ev_self A8 180 (.slice (some ⟨y, 0, none⟩) 1 1) (by omega)
          have szA9 : A9.tmps.size = 188 := by rw [← hA9]; exact (sz_put A8 180 (.slice (some ⟨y, 0, none⟩) 1 1)).trans szA8
          have HA9 := Lib.hid (show A8.put (some 180) (.slice (some ⟨y, 0, none⟩) 1 1) = A9 from hA9)
          clear hA9 szA8 d179
          have d180 := e180
          clear e180
          refine wpAnyH_ready (rs := [1]) (by kernel_rfl) (by simp) ?_
          refine AllReadyH.cons rfl (fun K hK => ?_) AllReadyH.nil
          refine wp_runG rfl (run_ldVs rfl d172 ((FX.out.trans (fr_of GY.out) (fun _ _ h => h)).cell K2.out.1 (show ¬ z = p by have := HZP.out; omega))) (hK.out _ _ SY.out (fun _ => ?_))
          clear hK K
          refine act_letter (fun A10 hA10 => ?_)
          replace d7 : A10.eval (.tmp 7) = .pointer (some ⟨z, 0, none⟩) := by rw [← hA10]; exact (ev_ne A9 (m := 173) (n := 7) (V) (by decide)).trans d7
          replace d180 : A10.eval (.tmp 180) = .slice (some ⟨y, 0, none⟩) 1 1 := by rw [← hA10]; exact (ev_ne A9 (m := 173) (n := 180) (V) (by decide)).trans d180
          have e173 : A10.eval (.tmp 173) = V := by rw [← hA10]; exact ev_self A9 173 (V) (by omega)
          have szA10 : A10.tmps.size = 188 := by rw [← hA10]; exact (sz_put A9 173 (V)).trans szA9
          have HA10 := Lib.hid (show A9.put (some 173) (V) = A10 from hA10)
          clear hA10 szA9 d172
          have d173 := e173
          clear e173
          refine wpAnyH_ready (rs := [9]) (by kernel_rfl) (by simp) ?_
          refine AllReadyH.cons rfl (fun K hK => ?_) AllReadyH.nil
          refine wp_appV rfl rfl (own_fr (own_fr R.out.own FX.out (fun k hk e => by have := R.out.hi k hk; have := HZP.out; omega)) (F := fun _ => False) (fr_of GY.out) (fun _ _ h => h)) d173 (ys := [u']) LY.out 1 d180 (by have := HLL.out; have := R.out.len; simp; omega) (fun V' Y hApp => hK.out _ _ (SY.out.trans (Fr.of_grew' (F := fun i => V.ownBlock = some i) hApp.2.1 (fun i hi => hi)) (fun i _ e => .inr (.inl e))) (fun _ => ?_))
          have SA := Lib.hid (show Fr wr Y (fun i => i = p ∨ V.ownBlock = some i ∨ i = z) from SY.out.trans (Fr.of_grew' (F := fun i => V.ownBlock = some i) hApp.2.1 (fun i hi => hi)) (fun i _ e => .inr (.inl e)))
          have FY := Lib.hid (show Fr X Y (fun i => V.ownBlock = some i) from (fr_of GY.out).trans (Fr.of_grew' (F := fun i => V.ownBlock = some i) hApp.2.1 (fun i hi => hi)) (fun _ _ e => e))
          obtain ⟨A2, c2, rfl, _⟩ := own_form hApp.1
          have HAP := Lib.hid hApp
          clear hK K hApp SY
          refine act_letter (fun A11 hA11 => ?_)
          replace d7 : A11.eval (.tmp 7) = .pointer (some ⟨z, 0, none⟩) := by rw [← hA11]; exact (ev_ne A10 (m := 181) (n := 7) (.slice A2 (us.length + [u'].length) c2) (by decide)).trans d7
          have e181 : A11.eval (.tmp 181) = .slice A2 (us.length + [u'].length) c2 := by rw [← hA11]; exact ev_self A10 181 (.slice A2 (us.length + [u'].length) c2) (by omega)
          have szA11 : A11.tmps.size = 188 := by rw [← hA11]; exact (sz_put A10 181 (.slice A2 (us.length + [u'].length) c2)).trans szA10
          have HA11 := Lib.hid (show A10.put (some 181) (.slice A2 (us.length + [u'].length) c2) = A11 from hA11)
          clear hA11 szA10 d180 d173
          have d181 := e181
          clear e181
          refine wpAnyH_take (i := 10) (v := .pointer (some ⟨z, 2, none⟩)) rfl (by kernel_rfl) (by kernel_rfl) (by kernel_rfl) (fun _ _ _ h => h) (.inl ⟨rfl, fun w g => run_fv2 rfl d7 w⟩) SA.out ?_
          refine act_letter (fun A12 hA12 => ?_)
          replace d181 : A12.eval (.tmp 181) = .slice A2 (us.length + [u'].length) c2 := by rw [← hA12]; exact (ev_ne A11 (m := 182) (n := 181) (.pointer (some ⟨z, 2, none⟩)) (by decide)).trans d181
          have e182 : A12.eval (.tmp 182) = .pointer (some ⟨z, 2, none⟩) := by rw [← hA12]; exact ev_self A11 182 (.pointer (some ⟨z, 2, none⟩)) (by omega)
          have szA12 : A12.tmps.size = 188 := by rw [← hA12]; exact (sz_put A11 182 (.pointer (some ⟨z, 2, none⟩))).trans szA11
          have HA12 := Lib.hid (show A11.put (some 182) (.pointer (some ⟨z, 2, none⟩)) = A12 from hA12)
          clear hA12 szA11 d7
          have d182 := e182
          clear e182
          refine wpAnyH_ready (rs := [11]) (by kernel_rfl) (by simp) ?_
          refine AllReadyH.cons rfl (fun K hK => ?_) AllReadyH.nil
          refine wp_skipG rfl (w' := (Y.setCell ⟨z, 2, none⟩ (.slice A2 (us.length + [u'].length) c2))) (run_storeL rfl d182 d181 ((R.out.k2.fr FX.out (show ¬ z = p by have := HZP.out; omega)).fr FY.out (fun e => by have := R.out.hi z e; omega)) rfl) (hK.out _ _ (SA.out.trans (fr_cell Y z 2 _) (fun i _ e => .inr (.inr e))) (fun _ => ?_))
          clear hK K SA
          refine act_letter (fun A13 hA13 => ?_)
          replace d181 : A13.eval (.tmp 181) = .slice A2 (us.length + [u'].length) c2 := by rw [← hA13]; exact d181
          replace d182 : A13.eval (.tmp 182) = .pointer (some ⟨z, 2, none⟩) := by rw [← hA13]; exact d182
          have szA13 : A13.tmps.size = 188 := by rw [← hA13]; exact szA12
          have HA13 := Lib.hid (show A12 = A13 from hA13)
          clear hA13 szA12
          refine wpAnyH_done (by kernel_rfl) ?_ _
          rw [← HA13.out, ← HA12.out, ← HA11.out, ← HA10.out, ← HA9.out, ← HA8.out, ← HA7.out, ← HA6.out, ← HA5.out, ← HA4.out, ← HA3.out, ← HA2.out, ← HA1.out]
          clear HA2 HA3 HA4 HA5 HA6 HA7 HA8 HA9 HA10 HA11 HA12 HA13 HA1 d181 d182 szA13
          simp only [Act.put, List.setIfInBounds_toArray, List.set_cons_zero, List.set_cons_succ]
          have HR2 := Lib.hid (show Bld w (Y.setCell ⟨z, 2, none⟩ (.slice A2 (us.length + [u'].length) c2)) p z A xs.length c (i + s) (i + s + N) (st + 1) #[.int .i64 2, .int .i64 s, .int .i64 l, .int .i64 hh, .int .i64 t, .slice (some ⟨bf, of, none⟩) ps.length fc] o v.ls (j + 1) (.slice A2 (us.length + [u'].length) c2) (us ++ [u']) from R.out.step FX.out NVX.out NFX.out HU.out RRX.out HZZ.out GY.out HAP.out)
          clear R FX FY NVX NFX RRX GY LY HAP HU K2 HN HCV HZZ K0 d0' d1' d2' d3' d4' d5' b5
          go_wp2_with fail
          go_roundg (v.ls.length - (j + 1))
          case measure => have := HGI.out; omega
          case rel => exact ⟨j + 1, _, _, by omega, rfl, HR2⟩
    · obtain rfl : j = v.ls.length := by omega
      have hltI : ¬ ij < ee := by have := HO.out.2.1; have := HIJ.out; have := HEE.out; omega
      go_upto_region 34 with (fail)
      go_quiet (fail)
      clear n0 n1 n2 n4 n5 n6
      have hR' : Bld w (wr.drewN nq) p z A xs.length c (i + s) (i + s + N) (st + 1) #[.int .i64 2, .int .i64 s, .int .i64 l, .int .i64 hh, .int .i64 t, .slice fA ps.length fc] o v.ls v.ls.length V us := R.out.drewN nq
      have hK' : Whole (wr.drewN nq) (q + 1) #[.int .u64 0, .slice none 0 0, .slice none 0 0] 29 := K1.out
      clear R K0 K1 b0 b1 b2 b3 b4 b5 m0 m1 m2
      generalize wr.drewN nq = wo at *
      clear wr
      obtain ⟨A', c', hV, hnv, hnfs⟩ := hR'.done HLL.out
      subst hV
      obtain ⟨m0, m1, m2⟩ := hR'.k2.three
      obtain ⟨z0, z1, z2⟩ := hK'.three
      have fz := hK'.frozen
      have fp := Whole.frozen hR'.rr
      obtain ⟨n0, n1, n2, n4, n5, n6⟩ := hR'.rr.cells
      have HNV := Lib.hid hnv
      have R := Lib.hid hR'
      have K1 := Lib.hid hK'
      have e1 : ¬ z = p := by have := HZP.out; omega
      have e2 : ¬ q + 1 = p := by have := HZP.out; omega
      have e3 : ¬ p = z := by have := HZP.out; omega
      have e4 : ¬ p = q + 1 := by have := HZP.out; omega
      clear hnv hR' hK'
      go_wp2_with fail
      have hfp := fr_cell wo p 2 (.int .i64 (e : Int))
      have k1 := K1.out.fr hfp e2
      refine bodyPost_ret (results_cell_row rfl _ _ (q + 1) _ _ _ _ rfl (k1.put3 (.int .u64 0) (.slice none 0 0) (.slice A' us.length c')) Try.underlying29 rfl (by kernel_rfl)) rfl ?_
      have hct : st + 1 + cnts (v.ls.take v.ls.length) = st + v.cnt := by rw [List.take_length]; omega
      have hit : i + s + o v.ls.length = i + (s + N) := by have := HO.out.2.1; omega
      have hr := Rr.set2 R.out.rr e
      rw [hct, hit] at hr
      have hz := HZP.out
      have hq := HQ.out
      exact got6_close (u := .mk 0 none 0 [] A' c' us) (k := z + 1) (R.out.fr.trans hfp (fun _ _ h => h)) (by omega) (by omega) (by omega) (by omega) k1 hr (HNV.out.fr hfp (fun i e => by omega)) (by rw [hnf, nf, hnfs])
end Go.Proofs.Ytibbeodcheefaaa


/- The document's reader, of bytes that are right: any right form. -/
namespace Go.Proofs.Ytibbeodcheefaaa
open Go.RowKit Va

theorem cut_len {xs Z rest : List UInt8} {i e : Nat} (hi : i ≤ e) (he : e ≤ xs.length) (h : (xs.drop i).take (e - i) = Z ++ rest) : i + Z.length + rest.length = e ∧ (xs.drop i).take Z.length = Z ∧ (xs.drop (i + Z.length)).take (e - (i + Z.length)) = rest := by
  have hl := congrArg List.length h
  rw [List.length_take, List.length_drop, List.length_append] at hl
  have h1 : i + Z.length + rest.length = e := by omega
  refine ⟨h1, ?_, ?_⟩
  · have := congrArg (List.take Z.length) h
    rw [List.take_take, List.take_left, Nat.min_eq_left (by omega)] at this
    exact this
  · have := congrArg (List.drop Z.length) h
    rw [List.drop_take, List.drop_drop, List.drop_left] at this
    rw [show e - (i + Z.length) = e - i - Z.length by omega]
    exact this
theorem pairB_cut : ∀ (j : Nat) (ps : List Fo) (ls : List Va), Rd.pairB (Rd.wrs ps) ls = Rd.pairB (Rd.wrs ps) (ls.take j) ++ Rd.pairB (Rd.wrs (ps.drop j)) (ls.drop j)
  | 0, ps, ls => by cases ps <;> simp [Rd.pairB, Rd.wrs]
  | j + 1, [], ls => by cases ls <;> simp [Rd.pairB, Rd.wrs]
  | j + 1, p :: ps, [] => by simp [Rd.pairB, Rd.wrs]
  | j + 1, p :: ps, v :: ls => by
    have := pairB_cut j ps ls
    rw [List.take_succ_cons, List.drop_succ_cons, List.drop_succ_cons, Rd.wrs, Rd.pairB, Rd.pairB, this, List.append_assoc]
theorem pairB_at {ps : List Fo} {ls : List Va} {j : Nat} {p : Fo} {u : Va} (hp : ps[j]? = some p) (hu : ls[j]? = some u) : Rd.pairB (Rd.wrs (ps.drop j)) (ls.drop j) = Rd.wr p u ++ Rd.pairB (Rd.wrs (ps.drop (j + 1))) (ls.drop (j + 1)) := by
  obtain ⟨h1, rfl⟩ := List.getElem?_eq_some_iff.1 hp
  obtain ⟨h2, rfl⟩ := List.getElem?_eq_some_iff.1 hu
  rw [List.drop_eq_getElem_cons h1, List.drop_eq_getElem_cons h2, Rd.wrs, Rd.pairB]
theorem pairB_take {ps : List Fo} {ls : List Va} {j : Nat} {p : Fo} {u : Va} (hp : ps[j]? = some p) (hu : ls[j]? = some u) : (Rd.pairB (Rd.wrs ps) (ls.take (j + 1))).length = (Rd.pairB (Rd.wrs ps) (ls.take j)).length + (Rd.wr p u).length := by
  have h1 := congrArg List.length (pairB_cut j ps ls)
  have h2 := congrArg List.length (pairB_cut (j + 1) ps ls)
  rw [pairB_at hp hu] at h1
  simp only [List.length_append] at h1 h2
  omega
theorem flat_cut (g : Va → List UInt8) (ls : List Va) (j : Nat) : ls.flatMap g = (ls.take j).flatMap g ++ (ls.drop j).flatMap g := by
  rw [← List.flatMap_append, List.take_append_drop]
theorem flat_at (g : Va → List UInt8) {ls : List Va} {j : Nat} {u : Va} (hu : ls[j]? = some u) : (ls.drop j).flatMap g = g u ++ (ls.drop (j + 1)).flatMap g := by
  obtain ⟨h2, rfl⟩ := List.getElem?_eq_some_iff.1 hu
  rw [List.drop_eq_getElem_cons h2, List.flatMap_cons]
theorem nf_eq' {v : Va} (h1 : v.n = 0) (h2 : v.bs = []) : v.nf = .mk 0 none 0 [] none 0 (nfs v.ls) := by rw [Rd.nf_eq, h1, h2]
theorem nf_b {v : Va} (h1 : v.n = 0) (h2 : v.ls = []) : v.nf = vB v.bs := by rw [Rd.nf_eq, h1, h2]; rfl
theorem cnt_one {v : Va} (h2 : v.ls = []) : v.cnt = 1 := by rw [Rd.cnt_eq, h2]; rfl
theorem last_opn {ps : List Fo} {j : Nat} {p : Fo} (hp : ps[j]? = some p) (hd : ∀ q ∈ ps.dropLast, q.opn = false) (ho : p.opn = true) : ps.drop (j + 1) = [] ∧ Fo.opnL ps = true := by
  obtain ⟨h1, rfl⟩ := List.getElem?_eq_some_iff.1 hp
  by_cases hl : j + 1 < ps.length
  · have : ps[j] ∈ ps.dropLast := by
      rw [List.dropLast_eq_take]
      exact List.mem_take_iff_getElem.2 ⟨j, by omega, rfl⟩
    rw [hd _ this] at ho
    cases ho
  · refine ⟨List.drop_eq_nil_of_le (by omega), ?_⟩
    have hne : ps ≠ [] := fun h => by subst h; simp at h1
    rw [Fo.opnL_last ps hne, List.getLast_eq_getElem]
    have : ps.length - 1 = j := by omega
    simp only [this]
    exact ho

/-- Of bytes that are right the value is read, and is all new. -/
theorem rf_any (w0 wv : World) (f : Fo) : f.wrg = 0 → f.dep ≤ 8 → f.In w0 → ∀ (v : Va) (n : Int), v.In wv → fit f v = (n, 0) → ∀ (w : World) (p : Nat) (A : Option Addr) (xs : List UInt8) (c i e st : Nat) (rest : List UInt8), Pre6 w0 w p A xs c i e st → (xs.drop i).take (e - i) = Rd.wr f v ++ rest → (f.opn = true → rest = []) → st + v.cnt ≤ 1000000 →
    Calls Try.prog 30 #[.pointer (some ⟨p, 0, none⟩), f.val] w (Got6 w p A xs.length c i e st (Rd.wr f v).length v) := by
  induction f using Fo.ind with
  | H k s l h t A' c' ps ih =>
  intro hw hd hin v n hv hfit w p A xs c i e st rest hpre hb ho hst
  obtain ⟨ha, hq, hmis⟩ := wrg_zero hw
  have hcl := cut_len hpre.hi hpre.he hb
  have hxl := hpre.hc
  have hel := hpre.he
  rcases alone_kind ha with rfl | rfl | rfl | rfl | rfl | rfl
  · have hs := Rd.alone_0 ha
    obtain ⟨f1, f2, f3, e1⟩ := Rd.fit_0 hfit
    have hn := hv.num
    obtain ⟨k, rfl⟩ := Int.eq_ofNat_of_zero_le (a := s) (by omega)
    rw [Rd.wr_0, Int.toNat_natCast] at hcl ⊢
    rw [be_length] at hcl ⊢
    rw [Int.toNat_natCast] at f3
    exact rf_0 w0 w p A xs c i e st hpre v k l h t A' c' ps (by omega) v.n.toNat (Rd.pow_nat (h := v.n) (by omega) f3) (by omega) (by rw [Rd.nf_eq, f1, f2, Int.toNat_of_nonneg hn.1]; rfl) (cnt_one f2) hcl.2.1 (by omega) hst
  · obtain ⟨s1, s3, l0, lh, hh, t1, t2, _⟩ := Rd.alone_1 (.inl rfl) ha
    have h256 := Rd.alone_h (.inl rfl) ha
    obtain ⟨f1, f2, f3, f4, f5, e1⟩ := Rd.fit_1 hfit
    obtain ⟨k, rfl⟩ := Int.eq_ofNat_of_zero_le (a := s) (by omega)
    rw [Rd.wr_1, Int.toNat_natCast] at hb ⊢
    rw [Int.toNat_natCast] at h256
    rw [List.append_assoc] at hb
    obtain ⟨c1, c2, c3⟩ := cut_len hpre.hi hpre.he hb
    rw [be_length] at c1 c2 c3
    obtain ⟨d1, d2, d3⟩ := cut_len (by omega) hpre.he c3
    rw [List.length_append, be_length]
    exact rf_1 w0 w p A xs c i e st hpre v k v.bs.length l h t A' c' ps (nf_b f1 f2) (cnt_one f2) (by omega) (Rd.pow_nat f4 h256) f3 f4 f5 t1 c2 d2 rfl (by omega) hst
  · obtain ⟨s1, s3, l0, lh, hh, t1, t2, hn1⟩ := Rd.alone_1 (.inr rfl) ha
    have h256 := Rd.alone_h (.inr rfl) ha
    obtain ⟨q, rfl⟩ := List.length_eq_one_iff.1 (hn1 rfl)
    have hinn : Fo.inn (.mk 2 s l h t A' c' [q]) = [q] := by rw [Fo.inn, if_pos (by omega)]
    rw [hinn] at hq
    have hdp : Fo.dep (.mk 2 s l h t A' c' [q]) = q.dep + 1 := by rw [Fo.dep, if_pos (by omega), Fo.deps, Fo.deps, Nat.max_zero]
    have hpw := hq q (by simp)
    have hpd : q.dep ≤ 8 := by omega
    have hpl := (right_len q hpw hpd).1
    have hne : q.len false ≠ 0 := by
      intro h0
      simp [Fo.mis, h0] at hmis
    have hpo : q.opn = false := by
      cases hx : q.opn with
      | false => rfl
      | true => simp [Fo.mis, hx] at hmis
    obtain ⟨f1, f2, m, hm, b1, b2, b3, e1⟩ := Rd.fit_2 hfit
    have hm' : tot 0 (v.ls.map (fit q)) = (m, 0) := hm
    obtain ⟨k, rfl⟩ := Int.eq_ofNat_of_zero_le (a := s) (by omega)
    rw [Rd.wr_2, Int.toNat_natCast, Rd.each_one] at hb ⊢
    rw [Int.toNat_natCast] at h256
    rw [List.append_assoc] at hb
    obtain ⟨c1, c2, c3⟩ := cut_len hpre.hi hpre.he hb
    rw [be_length] at c1 c2 c3
    obtain ⟨d1, d2, d3⟩ := cut_len (by omega) hpre.he c3
    have i1 := Rd.each_len v.ls 0 m (fun u _ => Rd.wr_len q hpw u) (by omega) (by omega) hm'
    rw [i1, Int.zero_add] at b1 b2 b3
    have hone : ∀ u ∈ v.ls, 1 ≤ (Rd.wr q u).length := by
      intro u hu
      obtain ⟨n', e'⟩ := Rd.tot_mem v.ls 0 m hm' u hu
      have hwu : (Rd.wr q u).length ≤ (v.ls.flatMap (Rd.wr q)).length := Rd.flat_mem hu
      obtain ⟨c1, c2, c3⟩ := Rd.bd_wr q hpw hpd u n' (hv.parts u hu) e' (by omega) [] (fun _ => rfl)
      have hG := (Rd.bd_good q hpw hpd (Rd.wr q u ++ []) (by simp; omega)).ok c1
      rw [c2] at hG
      omega
    have hcv := Rd.cnt_eq v
    have hlc : v.ls.length ≤ cnts v.ls := len_cnts v.ls
    rw [List.length_append, be_length]
    refine rf_2 w0 w p A xs c i e st hpre v k l h t (v.ls.flatMap (Rd.wr q)).length A' c' [q] hin (nf_eq' f1 f2) hcv (by omega) (fun j => ((v.ls.take j).flatMap (Rd.wr q)).length) (fun _ => q) ⟨by simp, fun j pf hp => by simpa using hp⟩ ⟨by simp, by rw [List.take_length], fun j hj => ?_⟩ (by omega) (Rd.pow_nat b2 h256) b1 b2 b3 t1 c2 (by omega) ?_ hst
    · have hu : v.ls[j]? = some v.ls[j] := List.getElem?_eq_getElem hj
      have h1 := congrArg List.length (flat_cut (Rd.wr q) v.ls j)
      rw [flat_at (Rd.wr q) hu, List.length_append, List.length_append] at h1
      have := hone _ (List.getElem_mem hj)
      show ((v.ls.take j).flatMap (Rd.wr q)).length < _
      omega
    · intro j u hu W hW
      obtain ⟨n', e'⟩ := Rd.tot_mem v.ls 0 m hm' u (List.mem_of_getElem? hu)
      have hct := cnts_take hu
      have hcle := cnts_take_le v.ls (j + 1)
      refine ⟨(Rd.wr q u).length, ?_, ih q (by simp) hpw hpd (hin.parts q (by simp [Fo.ps])) u n' (hv.parts u (List.mem_of_getElem? hu)) e' W p A xs c _ _ _ ((v.ls.drop (j + 1)).flatMap (Rd.wr q)) hW ?_ (fun h => by rw [hpo] at h; cases h) (by omega)⟩
      · show ((v.ls.take (j + 1)).flatMap (Rd.wr q)).length = ((v.ls.take j).flatMap (Rd.wr q)).length + (Rd.wr q u).length
        rw [take_succ' hu, List.flatMap_append, List.length_append]
        simp
      · rw [← flat_at (Rd.wr q) hu]
        have h3 := d2
        rw [flat_cut (Rd.wr q) v.ls j] at h3
        have hl3 := congrArg List.length (flat_cut (Rd.wr q) v.ls j)
        rw [List.length_append] at hl3
        have := (cut_len (xs := xs) (i := i + k) (e := i + k + (v.ls.flatMap (Rd.wr q)).length) (Z := (v.ls.take j).flatMap (Rd.wr q)) (rest := (v.ls.drop j).flatMap (Rd.wr q)) (by omega) (by omega) (by
          rw [show i + k + (v.ls.flatMap (Rd.wr q)).length - (i + k) = (v.ls.flatMap (Rd.wr q)).length by omega, d2]
          exact flat_cut (Rd.wr q) v.ls j)).2.2
        exact this
  · have hn := Rd.alone_3 ha
    have hinn : Fo.inn (.mk 3 s l h t A' c' ps) = ps := by rw [Fo.inn, if_pos (by omega)]
    rw [hinn] at hq
    have hdp : Fo.dep (.mk 3 s l h t A' c' ps) = Fo.deps ps + 1 := by rw [Fo.dep, if_pos (by omega)]
    have hdl : ∀ q ∈ ps, q.dep ≤ 8 := fun q hq => Nat.le_trans (Fo.deps_le.1 (Nat.le_refl _) q hq) (by omega)
    obtain ⟨f1, f2, hl, hm⟩ := Rd.fit_3 hfit
    have hdrop : ∀ q ∈ ps.dropLast, q.opn = false := fun q hq => by
      unfold Fo.mis at hmis
      rw [if_neg (by omega), if_pos rfl, List.any_eq_false] at hmis
      simpa using hmis q hq
    have hcv := Rd.cnt_eq v
    rw [Rd.wr_3] at hb hcl ⊢
    have hz : (Rd.pairB (Rd.wrs ps) v.ls).length = (fun j => (Rd.pairB (Rd.wrs ps) (v.ls.take j)).length) v.ls.length := by simp
    rw [hz]
    refine rf_3 w0 w p A xs c i e st hpre v s l h t A' c' ps hin (nf_eq' f1 f2) hcv (by omega) (fun j => (Rd.pairB (Rd.wrs ps) (v.ls.take j)).length) (fun j => (ps[j]?).getD (.mk 0 0 0 0 0 none 0 [])) ⟨hl, fun j pf hp => by rw [hp]; rfl⟩ ⟨?_, fun j _ => ?_⟩ ?_ hst
    · cases ps <;> simp [Rd.pairB, Rd.wrs]
    · have h1 := congrArg List.length (pairB_cut j ps v.ls)
      rw [List.length_append] at h1
      show i + (Rd.pairB (Rd.wrs ps) (v.ls.take j)).length ≤ e
      omega
    · intro j u hu W hW
      have hj : j < ps.length := by rw [← hl]; exact (List.getElem?_eq_some_iff.1 hu).1
      have hp : ps[j]? = some ps[j] := List.getElem?_eq_getElem hj
      have hpm := List.mem_of_getElem? hp
      obtain ⟨n', e'⟩ := Rd.tot_pair ps v.ls 0 n hm j ps[j] u hp hu
      have hct := cnts_take hu
      have hcle := cnts_take_le v.ls (j + 1)
      refine ⟨(Rd.wr ps[j] u).length, pairB_take hp hu, ?_⟩
      have hg : (ps[j]?).getD (.mk 0 0 0 0 0 none 0 []) = ps[j] := by rw [hp]; rfl
      show Calls Try.prog _ #[_, Fo.val ((ps[j]?).getD (.mk 0 0 0 0 0 none 0 []))] W _
      rw [hg]
      refine ih ps[j] hpm (hq _ hpm) (hdl _ hpm) (hin.parts _ hpm) u n' (hv.parts u (List.mem_of_getElem? hu)) e' W p A xs c _ _ _ (Rd.pairB (Rd.wrs (ps.drop (j + 1))) (v.ls.drop (j + 1)) ++ rest) hW ?_ (fun hop => ?_) (by omega)
      · rw [← List.append_assoc, ← pairB_at hp hu]
        exact (cut_len hpre.hi hpre.he (by rw [← List.append_assoc, ← pairB_cut]; exact hb)).2.2
      · obtain ⟨o1, o2⟩ := last_opn hp hdrop hop
        rw [o1, ho (by
          rw [Fo.opn, if_pos ⟨rfl, by omega⟩]
          exact o2)]
        simp [Rd.pairB, Rd.wrs]
  · obtain ⟨l0, lh, hh⟩ := Rd.alone_4 ha
    obtain ⟨f1, f2, f3, f4, e1⟩ := Rd.fit_4 hfit
    rw [ho (by simp [Fo.opn])] at hcl
    rw [Rd.wr_4] at hcl ⊢
    exact rf_4 w0 w p A xs c i e st hpre v v.bs.length s l h t A' c' ps (nf_b f1 f2) (cnt_one f2) f3 f4 hcl.2.1 rfl (by have := hcl.1; simp at this; exact this) hst
  · obtain ⟨l0, lh⟩ := Rd.alone_5 ha
    obtain ⟨f1, f2, f3, e1⟩ := Rd.fit_5 hfit
    rw [Rd.wr_5] at hcl ⊢
    rw [← f3]
    exact rf_5 w0 w p A xs c i e st hpre v v.bs.length s h t A' c' ps (nf_b f1 f2) (cnt_one f2) hcl.2.1 rfl (by omega) hst
end Go.Proofs.Ytibbeodcheefaaa


/- The document's Read of bytes that are right. -/
namespace Go.Proofs.Ytibbeodcheefaaa
open Go.RowKit Va

set_option maxRecDepth 100000 in
set_option maxHeartbeats 2000000 in
theorem rread_any (w wv : World) (f : Fo) (hf : f.In w) (hc : f.chk = 0) (A : Option Addr) (cp : Nat) (v : Va) (n : Int) (hv : v.In wv) (hfit : fit f v = (n, 0)) (hb : Byt w w.heap.size A (Rd.wr f v)) (hl : (Rd.wr f v).length ≤ cp) (hm : (Rd.wr f v).length ≤ 10000000) (hcn : v.cnt ≤ 1000000) :
    Calls Try.prog 18 #[f.val, .slice A (Rd.wr f v).length cp, .bool false, .int .i64 1099511627776] w fun e w' => ∃ (u : Va) (k : Int), e = .returned (.tuple #[u.val, .int .i64 k, .int .i64 0]) ∧ Nv w' w.heap.size u ∧ u.nf = v.nf ∧ Grew w w' none := by
  obtain ⟨g1, k0, k1, ks⟩ := two_new w #[.int .i64 f.k, .int .i64 f.s, .int .i64 f.l, .int .i64 f.h, .int .i64 f.t, .slice f.A f.ps.length f.c] 24 #[.int .u64 0, .slice none 0 0, .slice none 0 0] 29
  obtain ⟨hdp, hwg⟩ := chk_zero hc
  generalize hxs : Rd.wr f v = xs at *
  have HF := Lib.hid (fun (W : World) (g : Grew w W none) (p : Nat) (hp : w.heap.size ≤ p) (r : Rr W p A xs.length cp 0 xs.length 0) => rf_any w wv f hwg hdp hf v n hv hfit W p A xs cp 0 xs.length 0 [] ⟨g, hp, r, hb, hl, hm, Nat.zero_le _, Nat.le_refl _⟩ (by simp [hxs]) (fun _ => rfl) (by omega))
  have HC := Lib.hid (fun (W : World) (g : Grew w W none) => rchk_any W f (hf.grew g))
  rw [hc] at HC
  rw [hxs] at HF
  obtain ⟨a0, a1, a2, a3, a4, a5⟩ := k0.six
  have G1 := Lib.hid g1
  have K0 := Lib.hid k0
  have K1 := Lib.hid k1
  have KS := Lib.hid ks
  have HM := Lib.hid hm
  clear hf hc hv hfit hb hl hm hcn hdp hwg hxs g1 k0 k1 ks
  rw [val_eq] at *
  go_enter Try.func18, Try.ntmps18
  go_wp2_with fail
  generalize (w.alloc (.cells #[.int .i64 f.k, .int .i64 f.s, .int .i64 f.l, .int .i64 f.h, .int .i64 f.t, .slice f.A f.ps.length f.c] 24)).alloc (.cells #[.int .u64 0, .slice none 0 0, .slice none 0 0] 29) = W at *
  refine (HC.out W G1.out).mono ?_
  rintro e X ⟨rfl, gx⟩
  have gX := grew_trans G1.out gx
  have k0 := K0.out.grew gx (by simp)
  have k1 := K1.out.grew gx (by simp)
  have hXs : w.heap.size + 2 ≤ X.heap.size := by have := gx.size; have := KS.out; omega
  have ga := grew_alloc (grew_refl X none) (.cells #[.slice A xs.length cp, .int .i64 0, .int .i64 xs.length, .int .i64 0, .int .i64 0, .int .i64 0, .int .i64 1099511627776] 64)
  have hr : Rr (X.alloc (.cells #[.slice A xs.length cp, .int .i64 0, .int .i64 xs.length, .int .i64 0, .int .i64 0, .int .i64 0, .int .i64 1099511627776] 64)) X.heap.size A xs.length cp 0 xs.length 0 := Whole.new X _ _
  have HCF := Lib.hid (HF.out _ (grew_trans gX ga) X.heap.size (by have := gX.size; omega) hr)
  clear a0 a1 a2 a3 a4 a5 HC
  have kA := k0.grew ga (by simp)
  have kB := k1.grew ga (by simp)
  obtain ⟨a0, a1, a2, a3, a4, a5⟩ := kA.six
  have GX := Lib.hid (grew_trans gX ga)
  have KA := Lib.hid kA
  have KB := Lib.hid kB
  clear gx gX k0 k1 K0 K1 ga hr kA kB HF G1 KS
  go_upto_region 5 with (fail)
  generalize X.alloc (.cells #[.slice A xs.length cp, .int .i64 0, .int .i64 xs.length, .int .i64 0, .int .i64 0, .int .i64 0, .int .i64 1099511627776] 64) = X1 at *
  generalize hp : X.heap.size = p at *
  clear hp
  go_wp2_with fail
  refine HCF.out.mono ?_
  rintro e Y ⟨u, rfl, hu, hnf, hr, hF⟩
  rw [vval_eq]
  have ga := grew_alloc (grew_refl Y none) (.cells #[.int .u64 u.n, .slice u.B u.bs.length u.d, .slice u.A u.ls.length u.c] 29)
  have kz := Whole.new Y #[.int .u64 u.n, .slice u.B u.bs.length u.d, .slice u.A u.ls.length u.c] 29
  have hr1 : Rr (Y.alloc (.cells #[.int .u64 u.n, .slice u.B u.bs.length u.d, .slice u.A u.ls.length u.c] 29)) p A xs.length cp (0 + xs.length) xs.length (0 + v.cnt) := Whole.grew hr ga (by simp)
  have kb := (KB.out.fr hF (show ¬ w.heap.size + 1 = p by omega)).grew ga (by simp)
  have hFa := hF.trans (fr_of ga (F := fun j => j = p)) (fun _ _ h => h)
  have hu1 := hu.fr (fr_of ga (F := fun _ => False)) (fun _ h => h.elim)
  have hzs : w.heap.size + 2 ≤ Y.heap.size := by have := hF.size; have := KA.out.lt; have := GX.out.size; have := KB.out.lt; omega
  have hX1 : w.heap.size + 2 ≤ X1.heap.size := KB.out.lt
  have HU := Lib.hid hu1
  have HRR := Lib.hid hr1
  have KZ := Lib.hid kz
  have KB2 := Lib.hid kb
  have HFA := Lib.hid hFa
  clear ga hu hr hF hr1 kz kb hFa hu1 HCF a0 a1 a2 a3 a4 a5 KB
  go_upto_region 6 with (fail)
  generalize Y.alloc (.cells #[.int .u64 u.n, .slice u.B u.bs.length u.d, .slice u.A u.ls.length u.c] 29) = Y1 at *
  generalize hz : Y.heap.size = z at *
  obtain ⟨r0, r1, r2, r4, r5, r6⟩ := HRR.out.cells
  rw [Nat.zero_add] at r1
  obtain ⟨z0, z1, z2⟩ := KZ.out.three
  obtain ⟨b0, b1, b2⟩ := KB2.out.three
  have fb := KB2.out.frozen
  go_upto_region 10 with (fail)
  go_region
  go_wp2_with fail
  have hq1 := KB2.out.put3 (.int .u64 u.n) (.slice u.B u.bs.length u.d) (.slice u.A u.ls.length u.c)
  have hfp := (fr_put3 Y1 (w.heap.size + 1) (.int .u64 u.n) (.slice u.B u.bs.length u.d) (.slice u.A u.ls.length u.c)).drew
  change bodyPost _ _ _ _ _ (World.drew (put3 Y1 (w.heap.size + 1) (.int .u64 u.n) (.slice u.B u.bs.length u.d) (.slice u.A u.ls.length u.c)))
  refine bodyPost_ret (results_cell_tmps rfl _ _ _ _ _ _ _ rfl (show Whole (World.drew (put3 Y1 (w.heap.size + 1) (.int .u64 u.n) (.slice u.B u.bs.length u.d) (.slice u.A u.ls.length u.c))) _ _ _ from hq1) Try.underlying29 rfl (by kernel_rfl)) rfl ?_
  exact ⟨u, _, rfl, (HU.out.fr hfp (fun i e => by omega)).mono (by omega), hnf, grew_fr (grew_fr GX.out HFA.out (fun i e => by omega)) hfp (fun i e => by omega)⟩
end Go.Proofs.Ytibbeodcheefaaa


/- Operations that make memory, in regions that draw their order: told by letters. -/
namespace Go.Proofs.Ytibbeodcheefaaa
open Go.RowKit Va

/-- The end of a region. -/
def RegEnd (P : Act → World → Prop) : Exit → Act → World → Prop
  | .normal, a', w' => P a' w'
  | _, _, _ => False
theorem RegEnd.out {P : Act → World → Prop} {e : Exit} {a' : Act} {w' : World} (h : RegEnd P e a' w') : e = .normal ∧ P a' w' := by
  cases e <;> first | exact ⟨rfl, h⟩ | exact h.elim

section
variable {ρ : Operand → Value} {o : Oper}
theorem run_newVq (ho : o.op = .alloc 29) (w : World) : (execOp ρ o).run Try.prog w = .ok (.value (.pointer (some ⟨w.heap.size, 0, none⟩))) (w.alloc (.cells #[.int .u64 0, .slice none 0 0, .slice none 0 0] 29)) := by
  simp [execOp, ho, go_sem]
theorem run_new0 (ho : o.op = .buildSlice 26 0 #[]) (w : World) : (execOp ρ o).run Try.prog w = .ok (.value (.slice (some ⟨w.heap.size, 0, none⟩) 0 0)) (w.alloc (.cells #[] 5)) := by
  simp [execOp, ho, go_sem]
theorem run_new1 {x : Operand} {u : Value} (ho : o.op = .buildSlice 26 1 #[(0, x)]) (hx : ρ x = u) (h1 : ∃ n, u = .int .u8 n) (w : World) : (execOp ρ o).run Try.prog w = .ok (.value (.slice (some ⟨w.heap.size, 0, none⟩) 1 1)) (w.alloc (.cells #[u] 5)) := by
  obtain ⟨n, rfl⟩ := h1
  simp [execOp, ho, hx, go_sem]
theorem run_sliceB {x y : Operand} {A : Option Addr} {l c m : Nat} (ho : o.op = .slice 26 x none (some y) none) (hx : ρ x = .slice A l c) (hy : ρ y = .int .i64 (m : Int)) (hm : m ≤ c) (w : World) : (execOp ρ o).run Try.prog w = .ok (.value (.slice A m c)) w := by
  have hm' : (m : Int) ≤ (c : Int) := by omega
  simp [execOp, ho, go_sem, hx, hy, hm]
theorem run_len {x : Operand} {A : Option Addr} {l c : Nat} (ho : o.op = .call { callee := .builtin .len, args := #[x], argTypes := #[26] }) (hx : ρ x = .slice A l c) (w : World) : (execOp ρ o).run Try.prog w = .ok (.value (.int .i64 (l : Int))) w := by
  simp [execOp, ho, go_sem, hx]
theorem run_sub1 {x : Operand} {t u : TypeId} {l : Nat} (ho : o.op = .binOp .sub t x (.const (.int .i64 1)) u) (hx : ρ x = .int .i64 (l : Int)) (hc : ρ (.const (.int .i64 1)) = .int .i64 1) (h0 : 1 ≤ l) (h1 : l ≤ 140737488355328) (w : World) : (execOp ρ o).run Try.prog w = .ok (.value (.int .i64 ((l - 1 : Nat) : Int))) w := by
  have e : IntKind.i64.wrap ((l : Int) - 1) = ((l - 1 : Nat) : Int) := by rw [IntWalk.i64_left, IntWalk.wrap64_in _ (by omega)]; omega
  simp [execOp, ho, go_sem, hx, hc, e]
end

section
variable {ops : Array Oper} {o : Oper} {a : Act} {w : World} {K : Act → World → Prop} {Q : Exit → Act → World → Prop}
theorem wp_newVq (ho : o.op = .alloc 29) (hw : Region.wanted o (yielded ops a.tmps) = true)
    (h : ∀ z W', Whole W' z #[.int .u64 0, .slice none 0 0, .slice none 0 0] 29 → Grew w W' none → w.heap.size ≤ z → K (a.put o.dst (.pointer (some ⟨z, 0, none⟩))) W') :
    if Region.wanted o (yielded ops a.tmps) = true then Oper.wp Try.prog o a w K Q else K (a.put o.dst undef) w :=
  wp_runG hw (run_newVq ho w) (h _ _ (Whole.new w _ _) (grew_alloc (grew_refl _ none) _) (Nat.le_refl _))
theorem wp_new0 (ho : o.op = .buildSlice 26 0 #[]) (hw : Region.wanted o (yielded ops a.tmps) = true)
    (h : ∀ V W', W'.ownsRow 0 5 1 V 0 (cellsOf []) → Grew w W' none → (∀ b, V.ownBlock = some b → w.heap.size ≤ b) → K (a.put o.dst V) W') :
    if Region.wanted o (yielded ops a.tmps) = true then Oper.wp Try.prog o a w K Q else K (a.put o.dst undef) w :=
  wp_runG hw (run_new0 ho w) (h _ _ ⟨rfl, .inr ⟨w.heap.size, 0, #[], rfl, Nat.zero_le _, Whole.new _ _ _, Nat.le_refl _, by unfold maxLen; omega, rfl, rfl⟩⟩ (grew_alloc (grew_refl _ none) _) (fun b hb => by simp [Value.ownBlock] at hb; omega))
theorem wp_new1 {x : Operand} (ho : o.op = .buildSlice 26 1 #[(0, x)]) (hw : Region.wanted o (yielded ops a.tmps) = true) (c : UInt8) (hx : a.eval x = .int .u8 (c.toNat : Int))
    (h : ∀ q W', ByF W' (fun i => i = q) (some ⟨q, 0, none⟩) [c] → Grew w W' none → w.heap.size ≤ q → q < W'.heap.size → K (a.put o.dst (.slice (some ⟨q, 0, none⟩) 1 1)) W') :
    if Region.wanted o (yielded ops a.tmps) = true then Oper.wp Try.prog o a w K Q else K (a.put o.dst undef) w :=
  wp_runG hw (run_new1 ho hx ⟨_, rfl⟩ w) (h _ _ (fun _ => ⟨w.heap.size, 0, rfl, rfl, fun i hi => by
    have : i = 0 := by simp at hi; omega
    subst this
    rw [(Whole.new w _ _).cell]
    rfl⟩) (grew_alloc (grew_refl _ none) _) (Nat.le_refl _) (by simp))
theorem wp_appB {x y : Operand} (ho : o.op = .call { callee := .builtin .append, args := #[x, y], argTypes := #[26, 26] }) (hgd : o.guard = none) {V : Value} {n : Nat} {xs : List UInt8} (hown : w.ownsRow 0 5 1 V n (cellsOf xs)) (hx : a.eval x = V) {A : Option Addr} {ys : List UInt8} {F : Nat → Prop} (hb : ByF w F A ys) (c : Nat) (hy : a.eval y = .slice A ys.length c) (hm : n + ys.length ≤ 140737488355328)
    (h : ∀ V' W', W'.ownsRow 0 5 1 V' (n + ys.length) (cellsOf (xs ++ ys)) → Grew w W' V.ownBlock → (V'.ownBlock = V.ownBlock ∨ V'.ownBlock = some w.heap.size) → K (a.put o.dst V') W') :
    if Region.wanted o (yielded ops a.tmps) = true then Oper.wp Try.prog o a w K Q else K (a.put o.dst undef) w :=
  step_append_run w hgd x y 26 ho hx hy (fun ty => append_bytes (P := Try.prog) (w := w) 26 ty 5 Try.underlying26 info_u8 hown hb c hm) (fun V' W' hl => h V' W' hl.1 hl.2.1 hl.2.2)
end
end Go.Proofs.Ytibbeodcheefaaa


/- What is written, turned byte by byte; what the law of own memory asks of it. -/
namespace Go.Proofs.Ytibbeodcheefaaa
open Go.RowKit Va

/-- Bytes in a block, whatever they are. -/
def Bys (w : World) (g n : Nat) : Prop := ∃ cur, Whole w g cur 5 ∧ ∀ i, i < n → ∃ x : Int, cur[i]? = some (.int .u8 x)
theorem Bys.at {w : World} {g n : Nat} (h : Bys w g n) {i : Nat} (hi : i < n) : (∃ x : Int, w.cell? ⟨g, i, none⟩ = some (.int .u8 x)) ∧ w.frozen? ⟨g, i, none⟩ = false ∧ ∀ y : Int, Bys (w.setCell ⟨g, i, none⟩ (.int .u8 y)) g n := by
  obtain ⟨cur, hw, hc⟩ := h
  obtain ⟨x, hx⟩ := hc i hi
  refine ⟨⟨x, (hw.cell i).trans hx⟩, hw.frozen i, fun y => ⟨_, hw.set i _, fun j hj => ?_⟩⟩
  have hlt : i < cur.size := by
    rcases Nat.lt_or_ge i cur.size with h | h
    · exact h
    · rw [Array.getElem?_eq_none h] at hx; cases hx
  by_cases e : j = i
  · subst e
    exact ⟨y, by simp [hlt]⟩
  · obtain ⟨z, hz⟩ := hc j hj
    exact ⟨z, by rw [Array.getElem?_setIfInBounds_ne (Ne.symm e)]; exact hz⟩
theorem own_bys {w : World} {V : Value} {xs : List UInt8} (h : w.ownsRow 0 5 1 V xs.length (cellsOf xs)) (h0 : 0 < xs.length) : ∃ g c, V = .slice (some ⟨g, 0, none⟩) xs.length c ∧ xs.length ≤ c ∧ Bys w g xs.length := by
  rcases h.2 with ⟨_, h1⟩ | ⟨g, cap, cur, hv, _, hg, h2, _, h4, h5⟩
  · omega
  · refine ⟨g, cap, hv, h2, cur, hg, fun i hi => ?_⟩
    have hl : i < (cellsOf xs).length := by rw [cellsOf_length]; exact hi
    have : (cur.toList.take (xs.length * 1))[i]? = (cellsOf xs)[i]? := by rw [h5]
    rw [List.getElem?_take_of_lt (by omega)] at this
    have hx : (cellsOf xs)[i]? = some (.int .u8 ((xs[i]).toNat : Int)) := by simp [cellsOf, hi]
    exact ⟨((xs[i]).toNat : Int), by rw [← Array.getElem?_toList, this, hx]⟩
section
variable {ρ : Operand → Value} {o : Oper}
theorem run_quo2 {x : Operand} {t u : TypeId} {l : Nat} (ho : o.op = .binOp .quo t x (.const (.int .i64 2)) u) (hx : ρ x = .int .i64 (l : Int)) (hc : ρ (.const (.int .i64 2)) = .int .i64 2) (h1 : l ≤ 140737488355328) (w : World) : (execOp ρ o).run Try.prog w = .ok (.value (.int .i64 ((l / 2 : Nat) : Int))) w := by
  have e : IntKind.i64.wrap ((l : Int) / 2) = (l : Int) / 2 := IntWalk.i64_in _ (by omega)
  simp [execOp, ho, go_sem, hx, hc, e]
theorem run_str {x : Operand} {A : Option Addr} {xs : List UInt8} {c : Nat} (ho : o.op = .convert 26 9 x) (hx : ρ x = .slice A xs.length c) {w : World} {B : Nat} (hb : Byt w B A xs) : (execOp ρ o).run Try.prog w = .ok (.value (.string (txt xs))) w := by
  have hcv := conv_txt (P := Try.prog) w Try.underlying26 Try.underlying5 Try.underlying9 hb (n := xs.length) rfl c
  simp [execOp, ho, go_sem, hx, hcv]
theorem run_eqs {x y : Operand} {a : ByteArray} (ho : o.op = .binOp .eql 9 x y 9) (hx : ρ x = .string a) (hy : ρ y = .string a) (w : World) : (execOp ρ o).run Try.prog w = .ok (.value (.bool true)) w := by
  simp [execOp, ho, hx, hy, go_sem]
end
theorem enter_append : ∀ args w, (callFunc 19 args).run Try.prog w = .ok (.enter 19 args) w := fun _ _ => by kernel_rfl
theorem enter_rsame : ∀ args w, (callFunc 13 args).run Try.prog w = .ok (.enter 13 args) w := fun _ _ => by kernel_rfl
/-- What is alike is written alike. -/
theorem wr_same {u v : Va} (h : u.nf = v.nf) (f : Fo) : Rd.wr f u = Rd.wr f v := by rw [← Rd.wr_nf f u, h, Rd.wr_nf]
theorem fit_same {u v : Va} (h : u.nf = v.nf) (f : Fo) : fit f u = fit f v := by rw [← fit_nf f u, h, fit_nf]
theorem cnt_same {u v : Va} (h : u.nf = v.nf) : u.cnt = v.cnt := by rw [← cnt_nf u, h, cnt_nf]
end Go.Proofs.Ytibbeodcheefaaa

