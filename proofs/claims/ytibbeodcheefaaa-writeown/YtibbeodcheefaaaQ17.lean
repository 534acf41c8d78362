/- Reading: a row. -/
import Derived.Test.YtibbeodcheefaaaQ11
import Derived.RegionTactic
import Derived.BigRegion
namespace Go.Proofs.Ytibbeodcheefaaa
open Go.RowKit Va

set_option maxRecDepth 100000 in
theorem row_c_le : ∀ (gs : List (List UInt8 → Rd)) (acc : List Va) (o c : Nat) (ys : List UInt8), c ≤ (Rd.row gs acc o c ys).c
  | [], _, _, _, _ => Nat.le_refl _
  | g :: gs, acc, o, c, ys => by
    rw [Rd.row]
    split
    · exact Nat.le_trans (Nat.le_add_right _ _) (row_c_le gs _ _ _ _)
    · exact Nat.le_add_right _ _

/-- What holds ahead of each round. -/
structure RowI (w0 w wr : World) (r p : Nat) (t : Option Nat) (m c0 : Int) (xs : List UInt8) (a : Int) (fcs : Array Value) (ps : List Fo) (q j : Nat) (vs : List Va) (o cc : Nat) (ys : List UInt8) (cs : Array Value) : Prop where
  pre : Pre w0 wr r p t m (c0 + cc) ys (a + o)
  fr : Fr w wr (Ft p t)
  len : vs.length = j
  b0 : Whole wr q fcs 24
  b1 : Whole wr (q + 1) #[.int .u64 0, .slice none 0 0, .slice none 0 0] 29
  b2 : Whole wr (q + 2) #[.int .i64 0, .int .i64 0] 78
  b3 : Whole wr (q + 3) cs 29
  cs : cs.toList = Va.flat (vs ++ List.replicate (ps.length - j) v0)
  ins : ∀ v ∈ vs, v.In wr ∧ v.Hi (q + 4)
  rr : Rd.row (Rd.bds (ps.drop j)) (nfs vs) o cc ys = Rd.row (Rd.bds ps) [] 0 0 xs
  dr : ys = xs.drop o
  sz : q + 4 ≤ wr.heap.size

set_option maxRecDepth 100000 in
theorem made_run (n : Nat) (hn : n ≤ 32) (W : World) : (Instr.makeSlice 27 (.int .i64 (n : Int)) (.int .i64 (n : Int))).run Try.prog W = .ok (.slice (some ⟨W.heap.size, 0, none⟩) n n) (W.alloc (.cells (madeCells #[.int .u64 0, .slice none 0 0, .slice none 0 0] (n * 3)) 29)) := by
  obtain ⟨i, hi, hz⟩ := Option.map_eq_some_iff.1 info_value
  simp only [Prod.mk.injEq] at hz
  obtain ⟨hz0, hz1, hz2⟩ := hz
  have := run_makeSlice (P := Try.prog) W 27 29 i _ Try.underlying27 hi hz0 .i64 .i64 (n : Int) (n : Int) (by omega) (by omega) (by rw [hz1, Int.toNat_natCast]; omega) (by rw [hz2]; omega) (by omega)
  rw [hz1, Int.toNat_natCast] at this
  exact this

set_option maxRecDepth 100000 in
theorem row_step {g : List UInt8 → Rd} {gs : List (List UInt8 → Rd)} {acc : List Va} {o c : Nat} {ys : List UInt8} (h : (g ys).e = 0) : Rd.row (g :: gs) acc o c ys = Rd.row gs (acc ++ [(g ys).v]) (o + (g ys).n) (c + (g ys).c) (ys.drop (g ys).n) := by rw [Rd.row, if_pos h]
set_option maxRecDepth 100000 in
theorem row_stop {g : List UInt8 → Rd} {gs : List (List UInt8 → Rd)} {acc : List Va} {o c : Nat} {ys : List UInt8} (h : (g ys).e ≠ 0) : Rd.row (g :: gs) acc o c ys = ⟨(g ys).e, o + (g ys).n, v0, c + (g ys).c⟩ := by rw [Rd.row, if_neg h]

set_option maxRecDepth 100000 in
set_option maxHeartbeats 2000000 in
theorem rrow_any (w0 : World) (r : Nat) (t : Option Nat) (s l h tt : Int) (A : Option Addr) (c : Nat) (ps : List Fo) (hin : Fo.In w0 (.mk 3 s l h tt A c ps)) (hn : ps.length ≤ 32) (ih : ∀ p ∈ ps, Reads w0 r t p)
    (w : World) (p : Nat) (m c0 : Int) (xs : List UInt8) (a : Int) (hpre : Pre w0 w r p t m c0 xs a) (hm : t ≠ none → c0 + (Rd.row (Rd.bds ps) [] 0 0 xs).c ≤ m) :
    Calls Try.prog 74 #[.pointer (some ⟨r, 0, none⟩), .pointer (some ⟨p, 0, none⟩), .agg #[.int .i64 3, .int .i64 s, .int .i64 l, .int .i64 h, .int .i64 tt, .slice A ps.length c]] w (Got w0 w p t m c0 xs a (Rd.row (Rd.bds ps) [] 0 0 xs)) := by
  obtain ⟨g0, k0, k1, k2, ks⟩ := three_new w #[.int .i64 3, .int .i64 s, .int .i64 l, .int .i64 h, .int .i64 tt, .slice A ps.length c] 24 #[.int .u64 0, .slice none 0 0, .slice none 0 0] 29 #[.int .i64 0, .int .i64 0] 78
  have hmk := made_run ps.length hn
  have HF := Lib.hid hpre.flt
  have H0 := Lib.hid hpre.g.size
  have HI := Lib.hid ih
  have HN := Lib.hid hin
  have HM := Lib.hid hm
  have HR := Lib.hid (show ∀ W, W = ((w.alloc (.cells #[.int .i64 3, .int .i64 s, .int .i64 l, .int .i64 h, .int .i64 tt, .slice A ps.length c] 24)).alloc (.cells #[.int .u64 0, .slice none 0 0, .slice none 0 0] 29)).alloc (.cells #[.int .i64 0, .int .i64 0] 78) →
      RowI w0 w (W.alloc (.cells (madeCells #[.int .u64 0, .slice none 0 0, .slice none 0 0] (ps.length * 3)) 29)) r p t m c0 xs a #[.int .i64 3, .int .i64 s, .int .i64 l, .int .i64 h, .int .i64 tt, .slice A ps.length c] ps w.heap.size 0 [] 0 0 xs (madeCells #[.int .u64 0, .slice none 0 0, .slice none 0 0] (ps.length * 3)) by
    rintro W rfl
    have g1 := grew_alloc g0 (.cells (madeCells #[.int .u64 0, .slice none 0 0, .slice none 0 0] (ps.length * 3)) 29)
    have ga := grew_alloc (grew_refl (((w.alloc (.cells #[.int .i64 3, .int .i64 s, .int .i64 l, .int .i64 h, .int .i64 tt, .slice A ps.length c] 24)).alloc (.cells #[.int .u64 0, .slice none 0 0, .slice none 0 0] 29)).alloc (.cells #[.int .i64 0, .int .i64 0] 78)) none) (.cells (madeCells #[.int .u64 0, .slice none 0 0, .slice none 0 0] (ps.length * 3)) 29)
    refine ⟨?_, fr_of g1, rfl, k0.grew ga (by simp), k1.grew ga (by simp), k2.grew ga (by simp), Whole.new_at _ _ _ (by rw [ks]), ?_, (fun v hv => by simp at hv), rfl, rfl, ?_⟩
    · have := hpre.fr (F := fun _ => False) (fr_of g1) (fun h => h) (fun _ _ h => h) (fun _ h => h.elim)
      simpa using this
    · simpa using made_values ps.length
    · simp)
  have KS := Lib.hid ks
  clear hpre g0 k0 k1 k2 ks ih hin hm
  have HE := Lib.hid (show ps.length ≤ 32 from hn)
  generalize hRR : Rd.row (Rd.bds ps) [] 0 0 xs = RR at *
  have HRR := Lib.hid hRR
  clear hRR
  go_enter Try.func74, Try.ntmps74
  go_wp2_with fail
  have HR' := Lib.hid (HR.out _ rfl)
  clear HR KS
  generalize (((w.alloc (.cells #[.int .i64 3, .int .i64 s, .int .i64 l, .int .i64 h, .int .i64 tt, .slice A ps.length c] 24)).alloc (.cells #[.int .u64 0, .slice none 0 0, .slice none 0 0] 29)).alloc (.cells #[.int .i64 0, .int .i64 0] 78)).alloc (.cells (madeCells #[.int .u64 0, .slice none 0 0, .slice none 0 0] (ps.length * 3)) 29) = W at *
  go_loopw [20] (fun i wr => ∃ (j : Nat) (vs : List Va) (o cc : Nat) (ys : List UInt8) (cs : Array Value), j ≤ ps.length ∧ i = .int .i64 j ∧ Hid (RowI w0 w wr r p t m c0 xs a #[.int .i64 3, .int .i64 s, .int .i64 l, .int .i64 h, .int .i64 tt, .slice A ps.length c] ps w.heap.size j vs o cc ys cs)) (fun i _ => ps.length - (intOf i).toNat)
  case atStart => exact ⟨0, [], 0, 0, xs, _, Nat.zero_le _, rfl, HR'⟩
  case round =>
    obtain ⟨j, vs, o, cc, ys, cs, hj, rfl, R⟩ := hrel
    by_cases hlt : j < ps.length
    · obtain ⟨b, o', f, rfl, hp, hpm, hfi, e0, e1, e2, e3, e4, e5⟩ := (HN.out.grew R.out.pre.g).at hlt
      have HP := Lib.hid (show ps[j]? = some f ∧ f ∈ ps from ⟨hp, hpm⟩)
      clear hp hpm hfi
      go_wp2_with fail
      have hpre := R.out.pre.fr (F := fun _ => False) (fr_alloc wr (.cells #[.int .i64 f.k, .int .i64 f.s, .int .i64 f.l, .int .i64 f.h, .int .i64 f.t, .slice f.A f.ps.length f.c] 24) _) (fun h => h) (fun _ _ h => h) (fun _ h => h.elim)
      have hbds : Rd.bds (ps.drop j) = Rd.rd f :: Rd.bds (ps.drop (j + 1)) := by rw [Fo.drop_at HP.out.1]; rfl
      have hrow := R.out.rr
      rw [hbds, HRR.out] at hrow
      have hcnt : t ≠ none → c0 + (cc : Int) + (Rd.rd f ys).c ≤ m := by
        intro ht
        have h1 := HM.out ht
        have h2 : cc + (Rd.rd f ys).c ≤ RR.c := by
          by_cases hE : (Rd.rd f ys).e = 0
          · rw [row_step hE] at hrow
            rw [← hrow]
            exact row_c_le _ _ _ _ _
          · rw [row_stop hE] at hrow
            rw [← hrow]
            exact Nat.le_refl _
        omega
      refine (HI.out f HP.out.2 _ p m (c0 + cc) ys (a + o) hpre hcnt).mono ?_
      have PR := Lib.hid hpre
      have HW := Lib.hid hrow
      have SZ := Lib.hid (show wr.heap.size < (wr.alloc (.cells #[.int .i64 f.k, .int .i64 f.s, .int .i64 f.l, .int .i64 f.h, .int .i64 f.t, .slice f.A f.ps.length f.c] 24)).heap.size by simp)
      have FA := Lib.hid (fr_alloc wr (.cells #[.int .i64 f.k, .int .i64 f.s, .int .i64 f.l, .int .i64 f.h, .int .i64 f.t, .slice f.A f.ps.length f.c] 24) (Ft p t))
      clear e0 e1 e2 e3 e4 e5 hpre hrow hcnt hbds
      generalize wr.alloc (.cells #[.int .i64 f.k, .int .i64 f.s, .int .i64 f.l, .int .i64 f.h, .int .i64 f.t, .slice f.A f.ps.length f.c] 24) = W1 at *
      rintro e X ⟨v, zs, a', rfl, hv, hi, hnf, hC, hx, hT, hF⟩
      generalize hS : Rd.rd f ys = S at *
      have hfr : Fr wr X (Ft p t) := FA.out.trans hF (fun _ _ e => e)
      have hlo : ∀ i, w.heap.size ≤ i → ¬ Ft p t i := fun i hi e => by have := HF.out i e; omega
      have k1 := R.out.b1.fr hfr (hlo _ (by omega))
      have k2 := R.out.b2.fr hfr (hlo _ (by omega))
      have k0 := R.out.b0.fr hfr (hlo _ (by omega))
      have k3 := R.out.b3.fr hfr (hlo _ (by omega))
      have PX := Lib.hid (PR.out.got hF hC hT)
      have HX := Lib.hid (show w.heap.size + 4 ≤ W1.heap.size ∧ W1.heap.size ≤ X.heap.size by
        have h1 := R.out.sz
        have h2 := SZ.out
        have h3 := hF.size
        omega)
      have HV := Lib.hid (show v.In X ∧ v.Hi W1.heap.size ∧ v.nf = S.v ∧ (S.e = 0 → zs = ys.drop S.n ∧ a' = a + o + S.n) from ⟨hv, hi, hnf, hx⟩)
      have HIN := Lib.hid (show ∀ u ∈ vs, u.In X ∧ u.Hi (w.heap.size + 4) from fun u hu => ⟨(R.out.ins u hu).1.fr hfr (R.out.ins u hu).2 (fun i e => by have := HF.out i e; omega), (R.out.ins u hu).2⟩)
      have FX := Lib.hid (R.out.fr.trans hfr (fun _ _ e => e))
      have CS := Lib.hid R.out.cs
      have LN := Lib.hid R.out.len
      have DR := Lib.hid R.out.dr
      have HS'' := Lib.hid hS
      clear hv hi hnf hx hC hT hF hfr hlo hS R PR FA SZ
      rw [vval_eq]
      unfold fault
      by_cases hE : S.e = 0
      · have hfa : faI (a + o) S = 0 := if_pos hE
        rw [hfa, hE]
        obtain ⟨hz, ha⟩ := HV.out.2.2.2 hE
        subst hz ha
        have K0 := Lib.hid k0
        have K1 := Lib.hid k1
        have K2 := Lib.hid k2
        have K3 := Lib.hid k3
        have HS' := Lib.hid (show (Rd.rd f ys).e = 0 by rw [HS''.out]; exact hE)
        clear k0 k1 k2 k3 hfa hE
        go_upto_region 8 with (fail)
        obtain ⟨g3, n1, n2, ns⟩ := two_new X #[.int .u64 v.n, .slice v.B v.bs.length v.d, .slice v.A v.ls.length v.c] 29 #[.int .i64 0, .int .i64 0] 78
        have GX := Lib.hid g3
        have k3 := K3.out.grew g3 (by simp)
        have hsp : List.replicate (ps.length - j) v0 = v0 :: List.replicate (ps.length - (j + 1)) v0 := by
          have : ps.length - j = (ps.length - (j + 1)) + 1 := by omega
          rw [this]; rfl
        have hcs := CS.out
        rw [hsp] at hcs
        have hj1 : (vs ++ v0 :: List.replicate (ps.length - (j + 1)) v0)[j]? = some v0 := by
          rw [List.getElem?_append_right (by have := LN.out; omega), LN.out, Nat.sub_self]; rfl
        have hcell : ∀ i x, v0.cells[i]? = some x → cs[j * 3 + i]? = some x := by
          intro i x hx
          rw [← Array.getElem?_toList, hcs]
          exact Va.flat_at hj1 hx
        have u0 := (k3.cell (j * 3)).trans (hcell 0 _ rfl)
        have u1 := (k3.cell (j * 3 + 1)).trans (hcell 1 _ rfl)
        have u2 := (k3.cell (j * 3 + 2)).trans (hcell 2 _ rfl)
        have uf := k3.frozen
        obtain ⟨m0, m1, m2⟩ := n1.three
        have NS := Lib.hid ns
        have N1 := Lib.hid n1
        have HCS := Lib.hid hcs
        have K3' := Lib.hid k3
        clear hmk g3 n1 n2 ns k3 hsp hcs hj1 hcell CS
        generalize (X.alloc (.cells #[.int .u64 v.n, .slice v.B v.bs.length v.d, .slice v.A v.ls.length v.c] 29)).alloc (.cells #[.int .i64 0, .int .i64 0] 78) = W3 at *
        have HR2 := Lib.hid (show ∃ cs', RowI w0 w (((W3.setCell ⟨w.heap.size + 3, j * 3, none⟩ (.int .u64 v.n)).setCell ⟨w.heap.size + 3, j * 3 + 1, none⟩ (.slice v.B v.bs.length v.d)).setCell ⟨w.heap.size + 3, j * 3 + 2, none⟩ (.slice v.A v.ls.length v.c)) r p t m c0 xs a #[.int .i64 3, .int .i64 s, .int .i64 l, .int .i64 h, .int .i64 tt, .slice (some ⟨b, o', none⟩) ps.length c] ps w.heap.size (j + 1) (vs ++ [v]) (o + S.n) (cc + S.c) (ys.drop S.n) cs' by
          obtain ⟨cs', hw', hcs'⟩ := put_at K3'.out HCS.out v (j * 3) (by rw [LN.out])
          have hset : ∀ {w' : World} (i : Nat) (u : Value), Fr W3 w' (fun i => i = w.heap.size + 3) → Fr W3 (w'.setCell ⟨w.heap.size + 3, i, none⟩ u) (fun i => i = w.heap.size + 3) := fun i u h => h.set (.inl rfl) _ _ _
          have hY := hset (j * 3 + 2) (.slice v.A v.ls.length v.c) (hset (j * 3 + 1) (.slice v.B v.bs.length v.d) (hset (j * 3) (.int .u64 v.n) (Fr.refl _ _)))
          refine ⟨cs', ?_⟩
          have hsz : (((W3.setCell ⟨w.heap.size + 3, j * 3, none⟩ (.int .u64 v.n)).setCell ⟨w.heap.size + 3, j * 3 + 1, none⟩ (.slice v.B v.bs.length v.d)).setCell ⟨w.heap.size + 3, j * 3 + 2, none⟩ (.slice v.A v.ls.length v.c)).heap.size = W3.heap.size := by simp [World.setCell]
          generalize ((W3.setCell ⟨w.heap.size + 3, j * 3, none⟩ (.int .u64 v.n)).setCell ⟨w.heap.size + 3, j * 3 + 1, none⟩ (.slice v.B v.bs.length v.d)).setCell ⟨w.heap.size + 3, j * 3 + 2, none⟩ (.slice v.A v.ls.length v.c) = Y at *
          have hXY : Fr X Y (fun i => i = w.heap.size + 3) := (fr_of GX.out).trans hY (fun _ _ e => e)
          have hlo : ∀ i, Ft p t i → ¬ i = w.heap.size + 3 := fun i e e' => by have := HF.out i e; omega
          obtain ⟨hx1, hx2⟩ := HX.out
          obtain ⟨hv, hi, hnf, _⟩ := HV.out
          have hp2 := PX.out.fr hXY (fun e => by subst e; exact Whole.ne PX.out.rd K3.out (by decide) rfl) hlo (fun i e => by have := H0.out; omega)
          have hrow := HW.out
          rw [row_step HS'.out, HS''.out] at hrow
          refine ⟨?_, FX.out.trans hXY (fun i hi e => by omega), by rw [List.length_append, LN.out]; rfl, K0.out.fr hXY (by omega), K1.out.fr hXY (by omega), K2.out.fr hXY (by omega), hw', ?_, ?_, ?_, ?_, ?_⟩
          · have q1 : c0 + ((cc + S.c : Nat) : Int) = c0 + cc + S.c := by omega
            have q2 : a + ((o + S.n : Nat) : Int) = a + o + S.n := by omega
            rw [q1, q2]
            exact hp2
          · rw [hcs', List.append_assoc]; rfl
          · intro u hu
            rcases List.mem_append.1 hu with hu | hu
            · exact ⟨(HIN.out u hu).1.fr hXY (HIN.out u hu).2 (fun i e => by omega), (HIN.out u hu).2⟩
            · rw [List.mem_singleton] at hu
              subst hu
              exact ⟨hv.fr hXY hi (fun i e => by omega), hi.mono (by omega)⟩
          · rw [nfs_append, HRR.out, ← hrow]
            rw [show nfs [v] = [S.v] by rw [nfs, nfs, hnf]]
          · rw [DR.out, List.drop_drop]
          · rw [hsz, NS.out]; omega)
        clear K0 K1 K2 K3 K3' HCS HIN FX PX HV HW DR LN
        generalize X.heap.size = z at *
        go_wp2_with fail
        obtain ⟨cs', HR3⟩ := HR2.out
        go_roundw
        case rel => exact ⟨j + 1, vs ++ [v], o + S.n, cc + S.c, ys.drop S.n, cs', by omega, by go_num, Lib.hid HR3⟩
        case measure => simp [intOf]; omega
      · have hfa : faI (a + o) S = a + o + S.n := if_neg hE
        rw [hfa]
        have HS := Lib.hid hE
        have hrow := HW.out
        rw [row_stop (by rw [HS''.out]; exact hE), HS''.out] at hrow
        have HROW := Lib.hid hrow
        clear hfa hrow hmk
        generalize hy : a + (o : Int) + S.n = y at *
        have HY := Lib.hid hy
        clear hy
        go_upto_region 7 with (fail)
        obtain ⟨g3, n1, n2, ns⟩ := two_new X #[.int .u64 v.n, .slice v.B v.bs.length v.d, .slice v.A v.ls.length v.c] 29 #[.int .i64 y, .int .i64 S.e] 78
        have GX := Lib.hid g3
        have k1' := k1.grew g3 (by simp)
        have k2' := k2.grew g3 (by simp)
        obtain ⟨c1', c2', c3'⟩ := k1'.three
        obtain ⟨d0, d1⟩ := k2'.two
        obtain ⟨e0, e1⟩ := n2.two
        have f1 := k1'.frozen
        have f2 := k2'.frozen
        have K1 := Lib.hid k1'
        have K2 := Lib.hid k2'
        have q1 : ¬ X.heap.size + 1 = w.heap.size + 1 := by have := HX.out; omega
        have q2 : ¬ w.heap.size + 1 = X.heap.size + 1 := by have := HX.out; omega
        have q3 : ¬ X.heap.size = w.heap.size := by have := HX.out; omega
        have q4 : ¬ w.heap.size = X.heap.size := by have := HX.out; omega
        clear k0 k1 k2 k3 k1' k2' g3 n1 n2 ns
        generalize (X.alloc (.cells #[.int .u64 v.n, .slice v.B v.bs.length v.d, .slice v.A v.ls.length v.c] 29)).alloc (.cells #[.int .i64 y, .int .i64 S.e] 78) = W3 at *
        go_region
        go_wp2_with fail
        obtain ⟨r1, r2, r3⟩ := put32 K1.out K2.out (by omega) (.int .u64 0) (.slice none 0 0) (.slice none 0 0) (.int .i64 y) (.int .i64 S.e)
        refine bodyPost_ret (results_cells rfl _ _ _ _ _ _ _ _ _ _ _ _ rfl r1 Try.underlying29 rfl (by kernel_rfl) rfl r2 Try.underlying78 rfl (by kernel_rfl)) rfl ?_
        have hP := PX.out.fr (F := fun _ => False) (fr_of GX.out) (fun h => h) (fun _ _ h => h) (fun _ h => h.elim)
        rw [← HROW.out]
        refine got_close (R := ⟨S.e, o + S.n, v0, cc + S.c⟩) (v := v0) (k := w.heap.size + 3) (FX.out.trans (fr_of GX.out) (fun _ _ e => e)) hP.cr ?_ r3.drew (by omega) (by omega) HF.out (v0_in _) (v0_hi _) (by omega) (by omega) rfl (fun h => absurd h HS.out) ?_
        · have q1 : c0 + ((cc + S.c : Nat) : Int) = c0 + cc + S.c := by omega
          show Tly W3 t m (c0 + ((cc + S.c : Nat) : Int))
          rw [q1]
          exact hP.ty
        · unfold faI
          rw [if_neg HS.out, ← HY.out]
          have q2 : a + ((o + S.n : Nat) : Int) = a + o + S.n := by omega
          show _ = Value.tuple #[v0.val, fault (a + ((o + S.n : Nat) : Int)) S.e]
          rw [q2]
          rfl
    · have hjn : j = ps.length := by omega
      have hvl := R.out.len
      have hrr := R.out.rr
      rw [hjn, List.drop_length, HRR.out] at hrr
      have hRR : RR = ⟨0, o, vL (nfs vs), cc⟩ := hrr.symm
      have HRR' := Lib.hid hRR
      obtain ⟨c0', c1', c2'⟩ := R.out.b1.three
      obtain ⟨d0, d1⟩ := R.out.b2.two
      have f1 := R.out.b1.frozen
      have f2 := R.out.b2.frozen
      clear hRR hrr hmk
      go_wp2_with fail
      obtain ⟨r1, r2, r3⟩ := put32 R.out.b1 R.out.b2 (by omega) (.int .u64 0) (.slice none 0 0) (.slice (some ⟨w.heap.size + 3, 0, none⟩) ps.length ps.length) (.int .i64 0) (.int .i64 0)
      refine bodyPost_ret (results_cells rfl _ _ _ _ _ _ _ _ _ _ _ _ rfl r1 Try.underlying29 rfl (by kernel_rfl) rfl r2 Try.underlying78 rfl (by kernel_rfl)) rfl ?_
      have hcs := R.out.cs
      rw [hjn, Nat.sub_self, List.replicate_zero, List.append_nil] at hcs
      rw [HRR'.out]
      have hlen : vs.length = ps.length := by omega
      have hl := HE.out
      have hins := R.out.ins
      refine got_close (v := .mk 0 none 0 [] (some ⟨w.heap.size + 3, 0, none⟩) ps.length vs) (k := w.heap.size + 3) R.out.fr R.out.pre.cr R.out.pre.ty r3 (by omega) (by omega) HF.out ?_ ?_ (by omega) (by omega) ?_ (fun _ => ⟨R.out.dr, rfl⟩) ?_
      · exact .mk (by omega) (fun h => by simp at h) (by simp) (by omega) (by omega) (Va.Lie.whole R.out.b3 hcs) (fun u hu => (hins u hu).1)
      · exact .mk (fun _ h => by cases h) (fun a h => by cases h; exact Nat.le_refl _) (fun u hu => (hins u hu).2.mono (by omega))
      · rw [nf]; rfl
      · rw [vval_eq]
        simp only [Va.n, Va.B, Va.bs, Va.d, Va.A, Va.ls, Va.c, hlen]
        rfl
end Go.Proofs.Ytibbeodcheefaaa

