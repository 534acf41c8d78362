/- Reading: a list whose length is right, and whose bytes are there. -/
import Derived.Test.YtibbeodcheefaaaQ18
import Derived.Laws.OwnMore
namespace Go.Proofs.Ytibbeodcheefaaa
open Go.RowKit Va

set_option maxRecDepth 100000 in
set_option maxHeartbeats 2000000 in
theorem rlist_ok (w0 : World) (r : Nat) (t : Option Nat) (s l h tt : Int) (A : Option Addr) (c : Nat) (f : Fo) (hin : Fo.In w0 (.mk 2 s l h tt A c [f])) (ih : Reads w0 r t f) (hpos : ∀ ys : List UInt8, ys.length ≤ 1000000000000000 → (Rd.rd f ys).e = 0 → 1 ≤ (Rd.rd f ys).n ∧ (Rd.rd f ys).n ≤ ys.length)
    (w : World) (p : Nat) (m c0 : Int) (xs : List UInt8) (a : Int) (hpre : Pre w0 w r p t m c0 xs a) (s1 : 1 ≤ s) (s3 : s ≤ 3) (t1 : 1 ≤ tt) (hh : h ≤ 16777215) (hE : Rd.lnE s l h tt xs = 0) (hS : ¬ (xs.drop s.toNat).length < Rd.lnN s xs)
    (hm : t ≠ none → c0 + (Rd.lst (Rd.rd f) (Rd.lnN s xs) [] 0 0 ((xs.drop s.toNat).take (Rd.lnN s xs))).c ≤ m) :
    Calls Try.prog 73 #[.pointer (some ⟨r, 0, none⟩), .pointer (some ⟨p, 0, none⟩), .agg #[.int .i64 2, .int .i64 s, .int .i64 l, .int .i64 h, .int .i64 tt, .slice A 1 c]] w (Got w0 w p t m c0 xs a ((Rd.lst (Rd.rd f) (Rd.lnN s xs) [] 0 0 ((xs.drop s.toNat).take (Rd.lnN s xs))).shift s.toNat)) := by
  obtain ⟨g0, k0, k1, k2, ks⟩ := three_new w #[.int .i64 2, .int .i64 s, .int .i64 l, .int .i64 h, .int .i64 tt, .slice A 1 c] 24 #[.int .u64 0, .slice none 0 0, .slice none 0 0] 29 #[.int .i64 0, .int .i64 0] 78
  have HF := Lib.hid hpre.flt
  have H0 := Lib.hid hpre.g.size
  have HI := Lib.hid ih
  have HN := Lib.hid hin
  have HM := Lib.hid hm
  have HPOS := Lib.hid hpos
  have PW := Lib.hid (hpre.fr (F := fun _ => False) (fr_of g0) (fun h => h) (fun _ _ h => h) (fun _ h => h.elim))
  have TN := Lib.hid hpre.tne
  have G0 := Lib.hid g0
  have K0 := Lib.hid k0
  have K1 := Lib.hid k1
  have K2 := Lib.hid k2
  have KS := Lib.hid ks
  have HL := Lib.hid (fun (W : World) (h0 : Cr W p w0.heap.size xs a) => rlength_any W p w0.heap.size xs a h0 2 s l h tt A 1 c s1 s3 t1)
  have HS := Lib.hid hS
  have HLN := Lib.hid (show s.toNat ≤ xs.length ∧ Rd.lnN s xs ≤ 16777215 by
    unfold Rd.lnE at hE
    split at hE
    · omega
    · split at hE
      · omega
      · omega)
  clear hpre g0 k0 k1 k2 ks s1 s3 t1 hS ih hin hm hpos hh
  generalize hRR : Rd.lst (Rd.rd f) (Rd.lnN s xs) [] 0 0 ((xs.drop s.toNat).take (Rd.lnN s xs)) = RR at *
  have HRR := Lib.hid hRR
  clear hRR
  go_enter Try.func73, Try.ntmps73
  go_wp2_with fail
  generalize ((w.alloc (.cells #[.int .i64 2, .int .i64 s, .int .i64 l, .int .i64 h, .int .i64 tt, .slice A 1 c] 24)).alloc (.cells #[.int .u64 0, .slice none 0 0, .slice none 0 0] 29)).alloc (.cells #[.int .i64 0, .int .i64 0] 78) = W at *
  refine (HL.out W PW.out.cr).mono ?_
  rintro e X ⟨x, y, ys, a', rfl, hC, hx, -, g⟩
  obtain ⟨rfl, rfl, rfl, rfl⟩ := hx hE
  rw [hE]
  have hFp : Fr W X (Ft p t) := Fr.of_grew' g (fun i e => .inl (by cases e; rfl))
  have hne : ∀ i, w.heap.size ≤ i → ¬ Ft p t i := fun i hi e => by have := HF.out i e; omega
  have hTx : Tly X t m c0 := fun q hq => (PW.out.ty q hq).grew g (by intro e; cases e; exact TN.out hq)
  have PX := Lib.hid (PW.out.got hFp hC hTx)
  have HX := Lib.hid (show w.heap.size + 3 ≤ X.heap.size by rw [← KS.out]; exact g.size)
  have K0' := Lib.hid (K0.out.fr hFp (hne _ (by omega)))
  have K1' := Lib.hid (K1.out.fr hFp (hne _ (by omega)))
  have K2' := Lib.hid (K2.out.fr hFp (hne _ (by omega)))
  have FX := Lib.hid (show Fr w X (Ft p t) from (fr_of G0.out).trans hFp (fun _ _ e => e))
  clear hC hx g hFp hne hTx PW G0 K0 K1 K2 HL hE
  unfold fault
  have g3 := grew_alloc (grew_refl X none) (.cells #[.int .i64 0, .int .i64 0] 78)
  have PZ := Lib.hid (PX.out.fr (F := fun _ => False) (fr_of g3) (fun h => h) (fun _ _ h => h) (fun _ h => h.elim))
  have K0'' := Lib.hid (K0'.out.grew g3 (by simp))
  have K1'' := Lib.hid (K1'.out.grew g3 (by simp))
  have K2'' := Lib.hid (K2'.out.grew g3 (by simp))
  have FZ := Lib.hid (show Fr w (X.alloc (.cells #[.int .i64 0, .int .i64 0] 78)) (Ft p t) from FX.out.trans (fr_of g3) (fun _ _ e => e))
  have HZ := Lib.hid (show w.heap.size + 3 ≤ (X.alloc (.cells #[.int .i64 0, .int .i64 0] 78)).heap.size by have := HX.out; have := g3.size; omega)
  clear g3 PX K0' K1' K2' FX
  go_wp2_with fail
  generalize X.alloc (.cells #[.int .i64 0, .int .i64 0] 78) = Z at *
  generalize X.heap.size = z3 at *
  refine (cr_sub Z p w0.heap.size (xs.drop s.toNat) (a + s.toNat) PZ.out.cr (Rd.lnN s xs) (by have := HS.out; omega)).mono ?_
  rintro e U ⟨rfl, hC, hC2, g, hsz⟩
  generalize hp2 : Z.heap.size = p2 at *
  have hFp : Fr Z U (Ft p t) := Fr.of_grew' g (fun i e => .inl (by cases e; rfl))
  have hne : ∀ i, w.heap.size ≤ i → ¬ Ft p t i := fun i hi e => by have := HF.out i e; omega
  have hTx : Tly U t m c0 := fun q hq => (PZ.out.ty q hq).grew g (by intro e; cases e; exact TN.out hq)
  have hlen : ((xs.drop s.toNat).take (Rd.lnN s xs)).length = Rd.lnN s xs := by have := HS.out; rw [List.length_take]; omega
  have HR := Lib.hid (show LstI w0 w U r p p2 t m c0 (a + s.toNat) #[.int .i64 2, .int .i64 s, .int .i64 l, .int .i64 h, .int .i64 tt, .slice A 1 c] f w.heap.size (Rd.lnN s xs) RR ((xs.drop s.toNat).drop (Rd.lnN s xs)) (a + s.toNat + Rd.lnN s xs) (.slice none 0 0) (Rd.lnN s xs) [] 0 0 ((xs.drop s.toNat).take (Rd.lnN s xs)) by
    have hz := HZ.out
    have hpz := (PZ.out.got hFp hC hTx)
    refine ⟨⟨hpz.g, hpz.rd, by simpa using hC2, hpz.tl, by simpa using hTx⟩, hC, FZ.out.trans hFp (fun _ _ e => e), K0''.out.fr hFp (hne _ (by omega)), K1''.out.fr hFp (hne _ (by omega)), K2''.out.fr hFp (hne _ (by omega)), by omega, ⟨rfl, .inl ⟨rfl, rfl⟩⟩, (fun b e => by simp [Value.ownBlock] at e), (fun v hv => by simp at hv), HRR.out, by omega, by omega, by simp⟩)
  clear hC hC2 g hsz hp2 hFp hne hTx hlen PZ K0'' K1'' K2'' FZ HZ HS
  go_wp2_with fail
  go_loopw [12] (fun V wr => ∃ (k : Nat) (vs : List Va) (o cc : Nat) (ys : List UInt8), Hid (LstI w0 w wr r p p2 t m c0 (a + s.toNat) #[.int .i64 2, .int .i64 s, .int .i64 l, .int .i64 h, .int .i64 tt, .slice A 1 c] f w.heap.size (Rd.lnN s xs) RR ((xs.drop s.toNat).drop (Rd.lnN s xs)) (a + s.toNat + Rd.lnN s xs) V k vs o cc ys)) (fun _ wr => leftOf wr p2)
  case atStart => exact ⟨_, _, _, _, _, HR⟩
  case round =>
    clear HR
    obtain ⟨k, vs, o, cc, ys, R⟩ := hrel
    by_cases hlt : 0 < ys.length
    · obtain ⟨b, o', f', rfl, hp, -, -, e0, e1, e2, e3, e4, e5⟩ := (HN.out.grew R.out.pre.g).at (i := 0) (by simp)
      cases hp
      simp only [Nat.zero_mul, Nat.add_zero] at e0 e1 e2 e3 e4 e5
      obtain ⟨b0, b1, b2, b3, b4, b5⟩ := R.out.b0.six
      obtain ⟨k', hk'⟩ : ∃ k', k = k' + 1 := ⟨k - 1, by have := R.out.fuel; omega⟩
      subst hk'
      have hlr : (0 : Int) < (ys.length : Int) := by omega
      go_wp2_with fail
      refine (cr_left wr p2 w0.heap.size ys _ R.out.pre.cr).mono ?_
      rintro e w1 ⟨rfl, rfl⟩
      go_wp2_with fail
      have hrow := R.out.rr
      have hy0 : ys.length ≠ 0 := by omega
      have hcnt : t ≠ none → c0 + (cc : Int) + (Rd.rd f ys).c ≤ m := by
        intro ht
        have h1 := HM.out ht
        have h2 : cc + (Rd.rd f ys).c ≤ RR.c := by
          by_cases hE : (Rd.rd f ys).e = 0
          · rw [lst_step hy0 hE] at hrow
            rw [← hrow]
            exact lst_c_le _ _ _ _ _ _
          · rw [lst_stop hy0 hE] at hrow
            rw [← hrow]
            exact Nat.le_refl _
        omega
      refine (HI.out wr p2 m (c0 + cc) ys _ R.out.pre hcnt).mono ?_
      have HW := Lib.hid hrow
      have HY0 := Lib.hid hy0
      clear e0 e1 e2 e3 e4 e5 b0 b1 b2 b3 b4 b5 hrow hcnt hy0 hlr
      rintro e X ⟨v, zs, a', rfl, hv, hi, hnf, hC, hx, hT, hF⟩
      have HSP := Lib.hid (HPOS.out ys (by have := R.out.pre.cr.max; omega))
      generalize hS : Rd.rd f ys = S at *
      have hpq := R.out.pq
      have hlo : ∀ i, w.heap.size ≤ i → i ≠ p2 → ¬ Ft p2 t i := fun i hi hne e => by
        rcases e with e | e
        · exact hne e
        · have := HF.out i (.inr e); omega
      have htw : ∀ q, t = some q → q < w.heap.size := fun q hq => HF.out q (.inr hq)
      have k0 := R.out.b0.fr hF (hlo _ (by omega) (by omega))
      have k1 := R.out.b1.fr hF (hlo _ (by omega) (by omega))
      have k2 := R.out.b2.fr hF (hlo _ (by omega) (by omega))
      have PX := Lib.hid (R.out.pre.got hF hC hT)
      have HX := Lib.hid (show w.heap.size + 3 ≤ p2 ∧ p2 < wr.heap.size ∧ wr.heap.size ≤ X.heap.size from ⟨hpq, R.out.pre.cr.lt, hF.size⟩)
      have HV := Lib.hid (show v.In X ∧ v.Hi wr.heap.size ∧ v.nf = S.v ∧ (S.e = 0 → zs = ys.drop S.n ∧ a' = a + s.toNat + o + S.n) from ⟨hv, hi, hnf, hx⟩)
      have hF2 : ∀ i, Ft p2 t i → i < p2 + 1 := fun i e => by
        rcases e with e | e
        · omega
        · have := htw i e; omega
      have HIN := Lib.hid (show ∀ u ∈ vs, u.In X ∧ u.Hi (p2 + 1) ∧ u.Offn (fun i => u12.ownBlock = some i) from fun u hu => ⟨(R.out.ins u hu).1.fr hF (R.out.ins u hu).2.1 hF2, (R.out.ins u hu).2⟩)
      have FX := Lib.hid (show Fr w X (Ft p t) from R.out.fr.trans hF (fun i hi e => by
        rcases e with e | e
        · omega
        · exact .inr e))
      have CP := Lib.hid (R.out.crp.fr hF (fun e => by
        rcases e with e | e
        · have := HF.out p (.inl rfl); omega
        · exact TN.out e) (fun i e => by
        rcases e with e | e
        · have := R.out.pre.cr.1; omega
        · exact R.out.pre.tl i e))
      have HVO := Lib.hid (show ∀ b, u12.ownBlock = some b → p2 < b ∧ b < wr.heap.size from fun b hb => ⟨R.out.hi b hb, own_lt R.out.own b hb⟩)
      have OW := Lib.hid (own_fr R.out.own hF (fun b hb e => by
        have := R.out.hi b hb
        have := hF2 b e
        omega))
      have HU := Lib.hid (show ys.length ≤ k' + 1 ∧ o + ys.length = Rd.lnN s xs ∧ vs.length ≤ o from ⟨R.out.fuel, R.out.ol, R.out.vl⟩)
      have HLF := Lib.hid R.out.pre.cr.left
      have HS'' := Lib.hid hS
      clear hv hi hnf hx hC hT hF hlo htw hF2 hS R hpq
      rw [vval_eq]
      unfold fault
      by_cases hE : S.e = 0
      · have hfa : faI (a + s.toNat + o) S = 0 := if_pos hE
        rw [hfa, hE]
        obtain ⟨hz, ha⟩ := HV.out.2.2.2 hE
        subst hz ha
        have K0 := Lib.hid k0
        have K1 := Lib.hid k1
        have K2 := Lib.hid k2
        have HS := Lib.hid hE
        clear k0 k1 k2 hfa hE
        go_upto_region 12 with (fail)
        obtain ⟨g3, n1, n2, ns⟩ := two_new X #[.int .u64 v.n, .slice v.B v.bs.length v.d, .slice v.A v.ls.length v.c] 29 #[.int .i64 0, .int .i64 0] 78
        obtain ⟨m0, m1, m2⟩ := n1.three
        have GX := Lib.hid g3
        have NS := Lib.hid ns
        clear g3 n1 n2 ns
        generalize (X.alloc (.cells #[.int .u64 v.n, .slice v.B v.bs.length v.d, .slice v.A v.ls.length v.c] 29)).alloc (.cells #[.int .i64 0, .int .i64 0] 78) = W3 at *
        have GY := Lib.hid (grew_alloc GX.out (.cells #[.int .u64 v.n, .slice v.B v.bs.length v.d, .slice v.A v.ls.length v.c] 29))
        have NW := Lib.hid (Whole.new W3 #[.int .u64 v.n, .slice v.B v.bs.length v.d, .slice v.A v.ls.length v.c] 29)
        have NZ := Lib.hid (show (W3.alloc (.cells #[.int .u64 v.n, .slice v.B v.bs.length v.d, .slice v.A v.ls.length v.c] 29)).heap.size = X.heap.size + 3 by have := NS.out; simp; omega)
        have HA := Lib.hid (fun ty => append_values (W3.alloc (.cells #[.int .u64 v.n, .slice v.B v.bs.length v.d, .slice v.A v.ls.length v.c] 29)) ty (own_fr OW.out (F := fun _ => False) (fr_of GY.out) (fun _ _ h => h)) (ps := [v]) (Va.Lie.whole NW.out rfl) 1 (by have := HU.out; have := HLN.out; simp; omega))
        generalize X.heap.size = z at *
        go_wp2_with (at_builtin; refine wpList_append_run _ rfl (.tmp 57) (.tmp 59) 27 rfl rfl rfl HA.out ?_; rintro V' Y ⟨a1, a2, a3⟩; have A1 := Lib.hid a1; have A2 := Lib.hid a2; have A3 := Lib.hid a3; clear a1 a2 a3)
        have HR2 := Lib.hid (show LstI w0 w Y r p p2 t m c0 (a + s.toNat) #[.int .i64 2, .int .i64 s, .int .i64 l, .int .i64 h, .int .i64 tt, .slice (some ⟨b, o', none⟩) 1 c] f w.heap.size (Rd.lnN s xs) RR ((xs.drop s.toNat).drop (Rd.lnN s xs)) (a + s.toNat + Rd.lnN s xs) V' k' (vs ++ [v]) (o + S.n) (cc + S.c) (ys.drop S.n) by
          obtain ⟨hv, hi, hnf, -⟩ := HV.out
          obtain ⟨hx1, hx2, hx3⟩ := HX.out
          obtain ⟨u1, u2, u3⟩ := HU.out
          have hvo := HVO.out
          have hnz := NZ.out
          obtain ⟨sp1, sp2⟩ := HSP.out HS.out
          have hd : (ys.drop S.n).length = ys.length - S.n := List.length_drop
          have FY : Fr (W3.alloc (.cells #[.int .u64 v.n, .slice v.B v.bs.length v.d, .slice v.A v.ls.length v.c] 29)) Y (fun i => u12.ownBlock = some i) := Fr.of_grew' A2.out (fun i e => e)
          generalize W3.alloc (.cells #[.int .u64 v.n, .slice v.B v.bs.length v.d, .slice v.A v.ls.length v.c] 29) = W4 at *
          have hXY : Fr X Y (fun i => u12.ownBlock = some i) := (fr_of GY.out).trans FY (fun _ _ e => e)
          have hp2 := PX.out.fr hXY (own_ne OW.out PX.out.rd (by decide)) (fun i e e' => by
            have := hvo i e'
            rcases e with e | e
            · omega
            · have := HF.out i (.inr e); omega) (fun i e => by have := hvo i e; have := H0.out; omega)
          have hrow := HW.out
          rw [lst_step HY0.out (by rw [HS''.out]; exact HS.out), HS''.out] at hrow
          have hown := A1.out
          refine ⟨?_, CP.out.fr hXY (fun e => by have := hvo p e; have := HF.out p (.inl rfl); omega) (fun i e => by have := hvo i e; have := H0.out; omega), FX.out.trans hXY (fun i hi e => by have := hvo i e; omega), K0.out.fr hXY (fun e => by have := hvo _ e; omega), K1.out.fr hXY (fun e => by have := hvo _ e; omega), K2.out.fr hXY (fun e => by have := hvo _ e; omega), hx1, ?_, ?_, ?_, ?_, by omega, by omega, by rw [List.length_append]; simp; omega⟩
          · have q1 : c0 + ((cc + S.c : Nat) : Int) = c0 + cc + S.c := by omega
            have q2 : a + (s.toNat : Int) + ((o + S.n : Nat) : Int) = a + s.toNat + o + S.n := by omega
            rw [q1, q2]
            exact hp2
          · rw [List.length_append]; exact hown
          · intro b' hb'
            rcases A3.out with e | e
            · rw [e] at hb'; exact (hvo b' hb').1
            · rw [e] at hb'; cases hb'; omega
          · intro u hu
            have key : u.In X ∧ u.Hi (p2 + 1) ∧ u.Offn (fun i => u12.ownBlock = some i) := by
              rcases List.mem_append.1 hu with hu | hu
              · exact HIN.out u hu
              · rw [List.mem_singleton] at hu
                subst hu
                exact ⟨hv, hi.mono (by omega), hi.offn (fun i e => (hvo i e).2)⟩
            refine ⟨key.1.fr2 hXY key.2.2, key.2.1, ?_⟩
            rcases A3.out with e | e
            · rw [e]; exact key.2.2
            · rw [e]
              exact (key.1.fr2 (fr_of GY.out (F := fun _ => False)) (key.2.2.mono (fun _ h => h.elim))).offn (fun i e => by cases e; exact Nat.le_refl _)
          · rw [nfs_append, ← hrow]
            rw [show nfs [v] = [S.v] by rw [nfs, nfs, hnf]])
        clear K0 K1 K2 HIN FX PX HV HW CP OW HVO GX GY NW NZ A1 A2 A3
        go_roundw
        case rel => exact ⟨k', vs ++ [v], o + S.n, cc + S.c, ys.drop S.n, HR2⟩
        case measure =>
          have h1 := HR2.out.pre.cr.left
          have h2 := HLF.out
          have h3 := HSP.out HS.out
          rw [List.length_drop] at h1
          omega
      · have hfa : faI (a + s.toNat + o) S = a + s.toNat + o + S.n := if_neg hE
        rw [hfa]
        have HS := Lib.hid hE
        have hrow := HW.out
        rw [lst_stop HY0.out (by rw [HS''.out]; exact hE), HS''.out] at hrow
        have HROW := Lib.hid hrow
        clear hfa hrow
        generalize hy : a + (s.toNat : Int) + (o : Int) + S.n = y at *
        have HY := Lib.hid hy
        clear hy
        go_upto_region 11 with (fail)
        obtain ⟨g3, n1, n2, ns⟩ := two_new X #[.int .u64 v.n, .slice v.B v.bs.length v.d, .slice v.A v.ls.length v.c] 29 #[.int .i64 y, .int .i64 S.e] 78
        have GX := Lib.hid g3
        have k1' := k1.grew g3 (by simp)
        have k2' := k2.grew g3 (by simp)
        obtain ⟨c1', c2', c3'⟩ := k1'.three
        obtain ⟨d0, d1⟩ := k2'.two
        obtain ⟨e0, e1⟩ := n2.two
        have f1 := k1'.frozen
        have f2 := k2'.frozen
        have K1 := Lib.hid k1'
        have K2 := Lib.hid k2'
        have q1 : ¬ X.heap.size + 1 = w.heap.size + 1 := by have := HX.out; omega
        have q2 : ¬ w.heap.size + 1 = X.heap.size + 1 := by have := HX.out; omega
        have q3 : ¬ X.heap.size = w.heap.size := by have := HX.out; omega
        have q4 : ¬ w.heap.size = X.heap.size := by have := HX.out; omega
        clear k0 k1 k2 k1' k2' g3 n1 n2 ns
        generalize (X.alloc (.cells #[.int .u64 v.n, .slice v.B v.bs.length v.d, .slice v.A v.ls.length v.c] 29)).alloc (.cells #[.int .i64 y, .int .i64 S.e] 78) = W3 at *
        go_region
        go_wp2_with fail
        obtain ⟨r1, r2, r3⟩ := put32 K1.out K2.out (by omega) (.int .u64 0) (.slice none 0 0) (.slice none 0 0) (.int .i64 y) (.int .i64 S.e)
        refine bodyPost_ret (results_cells rfl _ _ _ _ _ _ _ _ _ _ _ _ rfl r1 Try.underlying29 rfl (by kernel_rfl) rfl r2 Try.underlying78 rfl (by kernel_rfl)) rfl ?_
        have hP := PX.out.fr (F := fun _ => False) (fr_of GX.out) (fun h => h) (fun _ _ h => h) (fun _ h => h.elim)
        have hCP := CP.out.fr (F := fun _ => False) (fr_of GX.out) (fun h => h) (fun _ h => h.elim)
        rw [← HROW.out]
        refine got_close (R := Rd.shift ⟨S.e, o + S.n, v0, cc + S.c⟩ s.toNat) (v := v0) (k := w.heap.size + 3) (FX.out.trans (fr_of GX.out) (fun _ _ e => e)) hCP ?_ r3.drew (by omega) (by omega) HF.out (v0_in _) (v0_hi _) (by omega) (by omega) rfl (fun h => absurd h HS.out) ?_
        · have q1 : c0 + ((cc + S.c : Nat) : Int) = c0 + cc + S.c := by omega
          show Tly W3 t m (c0 + ((cc + S.c : Nat) : Int))
          rw [q1]
          exact hP.ty
        · have q2 : faI a (Rd.shift ⟨S.e, o + S.n, v0, cc + S.c⟩ s.toNat) = y := by
            show (if S.e = 0 then (0 : Int) else a + ((s.toNat + (o + S.n) : Nat) : Int)) = y
            rw [if_neg HS.out, ← HY.out]
            omega
          rw [q2]
          rfl
    · have hy0 : ys = [] := List.eq_nil_of_length_eq_zero (by omega)
      obtain ⟨A', c', rfl, hlc, hlie⟩ := Va.Lie.of_own R.out.own
      have hrr := R.out.rr
      rw [hy0, lst_end] at hrr
      have hoN := R.out.ol
      rw [hy0] at hoN
      simp only [List.length_nil, Nat.add_zero] at hoN
      have HRR' := Lib.hid hrr
      have HON := Lib.hid hoN
      have HLIE := Lib.hid hlie
      have HLC := Lib.hid hlc
      obtain ⟨c1', c2', c3'⟩ := R.out.b1.three
      obtain ⟨d0, d1⟩ := R.out.b2.two
      have f1 := R.out.b1.frozen
      have f2 := R.out.b2.frozen
      clear hrr hoN hlc hlie hlt
      go_wp2_with fail
      refine (cr_left wr p2 w0.heap.size ys _ R.out.pre.cr).mono ?_
      rintro e w1 ⟨rfl, rfl⟩
      rw [show ((ys.length : Nat) : Int) = 0 by rw [hy0]; rfl]
      clear hy0
      go_wp2_with fail
      obtain ⟨r1, r2, r3⟩ := put32 R.out.b1 R.out.b2 (by omega) (.int .u64 0) (.slice none 0 0) (.slice A' vs.length c') (.int .i64 0) (.int .i64 0)
      refine bodyPost_ret (results_cells rfl _ _ _ _ _ _ _ _ _ _ _ _ rfl r1 Try.underlying29 rfl (by kernel_rfl) rfl r2 Try.underlying78 rfl (by kernel_rfl)) rfl ?_
      have hl := HLN.out
      have hins := R.out.ins
      have hvl := R.out.vl
      have hpq := R.out.pq
      have hon := HON.out
      have hhi := R.out.hi
      rw [← HRR'.out]
      refine got_close (R := Rd.shift ⟨0, o, vL (nfs vs), cc⟩ s.toNat) (v := .mk 0 none 0 [] A' c' vs) (k := w.heap.size + 3) R.out.fr R.out.crp R.out.pre.ty r3 (by omega) (by omega) HF.out ?_ ?_ (by omega) (by omega) ?_ (fun _ => ⟨?_, ?_⟩) ?_
      · exact .mk (by omega) (fun h => by simp at h) (by simp) HLC.out (by omega) HLIE.out (fun u hu => (hins u hu).1)
      · refine .mk (fun _ h => by cases h) (fun a h => ?_) (fun u hu => (hins u hu).2.1.mono (by omega))
        subst h
        have := hhi a.block rfl
        omega
      · rw [nf]; rfl
      · show _ = xs.drop (s.toNat + o)
        rw [List.drop_drop, hon]
      · show _ = a + ((s.toNat + o : Nat) : Int)
        rw [hon]
        omega
      · rfl
end Go.Proofs.Ytibbeodcheefaaa

