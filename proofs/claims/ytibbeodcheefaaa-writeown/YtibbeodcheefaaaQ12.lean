/- Writing: the values of a list or a row, one by one. -/
import Derived.Test.YtibbeodcheefaaaQ9
import Derived.Test.YtibbeodcheefaaaQ11
import Derived.Maps.OwnOps
namespace Go.Proofs.Ytibbeodcheefaaa
open Go.RowKit Va

/-- The bytes of values, each by the part at its place. -/
def joinF (g : Nat → Fo) : Nat → List Va → List UInt8
  | _, [] => []
  | i, v :: vs => Rd.wr (g i) v ++ joinF g (i + 1) vs
theorem joinF_one (p : Fo) : ∀ (vs : List Va) (i : Nat), joinF (fun _ => p) i vs = vs.flatMap (Rd.wr p)
  | [], _ => rfl
  | v :: vs, i => by rw [joinF, joinF_one p vs, List.flatMap_cons]
theorem joinF_row (g : Nat → Fo) : ∀ (ps : List Fo) (vs : List Va) (i : Nat), (∀ j p, ps[j]? = some p → g (i + j) = p) → vs.length = ps.length → joinF g i vs = Rd.pairB (Rd.wrs ps) vs
  | [], vs, i, _, hl => by
    have : vs = [] := List.length_eq_zero_iff.1 (by simpa using hl)
    subst this
    rfl
  | p :: ps, [], i, _, hl => by simp at hl
  | p :: ps, v :: vs, i, h, hl => by
    have h0 := h 0 p rfl
    rw [Nat.add_zero] at h0
    rw [joinF, Rd.wrs, Rd.pairB, h0, joinF_row g ps vs (i + 1) (fun j q hq => by rw [← h (j + 1) q (by simpa using hq)]; congr 1; omega) (by simpa using hl)]

/-- What holds ahead of each round of 'each'. -/
structure EachI (J : World → (Nat → Prop) → List UInt8 → Prop) (w W : World) (F : Nat → Prop) (fcs vcs : Array Value) (g : Nat → Fo) (ls : List Va) (T : List UInt8) (j : Nat) : Prop where
  st : ∃ F' ys, J W F' ys ∧ (∀ i, F' i → F i ∨ w.heap.size + 2 ≤ i) ∧ ys ++ joinF g j (ls.drop j) = T
  fr : Fr w W F
  b0 : Whole W w.heap.size fcs 24
  b1 : Whole W (w.heap.size + 1) vcs 29
  sz : w.heap.size + 2 ≤ W.heap.size

set_option maxRecDepth 100000 in
set_option maxHeartbeats 2000000 in
theorem each_any (w0 w : World) (k s l h t : Int) (A : Option Addr) (c : Nat) (ps : List Fo) (hf : Fo.In w0 (.mk k s l h t A c ps)) (n : Int) (B : Option Addr) (d : Nat) (bs : List UInt8) (A' : Option Addr) (c' : Nat) (ls : List Va) (hv : Va.In w0 (.mk n B d bs A' c' ls)) (g0 : Grew w0 w none) (g : Nat → Fo) (hp0 : 0 < ls.length → 0 < ps.length)
    (hp3 : k = 3 → ls.length ≤ ps.length ∧ ∀ i p, ps[i]? = some p → g i = p) (hp2 : k ≠ 3 → ∀ i p, ps[0]? = some p → g i = p)
    (J : World → (Nat → Prop) → List UInt8 → Prop) (K : Nat → Prop) (hK : ∀ i, K i → i < w.heap.size)
    (hJ : ∀ W W' F G ys, J W F ys → Fr W W' G → (∀ i, F i ∨ K i → ¬ G i) → J W' F ys) (hJl : ∀ W F ys, J W F ys → ∀ i, F i → i < W.heap.size)
    (F : Nat → Prop) (hF : ∀ i, F i → w0.heap.size ≤ i) (xs T : List UInt8) (h0 : J w F xs) (hT : xs ++ joinF g 0 ls = T)
    (G : FuncId) (q : Nat) (hin : ∀ args w, (callFunc G args).run Try.prog w = .ok (.enter G args) w)
    (H : ∀ i u, ls[i]? = some u → ∀ (W : World) (F' : Nat → Prop) (ys : List UInt8), J W F' ys → Grew w0 W none → (∀ i, F' i → w0.heap.size ≤ i) → ys.length + (Rd.wr (g i) u).length ≤ T.length →
      Calls Try.prog G #[(g i).val, u.val, .pointer (some ⟨q, 0, none⟩)] W fun e W' => e = .returned (.int .i64 0) ∧ ∃ F'', J W' F'' (ys ++ Rd.wr (g i) u) ∧ Fr W W' F' ∧ ∀ i, F'' i → F' i ∨ W.heap.size ≤ i) :
    Calls Try.prog 52 #[.agg #[.int .i64 k, .int .i64 s, .int .i64 l, .int .i64 h, .int .i64 t, .slice A ps.length c], .agg #[.int .u64 n, .slice B bs.length d, .slice A' ls.length c'], .func (.func G) #[] #[.pointer (some ⟨q, 0, none⟩)]] w fun e w' => e = .returned (.int .i64 0) ∧ ∃ F', J w' F' T ∧ Fr w w' F ∧ ∀ i, F' i → F i ∨ w.heap.size ≤ i := by
  obtain ⟨g1, k0, k1, ks⟩ := two_new w #[.int .i64 k, .int .i64 s, .int .i64 l, .int .i64 h, .int .i64 t, .slice A ps.length c] 24 #[.int .u64 n, .slice B bs.length d, .slice A' ls.length c'] 29
  have HR := Lib.hid (show ∀ W, W = (w.alloc (.cells #[.int .i64 k, .int .i64 s, .int .i64 l, .int .i64 h, .int .i64 t, .slice A ps.length c] 24)).alloc (.cells #[.int .u64 n, .slice B bs.length d, .slice A' ls.length c'] 29) →
      EachI J w W F #[.int .i64 k, .int .i64 s, .int .i64 l, .int .i64 h, .int .i64 t, .slice A ps.length c] #[.int .u64 n, .slice B bs.length d, .slice A' ls.length c'] g ls T 0 by
    rintro W rfl
    exact ⟨⟨F, xs, hJ _ _ _ _ _ h0 (fr_of g1 (F := fun _ => False)) (fun _ _ h => h), fun i hi => .inl hi, hT⟩, fr_of g1, k0, k1, by rw [ks]; exact Nat.le_refl _⟩)
  have HG := Lib.hid g0
  have HI := Lib.hid hf
  have HV := Lib.hid hv
  have HH := Lib.hid H
  have HK := Lib.hid hK
  have HJ := Lib.hid hJ
  have HJL := Lib.hid hJl
  have HFF := Lib.hid (show ∀ i, F i → w0.heap.size ≤ i ∧ i < w.heap.size from fun i hi => ⟨hF i hi, hJl _ _ _ h0 i hi⟩)
  have HP0 := Lib.hid hp0
  have HP3 := Lib.hid hp3
  have HP2 := Lib.hid hp2
  have hlen : ls.length ≤ 2513169434916 := hv.list.2.2
  clear g0 hf hv H hK hJ hJl hF hp0 hp3 hp2 g1 k0 k1 ks h0 hT
  go_enter Try.func52, Try.ntmps52
  go_wp2_with fail
  have HR' := Lib.hid (HR.out _ rfl)
  clear HR
  generalize (w.alloc (.cells #[.int .i64 k, .int .i64 s, .int .i64 l, .int .i64 h, .int .i64 t, .slice A ps.length c] 24)).alloc (.cells #[.int .u64 n, .slice B bs.length d, .slice A' ls.length c'] 29) = W at *
  go_loopw [14] (fun i wr => ∃ j : Nat, j ≤ ls.length ∧ i = .int .i64 j ∧ Hid (EachI J w wr F #[.int .i64 k, .int .i64 s, .int .i64 l, .int .i64 h, .int .i64 t, .slice A ps.length c] #[.int .u64 n, .slice B bs.length d, .slice A' ls.length c'] g ls T j)) (fun i _ => ls.length - (intOf i).toNat)
  case atStart => exact ⟨0, Nat.zero_le _, rfl, HR'⟩
  case round =>
    obtain ⟨j, hj, rfl, R⟩ := hrel
    have hgw : Grew w0 wr none := grew_fr HG.out R.out.fr (fun i hi => (HFF.out i hi).1)
    have GW := Lib.hid hgw
    by_cases hlt : j < ls.length
    · obtain ⟨b, o, u, hA, hu, hum, c0, c1, c2⟩ := (HV.out.grew hgw).list.1.at (show j < (Va.mk n B d bs A' c' ls).ls.length from hlt)
      obtain rfl : A' = some ⟨b, o, none⟩ := hA
      obtain ⟨b', o', p0, rfl, hq0, hpm0, hfi0, d0, d1, d2, d3, d4, d5⟩ := (HI.out.grew hgw).at (HP0.out (by omega))
      have hu' : ls[j]? = some u := hu
      have HU := Lib.hid hu'
      have HQ0 := Lib.hid hq0
      obtain ⟨F1, ys, J1, n1, e1⟩ := R.out.st
      have hdr : ls.drop j = u :: ls.drop (j + 1) := Va.drop_at hu'
      rw [hdr, joinF] at e1
      have J1' := Lib.hid J1
      have N1 := Lib.hid n1
      have E1 := Lib.hid e1
      clear hu hu' hum hq0 hpm0 hfi0 J1 n1 e1 hdr hgw
      have hpz : 0 < ps.length := HP0.out (by omega)
      go_upto_region 4 with (fail)
      have g3 := grew_alloc (grew_refl wr none) (.cells #[.int .u64 u.n, .slice u.B u.bs.length u.d, .slice u.A u.ls.length u.c] 29)
      have m8 := Whole.new wr #[.int .u64 u.n, .slice u.B u.bs.length u.d, .slice u.A u.ls.length u.c] 29
      have s3 : (wr.alloc (.cells #[.int .u64 u.n, .slice u.B u.bs.length u.d, .slice u.A u.ls.length u.c] 29)).heap.size = wr.heap.size + 1 := by simp
      have k05 := (R.out.b0.grew g3 (by simp)).cell 5
      simp only [List.getElem?_toArray, List.getElem?_cons_succ, List.getElem?_cons_zero] at k05
      have d0' := g3.cell d0 (by simp)
      have d1' := g3.cell d1 (by simp)
      have d2' := g3.cell d2 (by simp)
      have d3' := g3.cell d3 (by simp)
      have d4' := g3.cell d4 (by simp)
      have d5' := g3.cell d5 (by simp)
      rw [Nat.zero_mul, Nat.add_zero] at d0' d1' d2' d3' d4' d5'
      have G3 := Lib.hid g3
      have M8 := Lib.hid m8
      have S3 := Lib.hid s3
      clear g3 m8 s3 d0 d1 d2 d3 d4 d5 c0 c1 c2
      generalize wr.alloc (.cells #[.int .u64 u.n, .slice u.B u.bs.length u.d, .slice u.A u.ls.length u.c] 29) = W1 at *
      generalize hz : wr.heap.size = z at *
      have HZ := Lib.hid hz
      clear hz
      go_upto_region 5 with (fail)
      have g4 := grew_alloc (grew_refl W1 none) (.cells #[.int .i64 p0.k, .int .i64 p0.s, .int .i64 p0.l, .int .i64 p0.h, .int .i64 p0.t, .slice p0.A p0.ps.length p0.c] 24)
      have m9 := Whole.new W1 #[.int .i64 p0.k, .int .i64 p0.s, .int .i64 p0.l, .int .i64 p0.h, .int .i64 p0.t, .slice p0.A p0.ps.length p0.c] 24
      have s4 : (W1.alloc (.cells #[.int .i64 p0.k, .int .i64 p0.s, .int .i64 p0.l, .int .i64 p0.h, .int .i64 p0.t, .slice p0.A p0.ps.length p0.c] 24)).heap.size = W1.heap.size + 1 := by simp
      have m8 := M8.out.grew g4 (by simp)
      have kb0 := (R.out.b0.grew G3.out (by simp)).grew g4 (by simp)
      have k00 := kb0.cell 0
      have k05' := kb0.cell 5
      simp only [List.getElem?_toArray, List.getElem?_cons_succ, List.getElem?_cons_zero] at k00 k05'
      obtain ⟨t0, t1, t2⟩ := m8.three
      have G4 := Lib.hid g4
      have M9 := Lib.hid m9
      have S4 := Lib.hid s4
      clear g4 m9 s4 m8 M8 kb0 k05 d0' d1' d2' d3' d4' d5'
      generalize W1.alloc (.cells #[.int .i64 p0.k, .int .i64 p0.s, .int .i64 p0.l, .int .i64 p0.h, .int .i64 p0.t, .slice p0.A p0.ps.length p0.c] 24) = W2 at *
      generalize hz' : W1.heap.size = z' at *
      have HZ' := Lib.hid hz'
      clear hz'
      by_cases hk : k = 3
      · obtain ⟨b2, o2, p, hA2, hq, hpm, hfi, e0, e1, e2, e3, e4, e5⟩ := (HI.out.grew GW.out).at (Nat.lt_of_lt_of_le hlt (HP3.out hk).1)
        cases hA2
        have hgp : g j = p := (HP3.out hk).2 j p hq
        have HGP := Lib.hid hgp
        have e0' := G4.out.cell (G3.out.cell e0 (by simp)) (by simp)
        have e1' := G4.out.cell (G3.out.cell e1 (by simp)) (by simp)
        have e2' := G4.out.cell (G3.out.cell e2 (by simp)) (by simp)
        have e3' := G4.out.cell (G3.out.cell e3 (by simp)) (by simp)
        have e4' := G4.out.cell (G3.out.cell e4 (by simp)) (by simp)
        have e5' := G4.out.cell (G3.out.cell e5 (by simp)) (by simp)
        have hpl : ps.length ≤ 2199023255552 := by
          have := HI.out
          cases this with
          | mk _ hz _ _ => exact hz
        have hjp := (HP3.out hk).1
        subst hk
        clear hq hpm hfi hgp e0 e1 e2 e3 e4 e5
        obtain ⟨v0', v1', v2', v3', v4', v5'⟩ := M9.out.six
        have f9 := M9.out.frozen
        go_upto_region 7 with (fail)
        have m9 := M9.out.put6 (.int .i64 p.k) (.int .i64 p.s) (.int .i64 p.l) (.int .i64 p.h) (.int .i64 p.t) (.slice p.A p.ps.length p.c)
        have hfp := fr_put6 W2 z' (.int .i64 p.k) (.int .i64 p.s) (.int .i64 p.l) (.int .i64 p.h) (.int .i64 p.t) (.slice p.A p.ps.length p.c)
        have HF4 := Lib.hid (show Fr wr _ (fun i => i = z') from ((fr_of G3.out).trans (fr_of G4.out (F := fun i => i = z')) (fun _ _ h => h)).trans hfp (fun _ _ h => h))
        obtain ⟨x0, x1, x2, x3, x4, x5⟩ := m9.six
        have hz8 : z ≠ z' := by have := S3.out; have := HZ'.out; omega
        have t0' := hfp.cell t0 (show ¬ z = z' from hz8)
        have t1' := hfp.cell t1 (show ¬ z = z' from hz8)
        have t2' := hfp.cell t2 (show ¬ z = z' from hz8)
        clear m9 hfp t0 t1 t2 v0' v1' v2' v3' v4' v5' f9 e0' e1' e2' e3' e4' e5'
        unfold put6 at *
        generalize ((((((W2.setCell ⟨z', 0, none⟩ (.int .i64 p.k)).setCell ⟨z', 1, none⟩ (.int .i64 p.s)).setCell ⟨z', 2, none⟩ (.int .i64 p.l)).setCell ⟨z', 3, none⟩ (.int .i64 p.h)).setCell ⟨z', 4, none⟩ (.int .i64 p.t)).setCell ⟨z', 5, none⟩ (.slice p.A p.ps.length p.c)) = W4 at *
        go_wp2_with fail
        have hJ2 : J W4 F1 ys := HJ.out _ _ _ _ _ J1'.out HF4.out (fun i hi => by
          rcases hi with hi | hi
          · have := HJL.out _ _ _ J1'.out i hi
            have := HZ.out; have := S3.out; have := HZ'.out
            omega
          · have h1 := HK.out i hi
            have h2 := R.out.sz
            have := HZ.out; have := S3.out; have := HZ'.out
            omega)
        have hF1 : ∀ i, F1 i → w0.heap.size ≤ i := fun i hi => (N1.out i hi).elim (fun h => (HFF.out i h).1) (fun h => Nat.le_trans HG.out.size (by omega))
        have hG4 : Grew w0 W4 none := grew_fr GW.out HF4.out (fun i hi => by
          have h1 := GW.out.size
          have := HZ.out; have := S3.out; have := HZ'.out
          omega)
        have hlT : ys.length + (Rd.wr (g j) u).length ≤ T.length := by rw [← E1.out, List.length_append, List.length_append]; omega
        have hc := HH.out j u HU.out W4 F1 ys hJ2 hG4 hF1 hlT
        rw [HGP.out, val_eq, vval_eq] at hc
        refine hc.mono ?_
        rintro e X ⟨rfl, F2, j2, fr2, n2⟩
        have hX : Fr wr X F1 := (HF4.out.mono (G := fun i => F1 i ∨ i = z') (fun _ _ h => .inr h)).trans (fr2.mono (G := fun i => F1 i ∨ i = z') (fun _ _ h => .inl h)) (fun _ _ h => h) |>.mono (fun i hi h => h.resolve_right (by
          have := HZ.out; have := S3.out; have := HZ'.out
          omega))
        have HI2 := Lib.hid (show EachI J w X F #[.int .i64 3, .int .i64 s, .int .i64 l, .int .i64 h, .int .i64 t, .slice (some ⟨b', o', none⟩) ps.length c] #[.int .u64 n, .slice B bs.length d, .slice (some ⟨b, o, none⟩) ls.length c'] g ls T (j + 1) from by
          have hlo : ∀ i, i = w.heap.size ∨ i = w.heap.size + 1 → ¬ F1 i := fun i hi h => by
            rcases N1.out i h with h | h
            · have := (HFF.out i h).2; omega
            · omega
          refine ⟨⟨F2, ys ++ Rd.wr (g j) u, by rw [HGP.out]; exact j2, fun i hi => ?_, by rw [List.append_assoc]; exact E1.out⟩, R.out.fr.trans hX (fun i hi h => (N1.out i h).resolve_right (by omega)), R.out.b0.fr hX (hlo _ (.inl rfl)), R.out.b1.fr hX (hlo _ (.inr rfl)), Nat.le_trans R.out.sz hX.size⟩
          rcases n2 i hi with h | h
          · exact N1.out i h
          · have h1 := R.out.sz
            have h2 := HF4.out.size
            exact .inr (by omega))
        clear hc hJ2 hF1 hG4 hlT j2 fr2 n2 hX
        go_wp2_with fail
        go_roundw
        case rel => exact ⟨j + 1, by omega, by go_num, HI2⟩
        case measure => simp [intOf]; omega
      · have hgp : g j = p0 := HP2.out hk j p0 HQ0.out
        have HGP := Lib.hid hgp
        obtain ⟨v0', v1', v2', v3', v4', v5'⟩ := M9.out.six
        clear hgp
        have HF4 := Lib.hid (show Fr wr W2 (fun i => i = z') from (fr_of G3.out).trans (fr_of G4.out (F := fun i => i = z')) (fun _ _ h => h))
        go_wp2_with fail
        have hJ2 : J W2 F1 ys := HJ.out _ _ _ _ _ J1'.out HF4.out (fun i hi => by
          rcases hi with hi | hi
          · have := HJL.out _ _ _ J1'.out i hi
            have := HZ.out; have := S3.out; have := HZ'.out
            omega
          · have h1 := HK.out i hi
            have h2 := R.out.sz
            have := HZ.out; have := S3.out; have := HZ'.out
            omega)
        have hF1 : ∀ i, F1 i → w0.heap.size ≤ i := fun i hi => (N1.out i hi).elim (fun h => (HFF.out i h).1) (fun h => Nat.le_trans HG.out.size (by omega))
        have hG4 : Grew w0 W2 none := grew_fr GW.out HF4.out (fun i hi => by
          have h1 := GW.out.size
          have := HZ.out; have := S3.out; have := HZ'.out
          omega)
        have hlT : ys.length + (Rd.wr (g j) u).length ≤ T.length := by rw [← E1.out, List.length_append, List.length_append]; omega
        have hc := HH.out j u HU.out W2 F1 ys hJ2 hG4 hF1 hlT
        rw [HGP.out, val_eq, vval_eq] at hc
        refine hc.mono ?_
        rintro e X ⟨rfl, F2, j2, fr2, n2⟩
        have hX : Fr wr X F1 := (HF4.out.mono (G := fun i => F1 i ∨ i = z') (fun _ _ h => .inr h)).trans (fr2.mono (G := fun i => F1 i ∨ i = z') (fun _ _ h => .inl h)) (fun _ _ h => h) |>.mono (fun i hi h => h.resolve_right (by
          have := HZ.out; have := S3.out; have := HZ'.out
          omega))
        have HI2 := Lib.hid (show EachI J w X F #[.int .i64 k, .int .i64 s, .int .i64 l, .int .i64 h, .int .i64 t, .slice (some ⟨b', o', none⟩) ps.length c] #[.int .u64 n, .slice B bs.length d, .slice (some ⟨b, o, none⟩) ls.length c'] g ls T (j + 1) from by
          have hlo : ∀ i, i = w.heap.size ∨ i = w.heap.size + 1 → ¬ F1 i := fun i hi h => by
            rcases N1.out i h with h | h
            · have := (HFF.out i h).2; omega
            · omega
          refine ⟨⟨F2, ys ++ Rd.wr (g j) u, by rw [HGP.out]; exact j2, fun i hi => ?_, by rw [List.append_assoc]; exact E1.out⟩, R.out.fr.trans hX (fun i hi h => (N1.out i h).resolve_right (by omega)), R.out.b0.fr hX (hlo _ (.inl rfl)), R.out.b1.fr hX (hlo _ (.inr rfl)), Nat.le_trans R.out.sz hX.size⟩
          rcases n2 i hi with h | h
          · exact N1.out i h
          · have h1 := R.out.sz
            have h2 := HF4.out.size
            exact .inr (by omega))
        clear hc hJ2 hF1 hG4 hlT j2 fr2 n2 hX
        go_wp2_with fail
        go_roundw
        case rel => exact ⟨j + 1, by omega, by go_num, HI2⟩
        case measure => simp [intOf]; omega
    · have hjn : j = ls.length := by omega
      obtain ⟨F1, ys, J1, n1, e1⟩ := R.out.st
      rw [hjn, List.drop_length, joinF, List.append_nil] at e1
      subst e1
      have FR := Lib.hid R.out.fr
      have J1' := Lib.hid J1
      have N1 := Lib.hid n1
      clear J1 n1 R
      go_wp2_with fail
      go_ret
      exact ⟨rfl, F1, J1'.out, FR.out, fun i hi => (N1.out i hi).imp id (fun h => by omega)⟩
end Go.Proofs.Ytibbeodcheefaaa


/- Writing: what is handed on: a part behind its length. -/
namespace Go.Proofs.Ytibbeodcheefaaa
open Go.RowKit Va

theorem list_close (xs Z : List UInt8) (k : Nat) : ((xs ++ List.replicate k 0) ++ Z).take ((xs.length + k) - k) ++ (be k (((xs ++ List.replicate k 0) ++ Z).length - (xs.length + k)) ++ ((xs ++ List.replicate k 0) ++ Z).drop (xs.length + k)) = xs ++ (be k Z.length ++ Z) := by
  have h1 : ((xs ++ List.replicate k 0) ++ Z).take ((xs.length + k) - k) = xs := by
    rw [List.append_assoc]
    exact List.take_left' (by omega)
  have h2 : ((xs ++ List.replicate k (0 : UInt8)) ++ Z).length - (xs.length + k) = Z.length := by
    rw [List.length_append, List.length_append, List.length_replicate]
    omega
  have h3 : ((xs ++ List.replicate k (0 : UInt8)) ++ Z).drop (xs.length + k) = Z := List.drop_left' (by rw [List.length_append, List.length_replicate])
  rw [h1, h2, h3]

set_option maxRecDepth 100000 in
set_option maxHeartbeats 1000000 in
theorem behind_any (w : World) (F : Nat → Prop) (p most : Nat) (xs : List UInt8) (ps : List (Nat × Nat)) (h : Bd w F p most xs ps) (k : Nat) (hk1 : 1 ≤ k) (hk3 : k ≤ 3) (Z : List UInt8) (hfit : xs.length + (k + Z.length) ≤ most) (hZ : Z.length < 256 ^ k)
    (G : FuncId) (cs : Array Value) (hin : ∀ args w, (callFunc G args).run Try.prog w = .ok (.enter G args) w)
    (H : ∀ (W : World) (F' : Nat → Prop), Bd W F' p most (xs ++ List.replicate k 0) (ps ++ [(xs.length + k, k)]) → Fr w W F → (∀ i, F' i → F i ∨ w.heap.size ≤ i) →
      Calls Try.prog G cs W fun e W' => e = .returned (.int .i64 0) ∧ BdOut W W' F' p most ((xs ++ List.replicate k 0) ++ Z) (ps ++ [(xs.length + k, k)])) :
    Calls Try.prog 66 #[.pointer (some ⟨p, 0, none⟩), .int .i64 k, .func (.func G) #[] cs] w fun e w' => e = .returned (.int .i64 0) ∧ BdOut w w' F p most (xs ++ (be k Z.length ++ Z)) ps := by
  have HB := Lib.hid h
  have HH := Lib.hid H
  have HZ := Lib.hid hZ
  have HF := Lib.hid hfit
  clear h H hZ hfit
  go_enter Try.func66, Try.ntmps66
  go_wp2_with fail
  refine (bopen_ok w F p most xs ps HB.out k hk1 hk3 (by have := HF.out; omega)).mono ?_
  rintro e w1 ⟨rfl, F1, b1, fr1, n1⟩
  have B1 := Lib.hid b1
  have R1 := Lib.hid fr1
  have N1 := Lib.hid n1
  clear b1 fr1 n1
  go_wp2_with fail
  refine (HH.out w1 F1 B1.out R1.out N1.out).mono ?_
  rintro e w2 ⟨rfl, F2, b2, fr2, n2⟩
  have B2 := Lib.hid b2
  have R2 := Lib.hid fr2
  have N2 := Lib.hid n2
  clear b2 fr2 n2
  go_wp2_with fail
  refine (bclose_ok w2 F2 p most _ ps _ k B2.out (by rw [List.length_append, List.length_append, List.length_replicate]; have := HZ.out; have e : xs.length + k + Z.length - (xs.length + k) = Z.length := by omega
                                                     rw [e]; exact this)).mono ?_
  rintro e w3 ⟨rfl, h3⟩
  rw [list_close] at h3
  have H3 := Lib.hid h3
  clear h3
  go_wp2_with fail
  go_ret
  exact ⟨rfl, BdOut.andThen R1.out N1.out (BdOut.andThen R2.out N2.out H3.out)⟩

end Go.Proofs.Ytibbeodcheefaaa


/- Writing: a value of a form into a builder. -/
namespace Go.Proofs.Ytibbeodcheefaaa
open Go.RowKit Va

theorem enter_i2 : ∀ args w, (callFunc 67 args).run Try.prog w = .ok (.enter 67 args) w := fun _ _ => by kernel_rfl
theorem enter_i1 : ∀ args w, (callFunc 63 args).run Try.prog w = .ok (.enter 63 args) w := fun _ _ => by kernel_rfl
theorem enter_i11 : ∀ args w, (callFunc 64 args).run Try.prog w = .ok (.enter 64 args) w := fun _ _ => by kernel_rfl

/-- What 'inside' does: the bytes of a value that fits, behind the others. -/
def Ins (f : Fo) : Prop := ∀ (w0 w : World) (v : Va) (n : Int) (F : Nat → Prop) (p most : Nat) (xs : List UInt8) (PS : List (Nat × Nat)), f.In w0 → v.In w0 → Grew w0 w none → (∀ i, F i → w0.heap.size ≤ i) → Bd w F p most xs PS → fit f v = (n, 0) → xs.length + (Rd.wr f v).length ≤ most →
  Calls Try.prog 55 #[.pointer (some ⟨p, 0, none⟩), f.val, v.val] w fun e w' => e = .returned (.int .i64 0) ∧ BdOut w w' F p most (xs ++ Rd.wr f v) PS

theorem Grew.out {w0 w w' : World} {F : Nat → Prop} (g : Grew w0 w none) (hF : ∀ i, F i → w0.heap.size ≤ i) (h : Fr w w' F) : Grew w0 w' none := grew_fr g h hF

set_option maxRecDepth 100000 in
set_option maxHeartbeats 1000000 in
/-- The function that is handed on. -/
theorem ins11 {f : Fo} (hI : Ins f) (w0 w : World) (v : Va) (n : Int) (F : Nat → Prop) (p most : Nat) (xs : List UInt8) (PS : List (Nat × Nat)) (hf : f.In w0) (hv : v.In w0) (g0 : Grew w0 w none) (hF : ∀ i, F i → w0.heap.size ≤ i) (h : Bd w F p most xs PS) (hn : fit f v = (n, 0)) (hfit : xs.length + (Rd.wr f v).length ≤ most)
    (q : Nat) (hq : Whole w q #[.pointer (some ⟨p, 0, none⟩)] 95) :
    Calls Try.prog 64 #[f.val, v.val, .pointer (some ⟨q, 0, none⟩)] w fun e w' => e = .returned (.int .i64 0) ∧ BdOut w w' F p most (xs ++ Rd.wr f v) PS := by
  obtain ⟨g1, k0, k1, ks⟩ := two_new w #[.int .i64 f.k, .int .i64 f.s, .int .i64 f.l, .int .i64 f.h, .int .i64 f.t, .slice f.A f.ps.length f.c] 24 #[.int .u64 v.n, .slice v.B v.bs.length v.d, .slice v.A v.ls.length v.c] 29
  have hc := hI w0 _ v n F p most xs PS hf hv (grew_trans g0 g1) hF (h.fr (fr_of g1 (F := fun _ => False)) (fun _ _ h => h)) hn hfit
  have q0 := (hq.grew g1 (by simp)).cell 0
  simp only [List.getElem?_toArray, List.getElem?_cons_zero] at q0
  rw [val_eq, vval_eq] at *
  have HC := Lib.hid hc
  have G1 := Lib.hid g1
  clear hc hI hf hv g0 hF h hn hfit hq g1 k0 k1 ks
  go_enter Try.func64, Try.ntmps64
  go_wp2_with fail
  refine HC.out.mono ?_
  rintro e w1 ⟨rfl, h1⟩
  have H1 := Lib.hid h1
  clear h1 HC q0
  go_wp2_with fail
  go_ret
  exact ⟨rfl, H1.out.ahead (fr_of G1.out)⟩

set_option maxRecDepth 100000 in
set_option maxHeartbeats 1000000 in
/-- All values of a list or a row. -/
theorem ins1 (w0 w : World) (k s l h t : Int) (A : Option Addr) (c : Nat) (ps : List Fo) (hf : Fo.In w0 (.mk k s l h t A c ps)) (n : Int) (B : Option Addr) (d : Nat) (bs : List UInt8) (A' : Option Addr) (c' : Nat) (ls : List Va) (hv : Va.In w0 (.mk n B d bs A' c' ls)) (g0 : Grew w0 w none) (g : Nat → Fo) (hp0 : 0 < ls.length → 0 < ps.length)
    (hp3 : k = 3 → ls.length ≤ ps.length ∧ ∀ i p, ps[i]? = some p → g i = p) (hp2 : k ≠ 3 → ∀ i p, ps[0]? = some p → g i = p)
    (hI : ∀ i u, ls[i]? = some u → Ins (g i) ∧ (g i).In w0 ∧ ∃ m, fit (g i) u = (m, 0))
    (F : Nat → Prop) (hF : ∀ i, F i → w0.heap.size ≤ i) (p most : Nat) (xs : List UInt8) (PS : List (Nat × Nat)) (hB : Bd w F p most xs PS) (hfit : xs.length + (joinF g 0 ls).length ≤ most)
    (q3 q4 q5 : Nat) (h3 : Whole w q3 #[.pointer (some ⟨p, 0, none⟩)] 95) (hq : ¬ F q3) (h4 : Whole w q4 #[.int .i64 k, .int .i64 s, .int .i64 l, .int .i64 h, .int .i64 t, .slice A ps.length c] 24) (h5 : Whole w q5 #[.int .u64 n, .slice B bs.length d, .slice A' ls.length c'] 29) :
    Calls Try.prog 63 #[.pointer (some ⟨q4, 0, none⟩), .pointer (some ⟨q5, 0, none⟩), .pointer (some ⟨q3, 0, none⟩)] w fun e w' => e = .returned (.int .i64 0) ∧ BdOut w w' F p most (xs ++ joinF g 0 ls) PS := by
  have hc := each_any w0 w k s l h t A c ps hf n B d bs A' c' ls hv g0 g hp0 hp3 hp2 (fun W F ys => Bd W F p most ys PS ∧ Whole W q3 #[.pointer (some ⟨p, 0, none⟩)] 95 ∧ ¬ F q3) (fun i => i = q3) (fun i hi => by subst hi; exact h3.lt)
    (fun W W' F G ys ⟨a, b, c⟩ hg hd => ⟨a.fr hg (fun i hi => hd i (.inl hi)), b.fr hg (hd q3 (.inr rfl)), c⟩) (fun W F ys ⟨a, _⟩ => a.has) F hF xs (xs ++ joinF g 0 ls) ⟨hB, h3, hq⟩ rfl 64 q3 enter_i11
    (fun i u hu W F' ys ⟨a, b, c⟩ hG hF' hl => by
      obtain ⟨i1, i2, m, i3⟩ := hI i u hu
      rw [List.length_append] at hl
      refine (ins11 i1 w0 W u m F' p most ys PS i2 (hv.parts u (List.mem_of_getElem? hu)) hG hF' a i3 (by omega) q3 b).mono ?_
      rintro e W' ⟨rfl, F'', x1, x2, x3⟩
      exact ⟨rfl, F'', ⟨x1, b.fr x2 c, fun h => (x3 q3 h).elim c (fun h => by have := b.lt; omega)⟩, x2, x3⟩)
  obtain ⟨d0, d1, d2, d3, d4, d5⟩ := h4.six
  obtain ⟨e0, e1, e2⟩ := h5.three
  have HC := Lib.hid hc
  clear hc hf hv g0 hp0 hp3 hp2 hI hF hB hfit h3 hq h4 h5
  go_enter Try.func63, Try.ntmps63
  go_wp2_with fail
  refine HC.out.mono ?_
  rintro e w1 ⟨rfl, F', ⟨x1, _⟩, x2, x3⟩
  have H1 := Lib.hid (show BdOut w w1 F p most (xs ++ joinF g 0 ls) PS from ⟨F', x1, x2, x3⟩)
  clear x1 x2 x3 HC d0 d1 d2 d3 d4 d5 e0 e1 e2
  go_wp2_with fail
  go_ret
  exact ⟨rfl, H1.out⟩

set_option maxRecDepth 100000 in
set_option maxHeartbeats 1000000 in
/-- The bytes of an Opaque. -/
theorem ins2 (w : World) (v : Va) (G F : Nat → Prop) (p most : Nat) (xs : List UInt8) (PS : List (Nat × Nat)) (hB : Bd w F p most xs PS) (hb : ByF w G v.B v.bs) (hfit : xs.length + v.bs.length ≤ most)
    (q3 q5 : Nat) (h3 : Whole w q3 #[.pointer (some ⟨p, 0, none⟩)] 95) (h5 : Whole w q5 #[.int .u64 v.n, .slice v.B v.bs.length v.d, .slice v.A v.ls.length v.c] 29) :
    Calls Try.prog 67 #[.pointer (some ⟨q3, 0, none⟩), .pointer (some ⟨q5, 0, none⟩)] w fun e w' => e = .returned (.int .i64 0) ∧ BdOut w w' F p most (xs ++ v.bs) PS := by
  have hc := bbytes_any w F p most xs PS hB G v.B v.bs v.d hb
  rw [adE, if_neg (by omega), adX, if_neg (by omega)] at hc
  have d0 := h3.cell 0
  simp only [List.getElem?_toArray, List.getElem?_cons_zero] at d0
  obtain ⟨e0, e1, e2⟩ := h5.three
  have HC := Lib.hid hc
  clear hc hB hb hfit h3 h5
  go_enter Try.func67, Try.ntmps67
  go_wp2_with fail
  refine HC.out.mono ?_
  rintro e w1 ⟨rfl, x1⟩
  have H1 := Lib.hid x1
  clear x1 HC d0 e0 e1 e2
  go_wp2_with fail
  go_ret
  exact ⟨rfl, H1.out⟩
end Go.Proofs.Ytibbeodcheefaaa


/- Writing: a value of a form into a builder, kind by kind. -/
namespace Go.Proofs.Ytibbeodcheefaaa
open Go.RowKit Va

section
variable (w0 w : World) (s l h t : Int) (A : Option Addr) (c : Nat) (ps : List Fo) (v : Va) (F : Nat → Prop) (p most : Nat) (xs : List UInt8) (PS : List (Nat × Nat))

set_option maxRecDepth 100000 in
set_option maxHeartbeats 1000000 in
theorem inside_0 (k x : Nat) (hx : x < 18446744073709551616) (hk : sizeOk k) (hl : x < 256 ^ k) (hB : Bd w F p most xs PS) (hfit : xs.length + k ≤ most) :
    Calls Try.prog 55 #[.pointer (some ⟨p, 0, none⟩), .agg #[.int .i64 0, .int .i64 k, .int .i64 l, .int .i64 h, .int .i64 t, .slice A ps.length c], .agg #[.int .u64 x, .slice v.B v.bs.length v.d, .slice v.A v.ls.length v.c]] w fun e w' => e = .returned (.int .i64 0) ∧ BdOut w w' F p most (xs ++ be k x) PS := by
  obtain ⟨g1, k0, k1, k2, ks⟩ := three_new w #[.pointer (some ⟨p, 0, none⟩)] 95 #[.int .i64 0, .int .i64 k, .int .i64 l, .int .i64 h, .int .i64 t, .slice A ps.length c] 24 #[.int .u64 x, .slice v.B v.bs.length v.d, .slice v.A v.ls.length v.c] 29
  have hc := bnumber_ok _ F p most xs PS (hB.fr (fr_of g1 (F := fun _ => False)) (fun _ _ h => h)) k x hk hx hl
  rw [adE, if_neg (by omega), adX, if_neg (by rw [be_length]; omega)] at hc
  have HC := Lib.hid hc
  have G1 := Lib.hid g1
  clear hc g1 k0 k1 k2 ks hB hx hk hl
  go_enter Try.func55, Try.ntmps55
  go_wp2_with fail
  refine HC.out.mono ?_
  rintro e w1 ⟨rfl, h1⟩
  have H1 := Lib.hid h1
  clear h1 HC
  go_wp2_with fail
  go_ret
  exact ⟨rfl, H1.out.ahead (fr_of G1.out)⟩

set_option maxRecDepth 100000 in
set_option maxHeartbeats 1000000 in
theorem inside_b (k : Int) (hk : k = 4 ∨ k = 5) (hB : Bd w F p most xs PS) (hb : Byt w w.heap.size v.B v.bs) (hfit : xs.length + v.bs.length ≤ most) :
    Calls Try.prog 55 #[.pointer (some ⟨p, 0, none⟩), .agg #[.int .i64 k, .int .i64 s, .int .i64 l, .int .i64 h, .int .i64 t, .slice A ps.length c], .agg #[.int .u64 v.n, .slice v.B v.bs.length v.d, .slice v.A v.ls.length v.c]] w fun e w' => e = .returned (.int .i64 0) ∧ BdOut w w' F p most (xs ++ v.bs) PS := by
  obtain ⟨g1, k0, k1, k2, ks⟩ := three_new w #[.pointer (some ⟨p, 0, none⟩)] 95 #[.int .i64 k, .int .i64 s, .int .i64 l, .int .i64 h, .int .i64 t, .slice A ps.length c] 24 #[.int .u64 v.n, .slice v.B v.bs.length v.d, .slice v.A v.ls.length v.c] 29
  have hc := bbytes_any _ F p most xs PS (hB.fr (fr_of g1 (F := fun _ => False)) (fun _ _ h => h)) _ v.B v.bs v.d ((hb.grew g1 (fun _ h => by cases h)).byf)
  rw [adE, if_neg (by omega), adX, if_neg (by omega)] at hc
  have HC := Lib.hid hc
  have G1 := Lib.hid g1
  have n0 : ¬ k = 0 := by omega
  have n1 : ¬ k = 1 := by omega
  have n2 : ¬ k = 2 := by omega
  have n3 : ¬ k = 3 := by omega
  clear hc g1 k0 k1 k2 ks hB hb hk
  go_enter Try.func55, Try.ntmps55
  go_wp2_with fail
  refine HC.out.mono ?_
  rintro e w1 ⟨rfl, h1⟩
  have H1 := Lib.hid h1
  clear h1 HC
  go_wp2_with fail
  go_ret
  exact ⟨rfl, H1.out.ahead (fr_of G1.out)⟩

set_option maxRecDepth 100000 in
set_option maxHeartbeats 1000000 in
theorem inside_1 (k : Nat) (hk1 : 1 ≤ k) (hk3 : k ≤ 3) (hZ : v.bs.length < 256 ^ k) (hF : ∀ i, F i → w0.heap.size ≤ i) (g0 : Grew w0 w none) (hB : Bd w F p most xs PS) (hb : Byt w0 w0.heap.size v.B v.bs) (hfit : xs.length + (k + v.bs.length) ≤ most) :
    Calls Try.prog 55 #[.pointer (some ⟨p, 0, none⟩), .agg #[.int .i64 1, .int .i64 k, .int .i64 l, .int .i64 h, .int .i64 t, .slice A ps.length c], .agg #[.int .u64 v.n, .slice v.B v.bs.length v.d, .slice v.A v.ls.length v.c]] w fun e w' => e = .returned (.int .i64 0) ∧ BdOut w w' F p most (xs ++ (be k v.bs.length ++ v.bs)) PS := by
  obtain ⟨g1, k0, k1, k2, ks⟩ := three_new w #[.pointer (some ⟨p, 0, none⟩)] 95 #[.int .i64 1, .int .i64 k, .int .i64 l, .int .i64 h, .int .i64 t, .slice A ps.length c] 24 #[.int .u64 v.n, .slice v.B v.bs.length v.d, .slice v.A v.ls.length v.c] 29
  have HC := Lib.hid (fun (W : World) (e : W = ((w.alloc (.cells #[.pointer (some ⟨p, 0, none⟩)] 95)).alloc (.cells #[.int .i64 1, .int .i64 k, .int .i64 l, .int .i64 h, .int .i64 t, .slice A ps.length c] 24)).alloc (.cells #[.int .u64 v.n, .slice v.B v.bs.length v.d, .slice v.A v.ls.length v.c] 29)) =>
    behind_any W F p most xs PS (by rw [e]; exact hB.fr (fr_of g1 (F := fun _ => False)) (fun _ _ h => h)) k hk1 hk3 v.bs hfit hZ 67 #[.pointer (some ⟨w.heap.size, 0, none⟩), .pointer (some ⟨w.heap.size + 2, 0, none⟩)] enter_i2 (fun W' F' b1 fr1 n1 => by
      subst e
      have hlo : ∀ i, w.heap.size ≤ i → ¬ F i := fun i hi h => by have := hB.has i h; omega
      exact ins2 W' v _ F' p most _ _ b1 ((hb.grew (grew_fr (grew_trans g0 g1) fr1 hF) (fun _ h => by cases h)).byf) (by rw [List.length_append, List.length_replicate]; omega) _ _ (k0.fr fr1 (hlo _ (by omega))) (k2.fr fr1 (hlo _ (by omega)))))
  have G1 := Lib.hid g1
  clear g1 k0 k1 k2 ks hB hb g0 hF hZ hfit
  go_enter Try.func55, Try.ntmps55
  go_wp2_with fail
  refine (HC.out _ rfl).mono ?_
  rintro e w1 ⟨rfl, h1⟩
  have H1 := Lib.hid h1
  clear h1 HC
  go_wp2_with fail
  go_ret
  exact ⟨rfl, H1.out.ahead (fr_of G1.out)⟩
end

set_option maxRecDepth 100000 in
set_option maxHeartbeats 1000000 in
theorem inside_2 (w0 w : World) (k : Nat) (l h t : Int) (A : Option Addr) (c : Nat) (q : Fo) (hf : Fo.In w0 (.mk 2 k l h t A c [q])) (n : Int) (B : Option Addr) (d : Nat) (bs : List UInt8) (A' : Option Addr) (c' : Nat) (ls : List Va) (hv : Va.In w0 (.mk n B d bs A' c' ls)) (g0 : Grew w0 w none) (hI : Ins q) (hfits : ∀ u ∈ ls, ∃ m, fit q u = (m, 0))
    (F : Nat → Prop) (hF : ∀ i, F i → w0.heap.size ≤ i) (p most : Nat) (xs : List UInt8) (PS : List (Nat × Nat)) (hB : Bd w F p most xs PS) (hk1 : 1 ≤ k) (hk3 : k ≤ 3) (hZ : (ls.flatMap (Rd.wr q)).length < 256 ^ k) (hfit : xs.length + (k + (ls.flatMap (Rd.wr q)).length) ≤ most) :
    Calls Try.prog 55 #[.pointer (some ⟨p, 0, none⟩), .agg #[.int .i64 2, .int .i64 k, .int .i64 l, .int .i64 h, .int .i64 t, .slice A 1 c], .agg #[.int .u64 n, .slice B bs.length d, .slice A' ls.length c']] w fun e w' => e = .returned (.int .i64 0) ∧ BdOut w w' F p most (xs ++ (be k (ls.flatMap (Rd.wr q)).length ++ ls.flatMap (Rd.wr q))) PS := by
  obtain ⟨g1, k0, k1, k2, ks⟩ := three_new w #[.pointer (some ⟨p, 0, none⟩)] 95 #[.int .i64 2, .int .i64 k, .int .i64 l, .int .i64 h, .int .i64 t, .slice A 1 c] 24 #[.int .u64 n, .slice B bs.length d, .slice A' ls.length c'] 29
  have hqi : q.In w0 := hf.parts q (by simp [Fo.ps])
  have HC := Lib.hid (fun (W : World) (e : W = ((w.alloc (.cells #[.pointer (some ⟨p, 0, none⟩)] 95)).alloc (.cells #[.int .i64 2, .int .i64 k, .int .i64 l, .int .i64 h, .int .i64 t, .slice A 1 c] 24)).alloc (.cells #[.int .u64 n, .slice B bs.length d, .slice A' ls.length c'] 29)) =>
    behind_any W F p most xs PS (by rw [e]; exact hB.fr (fr_of g1 (F := fun _ => False)) (fun _ _ h => h)) k hk1 hk3 (ls.flatMap (Rd.wr q)) hfit hZ 63 #[.pointer (some ⟨w.heap.size + 1, 0, none⟩), .pointer (some ⟨w.heap.size + 2, 0, none⟩), .pointer (some ⟨w.heap.size, 0, none⟩)] enter_i1 (fun W' F' b1 fr1 n1 => by
      subst e
      have hlo : ∀ i, w.heap.size ≤ i → ¬ F i := fun i hi h => by have := hB.has i h; omega
      have hsz := grew_trans g0 g1
      have := ins1 w0 W' 2 k l h t A c [q] hf n B d bs A' c' ls hv (grew_fr hsz fr1 hF) (fun _ => q) (fun _ => by simp) (fun e => by omega) (fun _ i r hr => by simpa using hr) (fun i u hu => ⟨hI, hqi, hfits u (List.mem_of_getElem? hu)⟩)
        F' (fun i hi => (n1 i hi).elim (hF i) (fun h => Nat.le_trans hsz.size h)) p most _ _ b1 (by rw [joinF_one, List.length_append, List.length_replicate]; omega) w.heap.size (w.heap.size + 1) (w.heap.size + 2) (k0.fr fr1 (hlo _ (by omega))) (fun h => (n1 _ h).elim (hlo _ (by omega)) (fun h => by rw [ks] at h; omega)) (k1.fr fr1 (hlo _ (by omega))) (k2.fr fr1 (hlo _ (by omega)))
      rw [joinF_one] at this
      exact this))
  have G1 := Lib.hid g1
  clear g1 k0 k1 k2 ks hB hf hv g0 hI hfits hF hZ hfit hqi
  go_enter Try.func55, Try.ntmps55
  go_wp2_with fail
  refine (HC.out _ rfl).mono ?_
  rintro e w1 ⟨rfl, h1⟩
  have H1 := Lib.hid h1
  clear h1 HC
  go_wp2_with fail
  go_ret
  exact ⟨rfl, H1.out.ahead (fr_of G1.out)⟩

set_option maxRecDepth 100000 in
set_option maxHeartbeats 1000000 in
theorem inside_3 (w0 w : World) (s l h t : Int) (A : Option Addr) (c : Nat) (ps : List Fo) (hf : Fo.In w0 (.mk 3 s l h t A c ps)) (n : Int) (B : Option Addr) (d : Nat) (bs : List UInt8) (A' : Option Addr) (c' : Nat) (ls : List Va) (hv : Va.In w0 (.mk n B d bs A' c' ls)) (g0 : Grew w0 w none) (hlen : ls.length = ps.length) (hI : ∀ q ∈ ps, Ins q) (hfits : ∀ (i : Nat) (q : Fo) (u : Va), ps[i]? = some q → ls[i]? = some u → ∃ m, fit q u = (m, 0))
    (F : Nat → Prop) (hF : ∀ i, F i → w0.heap.size ≤ i) (p most : Nat) (xs : List UInt8) (PS : List (Nat × Nat)) (hB : Bd w F p most xs PS) (hfit : xs.length + (Rd.pairB (Rd.wrs ps) ls).length ≤ most) :
    Calls Try.prog 55 #[.pointer (some ⟨p, 0, none⟩), .agg #[.int .i64 3, .int .i64 s, .int .i64 l, .int .i64 h, .int .i64 t, .slice A ps.length c], .agg #[.int .u64 n, .slice B bs.length d, .slice A' ls.length c']] w fun e w' => e = .returned (.int .i64 0) ∧ BdOut w w' F p most (xs ++ Rd.pairB (Rd.wrs ps) ls) PS := by
  obtain ⟨g1, k0, k1, k2, ks⟩ := three_new w #[.pointer (some ⟨p, 0, none⟩)] 95 #[.int .i64 3, .int .i64 s, .int .i64 l, .int .i64 h, .int .i64 t, .slice A ps.length c] 24 #[.int .u64 n, .slice B bs.length d, .slice A' ls.length c'] 29
  have hg : ∀ i q, ps[i]? = some q → ps.getD i (.mk 0 0 0 0 0 none 0 []) = q := fun i q hq => by rw [List.getD_eq_getElem?_getD, hq]; rfl
  have hj : joinF (fun i => ps.getD i (.mk 0 0 0 0 0 none 0 [])) 0 ls = Rd.pairB (Rd.wrs ps) ls := joinF_row _ ps ls 0 (fun j q hq => by rw [Nat.zero_add]; exact hg j q hq) hlen
  have HC := Lib.hid (fun (W : World) (e : W = ((w.alloc (.cells #[.pointer (some ⟨p, 0, none⟩)] 95)).alloc (.cells #[.int .i64 3, .int .i64 s, .int .i64 l, .int .i64 h, .int .i64 t, .slice A ps.length c] 24)).alloc (.cells #[.int .u64 n, .slice B bs.length d, .slice A' ls.length c'] 29)) => (by
      subst e
      have hlo : ∀ i, w.heap.size ≤ i → ¬ F i := fun i hi h => by have := hB.has i h; omega
      have := ins1 w0 _ 3 s l h t A c ps hf n B d bs A' c' ls hv (grew_trans g0 g1) (fun i => ps.getD i (.mk 0 0 0 0 0 none 0 [])) (fun h => by omega) (fun _ => ⟨by omega, hg⟩) (fun e => by omega) (fun i u hu => by
          have hi : i < ls.length := (List.getElem?_eq_some_iff.1 hu).1
          have hq : ps[i]? = some ps[i] := List.getElem?_eq_getElem (by omega)
          have hm : ps[i] ∈ ps := List.getElem_mem _
          rw [hg i _ hq]
          exact ⟨hI _ hm, hf.parts _ hm, hfits i _ u hq hu⟩)
        F hF p most xs PS (hB.fr (fr_of g1 (F := fun _ => False)) (fun _ _ h => h)) (by rw [hj]; exact hfit) w.heap.size (w.heap.size + 1) (w.heap.size + 2) k0 (hlo _ (by omega)) k1 k2
      rw [hj] at this
      exact this :
        Calls Try.prog 63 #[.pointer (some ⟨w.heap.size + 1, 0, none⟩), .pointer (some ⟨w.heap.size + 2, 0, none⟩), .pointer (some ⟨w.heap.size, 0, none⟩)] W fun e w' => e = .returned (.int .i64 0) ∧ BdOut W w' F p most (xs ++ Rd.pairB (Rd.wrs ps) ls) PS))
  have G1 := Lib.hid g1
  clear g1 k0 k1 k2 ks hB hf hv g0 hI hfits hF hfit hj hg hlen
  have hin := enter_i1
  go_enter Try.func55, Try.ntmps55
  go_wp2_with fail
  refine (HC.out _ rfl).mono ?_
  rintro e w1 ⟨rfl, h1⟩
  have H1 := Lib.hid h1
  clear h1 HC
  go_wp2_with fail
  go_ret
  exact ⟨rfl, H1.out.ahead (fr_of G1.out)⟩

/-- A right form's. -/
theorem wins_any (f : Fo) : f.wrg = 0 → Ins f := by
  induction f using Fo.ind with
  | H k s l h t A c ps ih =>
  intro hw w0 w v n F p most xs PS hf hv g0 hF hB hn hfit
  obtain ⟨ha, hq, _⟩ := wrg_zero hw
  have hmo := hB.le.2.1
  rcases alone_kind ha with rfl | rfl | rfl | rfl | rfl | rfl
  · have hs := Rd.alone_0 ha
    obtain ⟨f1, f2, f3, e⟩ := Rd.fit_0 hn
    have hvn := hv.num
    obtain ⟨k, rfl⟩ := Int.eq_ofNat_of_zero_le (a := s) (by omega)
    rw [Rd.wr_0, Int.toNat_natCast] at hfit ⊢
    rw [be_length] at hfit
    rw [Int.toNat_natCast] at f3
    have := inside_0 w l h t A c ps v F p most xs PS k v.n.toNat (by omega) (by unfold sizeOk; omega) (Rd.pow_nat (h := v.n) (by omega) f3) hB hfit
    rw [Int.toNat_of_nonneg hvn.1] at this
    exact this
  · obtain ⟨s1, s3, l0, lh, hh, t1, t2, _⟩ := Rd.alone_1 (.inl rfl) ha
    have h256 := Rd.alone_h (.inl rfl) ha
    obtain ⟨f1, f2, f3, f4, f5, e⟩ := Rd.fit_1 hn
    obtain ⟨k, rfl⟩ := Int.eq_ofNat_of_zero_le (a := s) (by omega)
    rw [Rd.wr_1, Int.toNat_natCast] at hfit ⊢
    rw [List.length_append, be_length] at hfit
    rw [Int.toNat_natCast] at h256
    exact inside_1 w0 w l h t A c ps v F p most xs PS k (by omega) (by omega) (Rd.pow_nat f4 h256) hF g0 hB hv.bytes.1 hfit
  · obtain ⟨s1, s3, l0, lh, hh, t1, t2, hn1⟩ := Rd.alone_1 (.inr rfl) ha
    have h256 := Rd.alone_h (.inr rfl) ha
    obtain ⟨q, rfl⟩ := List.length_eq_one_iff.1 (hn1 rfl)
    have hin : Fo.inn (.mk 2 s l h t A c [q]) = [q] := by rw [Fo.inn, if_pos (by omega)]
    rw [hin] at hq
    obtain ⟨f1, f2, m, hm, b1, b2, b3, e⟩ := Rd.fit_2 hn
    obtain ⟨k, rfl⟩ := Int.eq_ofNat_of_zero_le (a := s) (by omega)
    rw [Rd.wr_2, Int.toNat_natCast, Rd.each_one] at hfit ⊢
    rw [List.length_append, be_length] at hfit
    rw [Int.toNat_natCast] at h256
    have hm' : tot 0 (v.ls.map (fit q)) = (m, 0) := hm
    have i1 := Rd.each_len v.ls 0 m (fun u _ => Rd.wr_len q (hq q (by simp)) u) (by omega) (by omega) hm'
    have hb2 : ((v.ls.flatMap (Rd.wr q)).length : Int) ≤ h := by rw [i1, Int.zero_add] at b2; exact b2
    obtain ⟨vn, vB, vd, vbs, vA, vc, vls⟩ := v
    exact inside_2 w0 w k l h t A c q hf vn vB vd vbs vA vc vls hv g0 (ih q (by simp) (hq q (by simp))) (fun u hu => Rd.tot_mem vls 0 m hm' u hu) F hF p most xs PS hB (by omega) (by omega) (Rd.pow_nat (h := h) hb2 h256) hfit
  · have hin : Fo.inn (.mk 3 s l h t A c ps) = ps := by rw [Fo.inn, if_pos (by omega)]
    rw [hin] at hq
    obtain ⟨f1, f2, hl, hm⟩ := Rd.fit_3 hn
    rw [Rd.wr_3] at hfit ⊢
    obtain ⟨vn, vB, vd, vbs, vA, vc, vls⟩ := v
    exact inside_3 w0 w s l h t A c ps hf vn vB vd vbs vA vc vls hv g0 hl (fun q hq' => ih q hq' (hq q hq')) (fun i q u h1 h2 => Rd.tot_pair ps vls 0 n hm i q u h1 h2) F hF p most xs PS hB hfit
  · rw [Rd.wr_4] at hfit ⊢
    exact inside_b w s l h t A c ps v F p most xs PS 4 (.inl rfl) hB ((hv.bytes.1.grew g0 (fun _ h => by cases h)).more g0.size) hfit
  · rw [Rd.wr_5] at hfit ⊢
    exact inside_b w s l h t A c ps v F p most xs PS 5 (.inr rfl) hB ((hv.bytes.1.grew g0 (fun _ h => by cases h)).more g0.size) hfit
end Go.Proofs.Ytibbeodcheefaaa


/- Writing: a value of a form, piece by piece. -/
namespace Go.Proofs.Ytibbeodcheefaaa
open Go.RowKit Va

/-- The variable in block q that holds bytes of one's own. -/
def Ob (w : World) (F : Nat → Prop) (q : Nat) (xs : List UInt8) : Prop :=
  ∃ vb, Whole w q #[vb] 26 ∧ w.ownsRow 0 5 1 vb xs.length (cellsOf xs) ∧ F q ∧ (∀ g, vb.ownBlock = some g → F g) ∧ ∀ i, F i → i < w.heap.size
/-- What a call leaves. -/
def ObOut (w w' : World) (F : Nat → Prop) (q : Nat) (xs : List UInt8) : Prop := ∃ F', Ob w' F' q xs ∧ Fr w w' F ∧ ∀ i, F' i → F i ∨ w.heap.size ≤ i
theorem Ob.has {w : World} {F : Nat → Prop} {q : Nat} {xs : List UInt8} (h : Ob w F q xs) : ∀ i, F i → i < w.heap.size := by
  obtain ⟨_, _, _, _, _, h⟩ := h
  exact h
theorem Ob.fr {w w' : World} {F G : Nat → Prop} {q : Nat} {xs : List UInt8} (h : Ob w F q xs) (g : Fr w w' G) (hr : ∀ i, F i → ¬ G i) : Ob w' F q xs := by
  obtain ⟨vb, h1, h2, h4, h5, h7⟩ := h
  exact ⟨vb, h1.fr g (hr q h4), own_fr h2 g (fun k hk => hr k (h5 k hk)), h4, h5, fun i hi => Nat.lt_of_lt_of_le (h7 i hi) g.size⟩
theorem ObOut.andThen {w w1 w2 : World} {F F1 : Nat → Prop} {q : Nat} {xs : List UInt8} (g : Fr w w1 F) (hn : ∀ i, F1 i → F i ∨ w.heap.size ≤ i) (k : ObOut w1 w2 F1 q xs) : ObOut w w2 F q xs := by
  obtain ⟨F2, h2, g2, n2⟩ := k
  refine ⟨F2, h2, g.trans g2 (fun i hi h => (hn i h).resolve_right (by omega)), fun i hi => ?_⟩
  rcases n2 i hi with h | h
  · exact hn i h
  · exact .inr (Nat.le_trans g.size h)
theorem ObOut.ahead {w W w' : World} {F : Nat → Prop} {q : Nat} {xs : List UInt8} (h : ObOut W w' F q xs) (hF : Fr w W (fun _ => False)) : ObOut w w' F q xs :=
  h.andThen (hF.mono (fun _ _ h => h.elim)) (fun _ h => .inl h)

set_option maxRecDepth 100000 in
set_option maxHeartbeats 1000000 in
theorem tell_any (w : World) (F : Nat → Prop) (q : Nat) (xs : List UInt8) (h : Ob w F q xs) (G : Nat → Prop) (A : Option Addr) (bs : List UInt8) (c : Nat) (hb : ByF w G A bs) (hfit : xs.length + bs.length ≤ 100000000) :
    Calls Try.prog 35 #[.slice A bs.length c, .pointer (some ⟨q, 0, none⟩)] w fun e w' => e = .returned (.tuple #[]) ∧ ObOut w w' F q (xs ++ bs) := by
  obtain ⟨vb, h1, h2, h4, h5, h7⟩ := h
  have hne := own_ne h2 h1 (by decide)
  obtain ⟨A', c', rfl, _⟩ := own_form h2
  have h0 := h1.cell 0
  simp only [List.getElem?_toArray, List.getElem?_cons_zero] at h0
  have HA := Lib.hid (fun ty => append_bytes (P := Try.prog) w 26 ty 5 Try.underlying26 info_u8 h2 hb c (by omega))
  have H1 := Lib.hid h1
  have H5 := Lib.hid h5
  have H7 := Lib.hid h7
  have HN := Lib.hid hne
  clear h1 h2 h5 h7 hb hne
  generalize hk : xs.length = k at *
  have HK := Lib.hid hk
  clear hk
  go_enter Try.func35, Try.ntmps35
  go_wp2_with (at_builtin; refine wpList_append_run _ rfl (.tmp 3) (.tmp 4) 26 rfl rfl rfl (fun ty => HA.out ty) ?_; rintro v' w1 ⟨a1, a2, a3⟩; obtain ⟨A2, c2, rfl, _⟩ := own_form a1; have hW1 := H1.out.fr (Fr.of_grew' (F := fun i => (Value.slice A' k c').ownBlock = some i) a2 (fun i hi => hi)) HN.out; have hs1 := hW1.cell 0; have hf1 := hW1.frozen 0; simp at hs1; have HW1 := Lib.hid hW1; have A1 := Lib.hid a1; have A2' := Lib.hid a2; have A3 := Lib.hid a3; clear hW1 a1 a2 a3)
  go_end0
  refine ⟨rfl, ?_⟩
  have hW2 := HW1.out.set 0 (.slice A2 (k + bs.length) c2)
  simp at hW2
  have hfr : Fr w w1 F := Fr.of_grew' A2'.out (fun i hi => H5.out i hi)
  have hne := own_ne A1.out HW1.out (by decide)
  have hset : ∀ u, Fr w1 (w1.setCell ⟨q, 0, none⟩ u) (fun i => i = q) := fun u => Fr.set (F := fun i => i = q) (Fr.refl _ _) (.inl rfl) _ _ _
  refine ⟨fun i => F i ∨ i = w.heap.size ∧ i < w1.heap.size, ⟨_, hW2, ?_, .inl h4, ?_, ?_⟩, hfr.set (.inl h4) _ _ _, ?_⟩
  · have := own_fr A1.out (hset (.slice A2 (k + bs.length) c2)) (fun g hg e => hne (by rw [hg, e]))
    simpa [HK.out] using this
  · intro g hg
    rcases A3.out with e | e
    · exact .inl (H5.out g (by rw [← e]; exact hg))
    · have e' : some g = some w.heap.size := hg.symm.trans e
      have := own_lt A1.out g hg
      simp at e'
      exact .inr ⟨e', this⟩
  · rintro i (hi | ⟨_, hi⟩)
    · have := H7.out i hi
      have := hfr.size
      simp; omega
    · simpa using hi
  · rintro i (hi | ⟨hi, _⟩)
    · exact .inl hi
    · exact .inr (by omega)

theorem enter_tell : ∀ args w, (callFunc 35 args).run Try.prog w = .ok (.enter 35 args) w := fun _ _ => by kernel_rfl
theorem enter_o1 : ∀ args w, (callFunc 53 args).run Try.prog w = .ok (.enter 53 args) w := fun _ _ => by kernel_rfl

/-- What 'outside' does. -/
def Ous (f : Fo) : Prop := ∀ (w0 w : World) (v : Va) (n : Int) (F : Nat → Prop) (q : Nat) (xs : List UInt8), f.In w0 → v.In w0 → Grew w0 w none → (∀ i, F i → w0.heap.size ≤ i) → Ob w F q xs → fit f v = (n, 0) → xs.length + (Rd.wr f v).length ≤ 10000000 →
  Calls Try.prog 34 #[f.val, v.val, .func (.func 35) #[] #[.pointer (some ⟨q, 0, none⟩)]] w fun e w' => e = .returned (.int .i64 0) ∧ ObOut w w' F q (xs ++ Rd.wr f v)

set_option maxRecDepth 100000 in
set_option maxHeartbeats 1000000 in
theorem ous1 {f : Fo} (hI : Ous f) (w0 w : World) (v : Va) (n : Int) (F : Nat → Prop) (q : Nat) (xs : List UInt8) (hf : f.In w0) (hv : v.In w0) (g0 : Grew w0 w none) (hF : ∀ i, F i → w0.heap.size ≤ i) (h : Ob w F q xs) (hn : fit f v = (n, 0)) (hfit : xs.length + (Rd.wr f v).length ≤ 10000000)
    (q5 : Nat) (hq : Whole w q5 #[.func (.func 35) #[] #[.pointer (some ⟨q, 0, none⟩)]] 70) :
    Calls Try.prog 53 #[f.val, v.val, .pointer (some ⟨q5, 0, none⟩)] w fun e w' => e = .returned (.int .i64 0) ∧ ObOut w w' F q (xs ++ Rd.wr f v) := by
  obtain ⟨g1, k0, k1, ks⟩ := two_new w #[.int .i64 f.k, .int .i64 f.s, .int .i64 f.l, .int .i64 f.h, .int .i64 f.t, .slice f.A f.ps.length f.c] 24 #[.int .u64 v.n, .slice v.B v.bs.length v.d, .slice v.A v.ls.length v.c] 29
  have hc := hI w0 _ v n F q xs hf hv (grew_trans g0 g1) hF (h.fr (fr_of g1 (F := fun _ => False)) (fun _ _ h => h)) hn hfit
  have q0 := (hq.grew g1 (by simp)).cell 0
  simp only [List.getElem?_toArray, List.getElem?_cons_zero] at q0
  rw [val_eq, vval_eq] at *
  have HC := Lib.hid hc
  have G1 := Lib.hid g1
  clear hc hI hf hv g0 hF h hn hfit hq g1 k0 k1 ks
  go_enter Try.func53, Try.ntmps53
  go_wp2_with fail
  refine HC.out.mono ?_
  rintro e w1 ⟨rfl, h1⟩
  have H1 := Lib.hid h1
  clear h1 HC q0
  go_wp2_with fail
  go_ret
  exact ⟨rfl, H1.out.ahead (fr_of G1.out)⟩

set_option maxRecDepth 100000 in
set_option maxHeartbeats 1000000 in
/-- What is no row. -/
theorem outside_b (f : Fo) (hw : f.wrg = 0) (hk : ¬ f.k = 3) (w0 w : World) (v : Va) (n : Int) (F : Nat → Prop) (q : Nat) (xs : List UInt8) (hf : f.In w0) (hv : v.In w0) (g0 : Grew w0 w none) (hF : ∀ i, F i → w0.heap.size ≤ i) (h : Ob w F q xs) (hn : fit f v = (n, 0)) (hfit : xs.length + (Rd.wr f v).length ≤ 10000000) :
    Calls Try.prog 34 #[f.val, v.val, .func (.func 35) #[] #[.pointer (some ⟨q, 0, none⟩)]] w fun e w' => e = .returned (.int .i64 0) ∧ ObOut w w' F q (xs ++ Rd.wr f v) := by
  obtain ⟨g1, k0, k1, k2, ks⟩ := three_new w #[.int .i64 f.k, .int .i64 f.s, .int .i64 f.l, .int .i64 f.h, .int .i64 f.t, .slice f.A f.ps.length f.c] 24 #[.int .u64 v.n, .slice v.B v.bs.length v.d, .slice v.A v.ls.length v.c] 29 #[.func (.func 35) #[] #[.pointer (some ⟨q, 0, none⟩)]] 70
  have HW := Lib.hid (wins_any f hw)
  have HI := Lib.hid (show f.In w0 ∧ v.In w0 ∧ Grew w0 w none ∧ fit f v = (n, 0) from ⟨hf, hv, g0, hn⟩)
  have HB := Lib.hid h
  have HF := Lib.hid hF
  have HT := Lib.hid hfit
  have G1 := Lib.hid g1
  have K0 := Lib.hid k0
  have K1 := Lib.hid k1
  have K2 := Lib.hid k2
  have KS := Lib.hid ks
  have hin := enter_tell
  clear hw hf hv g0 hF h hn hfit g1 k0 k1 k2 ks
  rw [val_eq, vval_eq]
  go_enter Try.func34, Try.ntmps34
  go_wp2_with fail
  generalize ((w.alloc (.cells #[.int .i64 f.k, .int .i64 f.s, .int .i64 f.l, .int .i64 f.h, .int .i64 f.t, .slice f.A f.ps.length f.c] 24)).alloc (.cells #[.int .u64 v.n, .slice v.B v.bs.length v.d, .slice v.A v.ls.length v.c] 29)).alloc (.cells #[.func (.func 35) #[] #[.pointer (some ⟨q, 0, none⟩)]] 70) = W at *
  refine (bnew_ok W 16777218 (by omega)).mono ?_
  rintro e w1 ⟨rfl, b1, g2⟩
  have B1 := Lib.hid b1
  have G2 := Lib.hid g2
  obtain ⟨a0, a1, a2, a3, a4, a5⟩ := (K0.out.grew g2 (by simp)).six
  obtain ⟨c0, c1, c2⟩ := (K1.out.grew g2 (by simp)).three
  clear b1 g2
  generalize hz : W.heap.size = z at *
  have HZ := Lib.hid hz
  clear hz
  go_wp2_with fail
  have hg01 := grew_trans (grew_trans HI.out.2.2.1 G1.out) G2.out
  have hz0 : w0.heap.size ≤ z := by have := (grew_trans HI.out.2.2.1 G1.out).size; have := HZ.out; omega
  have hc := HW.out w0 w1 v n (fun i => i = z) z 16777218 [] [] HI.out.1 HI.out.2.1 hg01 (fun i hi => by omega) B1.out HI.out.2.2.2 (by have := HT.out; simp; omega)
  rw [val_eq, vval_eq] at hc
  refine hc.mono ?_
  rintro e w2 ⟨rfl, F2, b2, fr2, n2⟩
  rw [List.nil_append] at b2
  have B2 := Lib.hid b2
  have R2 := Lib.hid fr2
  have N2 := Lib.hid n2
  clear b2 fr2 n2 hc a0 a1 a2 a3 a4 a5 c0 c1 c2 hg01
  have HZ0 := Lib.hid hz0
  clear hz0
  go_wp2_with fail
  refine (bdone_ok w2 F2 z 16777218 _ B2.out).mono ?_
  rintro e w3 ⟨rfl, y3, g3, _⟩
  have Y3 := Lib.hid y3
  have G3 := Lib.hid g3
  have hlo : ¬ w.heap.size + 2 = z := by have := KS.out; have := HZ.out; omega
  have k2 := (((K2.out.grew G2.out (by simp)).fr R2.out hlo).grew g3 (by simp)).cell 0
  simp only [List.getElem?_toArray, List.getElem?_cons_zero] at k2
  have hB3 : Ob w3 F q xs := by
    have h1 := HB.out.fr (fr_of G1.out (F := fun _ => False)) (fun _ _ h => h)
    have h2 := h1.fr (fr_of G2.out (F := fun _ => False)) (fun _ _ h => h)
    have h3 := h2.fr R2.out (fun i hi e => by have := h1.has i hi; have := HZ.out; omega)
    exact h3.fr (fr_of g3 (F := fun _ => False)) (fun _ _ h => h)
  have hF3 : Fr w w3 (fun _ => False) := by
    have h2 : Fr w w2 (fun i => i = z) := (fr_of (grew_trans G1.out G2.out)).trans R2.out (fun _ _ h => h)
    have h3 := h2.trans (fr_of g3 (F := fun i => i = z)) (fun _ _ h => h)
    exact h3.mono (fun i hi e => by have := KS.out; have := HZ.out; omega)
  have HB3 := Lib.hid hB3
  have HF3 := Lib.hid hF3
  clear y3 g3 hlo hB3 hF3
  generalize w2.heap.size = z2 at *
  go_wp2_with fail
  refine (tell_any w3 F q xs HB3.out _ _ _ _ Y3.out (by have := HT.out; omega)).mono ?_
  rintro e w4 ⟨rfl, h4⟩
  have H4 := Lib.hid h4
  clear h4 k2
  go_wp2_with fail
  go_ret
  exact ⟨rfl, H4.out.ahead HF3.out⟩

set_option maxRecDepth 100000 in
set_option maxHeartbeats 1000000 in
/-- A row. -/
theorem outside_3 (w0 w : World) (s l h t : Int) (A : Option Addr) (c : Nat) (ps : List Fo) (hf : Fo.In w0 (.mk 3 s l h t A c ps)) (n : Int) (B : Option Addr) (d : Nat) (bs : List UInt8) (A' : Option Addr) (c' : Nat) (ls : List Va) (hv : Va.In w0 (.mk n B d bs A' c' ls)) (g0 : Grew w0 w none) (hlen : ls.length = ps.length) (hI : ∀ q ∈ ps, Ous q) (hfits : ∀ (i : Nat) (q : Fo) (u : Va), ps[i]? = some q → ls[i]? = some u → ∃ m, fit q u = (m, 0))
    (F : Nat → Prop) (hF : ∀ i, F i → w0.heap.size ≤ i) (q : Nat) (xs : List UInt8) (hB : Ob w F q xs) (hfit : xs.length + (Rd.pairB (Rd.wrs ps) ls).length ≤ 10000000) :
    Calls Try.prog 34 #[.agg #[.int .i64 3, .int .i64 s, .int .i64 l, .int .i64 h, .int .i64 t, .slice A ps.length c], .agg #[.int .u64 n, .slice B bs.length d, .slice A' ls.length c'], .func (.func 35) #[] #[.pointer (some ⟨q, 0, none⟩)]] w fun e w' => e = .returned (.int .i64 0) ∧ ObOut w w' F q (xs ++ Rd.pairB (Rd.wrs ps) ls) := by
  obtain ⟨g1, k0, k1, k2, ks⟩ := three_new w #[.int .i64 3, .int .i64 s, .int .i64 l, .int .i64 h, .int .i64 t, .slice A ps.length c] 24 #[.int .u64 n, .slice B bs.length d, .slice A' ls.length c'] 29 #[.func (.func 35) #[] #[.pointer (some ⟨q, 0, none⟩)]] 70
  have hg : ∀ i q, ps[i]? = some q → ps.getD i (.mk 0 0 0 0 0 none 0 []) = q := fun i q hq => by rw [List.getD_eq_getElem?_getD, hq]; rfl
  have hj : joinF (fun i => ps.getD i (.mk 0 0 0 0 0 none 0 [])) 0 ls = Rd.pairB (Rd.wrs ps) ls := joinF_row _ ps ls 0 (fun j q hq => by rw [Nat.zero_add]; exact hg j q hq) hlen
  have HC := Lib.hid (fun (W : World) (e : W = ((w.alloc (.cells #[.int .i64 3, .int .i64 s, .int .i64 l, .int .i64 h, .int .i64 t, .slice A ps.length c] 24)).alloc (.cells #[.int .u64 n, .slice B bs.length d, .slice A' ls.length c'] 29)).alloc (.cells #[.func (.func 35) #[] #[.pointer (some ⟨q, 0, none⟩)]] 70)) => (by
      subst e
      have hlo : ∀ i, w.heap.size ≤ i → ¬ F i := fun i hi h => by have := hB.has i h; omega
      have := each_any w0 _ 3 s l h t A c ps hf n B d bs A' c' ls hv (grew_trans g0 g1) (fun i => ps.getD i (.mk 0 0 0 0 0 none 0 [])) (fun h => by omega) (fun _ => ⟨by omega, hg⟩) (fun e => by omega)
        (fun W F ys => Ob W F q ys ∧ Whole W (w.heap.size + 2) #[.func (.func 35) #[] #[.pointer (some ⟨q, 0, none⟩)]] 70 ∧ ¬ F (w.heap.size + 2)) (fun i => i = w.heap.size + 2) (fun i hi => by subst hi; exact k2.lt)
        (fun W W' F G ys ⟨a, b, c⟩ hg hd => ⟨a.fr hg (fun i hi => hd i (.inl hi)), b.fr hg (hd _ (.inr rfl)), c⟩) (fun W F ys ⟨a, _⟩ => a.has) F hF xs (xs ++ Rd.pairB (Rd.wrs ps) ls) ⟨hB.fr (fr_of g1 (F := fun _ => False)) (fun _ _ h => h), k2, hlo _ (by omega)⟩ (by rw [hj]) 53 (w.heap.size + 2) enter_o1
        (fun i u hu W F' ys ⟨a, b, c⟩ hG hF' hl => by
          have hi : i < ls.length := (List.getElem?_eq_some_iff.1 hu).1
          have hq : ps[i]? = some ps[i] := List.getElem?_eq_getElem (by omega)
          have hm : ps[i] ∈ ps := List.getElem_mem _
          obtain ⟨m, i3⟩ := hfits i _ u hq hu
          rw [hg i _ hq] at hl ⊢
          rw [List.length_append] at hl
          refine (ous1 (hI _ hm) w0 W u m F' q ys (hf.parts _ hm) (hv.parts u (List.mem_of_getElem? hu)) hG hF' a i3 (by omega) _ b).mono ?_
          rintro e W' ⟨rfl, F'', x1, x2, x3⟩
          exact ⟨rfl, F'', ⟨x1, b.fr x2 c, fun h => (x3 _ h).elim c (fun h => by have := b.lt; omega)⟩, x2, x3⟩)
      exact this :
        Calls Try.prog 52 #[.agg #[.int .i64 3, .int .i64 s, .int .i64 l, .int .i64 h, .int .i64 t, .slice A ps.length c], .agg #[.int .u64 n, .slice B bs.length d, .slice A' ls.length c'], .func (.func 53) #[] #[.pointer (some ⟨w.heap.size + 2, 0, none⟩)]] W fun e w' => e = .returned (.int .i64 0) ∧ ∃ F', (Ob w' F' q (xs ++ Rd.pairB (Rd.wrs ps) ls) ∧ Whole w' (w.heap.size + 2) #[.func (.func 35) #[] #[.pointer (some ⟨q, 0, none⟩)]] 70 ∧ ¬ F' (w.heap.size + 2)) ∧ Fr W w' F ∧ ∀ i, F' i → F i ∨ W.heap.size ≤ i))
  have G1 := Lib.hid g1
  clear g1 k0 k1 k2 ks hB hf hv g0 hI hfits hF hfit hj hg hlen
  go_enter Try.func34, Try.ntmps34
  go_wp2_with fail
  refine (HC.out _ rfl).mono ?_
  rintro e w1 ⟨rfl, F', ⟨x1, _, _⟩, x2, x3⟩
  have H1 := Lib.hid (show ObOut _ w1 F q (xs ++ Rd.pairB (Rd.wrs ps) ls) from ⟨F', x1, x2, x3⟩)
  clear x1 x2 x3 HC
  go_wp2_with fail
  go_ret
  exact ⟨rfl, H1.out.ahead (fr_of G1.out)⟩

/-- A right form's. -/
theorem ous_any (f : Fo) : f.wrg = 0 → Ous f := by
  induction f using Fo.ind with
  | H k s l h t A c ps ih =>
  intro hw w0 w v n F q xs hf hv g0 hF hB hn hfit
  by_cases hk : k = 3
  · subst hk
    obtain ⟨ha, hq, _⟩ := wrg_zero hw
    have hin : Fo.inn (.mk 3 s l h t A c ps) = ps := by rw [Fo.inn, if_pos (by omega)]
    rw [hin] at hq
    obtain ⟨f1, f2, hl, hm⟩ := Rd.fit_3 hn
    rw [Rd.wr_3] at hfit ⊢
    obtain ⟨vn, vB, vd, vbs, vA, vc, vls⟩ := v
    exact outside_3 w0 w s l h t A c ps hf vn vB vd vbs vA vc vls hv g0 hl (fun r hr => ih r hr (hq r hr)) (fun i r u h1 h2 => Rd.tot_pair ps vls 0 n hm i r u h1 h2) F hF q xs hB hfit
  · exact outside_b _ hw hk w0 w v n F q xs hf hv g0 hF hB hn hfit
end Go.Proofs.Ytibbeodcheefaaa


/- Which field is a kind's: the map. -/
namespace Go.Proofs.Ytibbeodcheefaaa
open Go.RowKit Go.Maps

set_option maxRecDepth 100000 in
theorem kinds_law : Keyed Try.prog 3 := int_keyed Try.underlying3
set_option maxRecDepth 100000 in
theorem kinds_zero (w : World) : (zeroValue 3).run Try.prog w = .ok (.int .i64 0) w := by kernel_rfl
/-- What the map reads as. -/
def kindsD : DataW Unit := ((((((DataW.map []).put (.int .i64 0) (.lit (.int .i64 0))).put (.int .i64 1) (.lit (.int .i64 1))).put (.int .i64 2) (.lit (.int .i64 2))).put (.int .i64 3) (.lit (.int .i64 2))).put (.int .i64 4) (.lit (.int .i64 1))).put (.int .i64 5) (.lit (.int .i64 1))
/-- Block q is the map. -/
def Kinds (w : World) (q : Nat) : Prop := w.ownsMap (H := Unit) Try.prog 3 (plainElem Try.prog 3) q 6 kindsD
set_option maxRecDepth 100000 in
theorem Kinds.grew {w w' : World} {q : Nat} (h : Kinds w q) (g : Grew w w' none) : Kinds w' q := World.ownsMap.kept h g (by simp)
set_option maxRecDepth 100000 in
theorem Kinds.look {w : World} {q : Nat} (h : Kinds w q) {k : Int} (hk : k = 0 ∨ k = 1 ∨ k = 2 ∨ k = 3 ∨ k = 4 ∨ k = 5) : (Instr.lookup 112 (.map (some q)) (.int .i64 k) false).run Try.prog w = .ok (.int .i64 (Va.own k : Int)) w := by
  have hkey : keyOf Try.prog 3 (.int .i64 k) = some (.int .i64 k) := keyOf_int_mk Try.underlying3 (WalkArith.wf_i64 (by omega))
  obtain ⟨c, hrun, hat, _⟩ := World.ownsMap.lookup_int h kinds_law Try.underlying112 Try.underlying3 (kinds_zero _) hkey
  have hc : c = (Va.own k : Int) := by
    rcases hk with rfl | rfl | rfl | rfl | rfl | rfl <;> (injection hat with hat; injection hat with _ hat; exact hat.symm)
  rw [hrun, hc]

set_option maxRecDepth 100000 in
theorem kinds_any (w : World) :
    Calls Try.prog 61 #[] w fun e w' => ∃ q, e = .returned (.map (some q)) ∧ Kinds w' q ∧ Grew w w' none := by
  have hmm := @run_makeMap Try.prog
  have o0 := World.ownsMap_made (H := Unit) w Try.prog 3 (plainElem Try.prog 3)
  obtain ⟨w1, r1, o1, g1⟩ := o0.update kinds_law Try.underlying112 (by unfold maxLen; omega) (key := .int .i64 0) (val := .int .i64 0) (keyOf_int_mk Try.underlying3 (WalkArith.wf_i64 (by omega))) (plainElem_int Try.underlying3 (WalkArith.wf_i64 (by omega)))
  obtain ⟨w2, r2, o2, g2⟩ := o1.update kinds_law Try.underlying112 (by unfold maxLen; omega) (key := .int .i64 1) (val := .int .i64 1) (keyOf_int_mk Try.underlying3 (WalkArith.wf_i64 (by omega))) (plainElem_int Try.underlying3 (WalkArith.wf_i64 (by omega)))
  obtain ⟨w3, r3, o3, g3⟩ := o2.update kinds_law Try.underlying112 (by unfold maxLen; omega) (key := .int .i64 2) (val := .int .i64 2) (keyOf_int_mk Try.underlying3 (WalkArith.wf_i64 (by omega))) (plainElem_int Try.underlying3 (WalkArith.wf_i64 (by omega)))
  obtain ⟨w4, r4, o4, g4⟩ := o3.update kinds_law Try.underlying112 (by unfold maxLen; omega) (key := .int .i64 3) (val := .int .i64 2) (keyOf_int_mk Try.underlying3 (WalkArith.wf_i64 (by omega))) (plainElem_int Try.underlying3 (WalkArith.wf_i64 (by omega)))
  obtain ⟨w5, r5, o5, g5⟩ := o4.update kinds_law Try.underlying112 (by unfold maxLen; omega) (key := .int .i64 4) (val := .int .i64 1) (keyOf_int_mk Try.underlying3 (WalkArith.wf_i64 (by omega))) (plainElem_int Try.underlying3 (WalkArith.wf_i64 (by omega)))
  obtain ⟨w6, r6, o6, g6⟩ := o5.update kinds_law Try.underlying112 (by unfold maxLen; omega) (key := .int .i64 5) (val := .int .i64 1) (keyOf_int_mk Try.underlying3 (WalkArith.wf_i64 (by omega))) (plainElem_int Try.underlying3 (WalkArith.wf_i64 (by omega)))
  have HK := Lib.hid (show Kinds w6 w.heap.size from o6)
  have HG := Lib.hid (show Grew w w6 none from grew_own (grew_own (grew_own (grew_own (grew_own (grew_own (grew_alloc (grew_refl w none) _) g1 (Nat.le_refl _)) g2 (Nat.le_refl _)) g3 (Nat.le_refl _)) g4 (Nat.le_refl _)) g5 (Nat.le_refl _)) g6 (Nat.le_refl _))
  clear o0 o1 o2 o3 o4 o5 o6 g1 g2 g3 g4 g5 g6
  go_enter Try.func61, Try.ntmps61
  go_wp2_with fail
  go_ret
  exact ⟨_, rfl, HK.out, HG.out⟩
end Go.Proofs.Ytibbeodcheefaaa

