/- Reading: what its calls leave behind; take, length. -/
import Derived.Test.YtdamjbngopfpkaaRd
import Derived.Test.YtdamjbngopfpkaaVm
import Derived.Test.YtdamjbngopfpkaaAll
import Derived.Test.YtdamjbngopfpkaaTal
import Derived.Test.YtdamjbngopfpkaaPad
import Derived.Deep.Cut
namespace Go.Proofs.Ytdamjbngopfpkaa
open Go.RowKit Va

/-- Results out of two cells; out of a slot and a cell; out of a cell and two slots. -/
theorem results_cells {P : Program} {fn : Func} {p r : Tmp} {ty tz : TypeId} (h : fn.results = #[.cell p ty, .cell r tz]) (tmps : Array Value) (w : World) (g : Nat) (t : TypeId) (cs : Array Value) (fr : Nat × Nat) (d : TypeDesc)
    (g' : Nat) (t' : TypeId) (cs' : Array Value) (fr' : Nat × Nat) (d' : TypeDesc)
    (hp : tmps.getD p undef = .pointer (some ⟨g, 0, none⟩)) (hg : w.heap[g]? = some (.cells cs t fr))
    (hu : P.underlying ty = some d) (hd : (match d with | .struct _ | .array _ _ => true | _ => false) = true) (hi : (P.info? ty).map (·.size) = some cs.size)
    (hp2 : tmps.getD r undef = .pointer (some ⟨g', 0, none⟩)) (hg2 : w.heap[g']? = some (.cells cs' t' fr'))
    (hu2 : P.underlying tz = some d') (hd2 : (match d' with | .struct _ | .array _ _ => true | _ => false) = true) (hi2 : (P.info? tz).map (·.size) = some cs'.size) :
    (results fn tmps).run P w = .ok (.tuple #[.agg cs, .agg cs']) w := by
  have hp' : tmps[p]?.getD undef = .pointer (some ⟨g, 0, none⟩) := by simpa using hp
  have hp2' : tmps[r]?.getD undef = .pointer (some ⟨g', 0, none⟩) := by simpa using hp2
  simp [results, h, hp', hp2', asAddr, run_loadVar_row w g t ty cs fr d hg hu hd hi, run_loadVar_row w g' t' tz cs' fr' d' hg2 hu2 hd2 hi2]
theorem results_tmp_cell {P : Program} {fn : Func} {p r : Tmp} {tz : TypeId} (h : fn.results = #[.tmp p, .cell r tz]) (tmps : Array Value) (w : World)
    (g' : Nat) (t' : TypeId) (cs' : Array Value) (fr' : Nat × Nat) (d' : TypeDesc)
    (hp2 : tmps.getD r undef = .pointer (some ⟨g', 0, none⟩)) (hg2 : w.heap[g']? = some (.cells cs' t' fr'))
    (hu2 : P.underlying tz = some d') (hd2 : (match d' with | .struct _ | .array _ _ => true | _ => false) = true) (hi2 : (P.info? tz).map (·.size) = some cs'.size) :
    (results fn tmps).run P w = .ok (.tuple #[tmps.getD p undef, .agg cs']) w := by
  have hp2' : tmps[r]?.getD undef = .pointer (some ⟨g', 0, none⟩) := by simpa using hp2
  simp [results, h, hp2', asAddr, run_loadVar_row w g' t' tz cs' fr' d' hg2 hu2 hd2 hi2]
theorem results_cell_tmps {P : Program} {fn : Func} {p r s : Tmp} {ty : TypeId} (h : fn.results = #[.cell p ty, .tmp r, .tmp s]) (tmps : Array Value) (w : World) (g : Nat) (t : TypeId) (cs : Array Value) (fr : Nat × Nat) (d : TypeDesc)
    (hp : tmps.getD p undef = .pointer (some ⟨g, 0, none⟩)) (hg : w.heap[g]? = some (.cells cs t fr))
    (hu : P.underlying ty = some d) (hd : (match d with | .struct _ | .array _ _ => true | _ => false) = true) (hi : (P.info? ty).map (·.size) = some cs.size) :
    (results fn tmps).run P w = .ok (.tuple #[.agg cs, tmps.getD r undef, tmps.getD s undef]) w := by
  have hp' : tmps[p]?.getD undef = .pointer (some ⟨g, 0, none⟩) := by simpa using hp
  simp [results, h, hp', asAddr, run_loadVar_row w g t ty cs fr d hg hu hd hi]

/-- Two cells of a block turned. -/
def put2 (w : World) (q : Nat) (v0 v1 : Value) : World := (w.setCell ⟨q, 0, none⟩ v0).setCell ⟨q, 1, none⟩ v1
theorem Whole.put2 {w : World} {q : Nat} {a0 a1 : Value} {t : TypeId} (h : Whole w q #[a0, a1] t) (v0 v1 : Value) : Whole (put2 w q v0 v1) q #[v0, v1] t := (h.set 0 v0).set 1 v1
theorem fr_put2 (w : World) (q : Nat) (v0 v1 : Value) : Fr w (put2 w q v0 v1) (fun i => i = q) := by
  have hp : ∀ {w' : World} (i : Nat) (u : Value), Fr w w' (fun i => i = q) → Fr w (w'.setCell ⟨q, i, none⟩ u) (fun i => i = q) := fun i u h => h.set (.inl rfl) _ _ _
  exact hp _ _ (hp _ _ (Fr.refl _ _))
theorem Whole.two {w : World} {q : Nat} {a0 a1 : Value} {t : TypeId} (h : Whole w q #[a0, a1] t) : w.cell? ⟨q, 0, none⟩ = some a0 ∧ w.cell? ⟨q, 1, none⟩ = some a1 := ⟨h.cell 0, h.cell 1⟩

/-- A value and a fault stored, in either order. -/
theorem put32 {w : World} {q r : Nat} {a0 a1 a2 b0 b1 : Value} {t u : TypeId} (h : Whole w q #[a0, a1, a2] t) (k : Whole w r #[b0, b1] u) (hne : q ≠ r) (v0 v1 v2 u0 u1 : Value) :
    Whole (put2 (put3 w q v0 v1 v2) r u0 u1) q #[v0, v1, v2] t ∧ Whole (put2 (put3 w q v0 v1 v2) r u0 u1) r #[u0, u1] u ∧ Fr w (put2 (put3 w q v0 v1 v2) r u0 u1) (fun i => i = q ∨ i = r) :=
  ⟨(h.put3 v0 v1 v2).fr (fr_put2 _ _ _ _) hne, (k.fr (fr_put3 _ _ _ _ _) (fun e => hne e.symm)).put2 u0 u1, (fr_put3 _ _ _ _ _).mono (fun _ _ e => .inl e) |>.trans ((fr_put2 _ _ _ _).mono (fun _ _ e => .inr e)) (fun _ _ e => e)⟩
theorem put23 {w : World} {q r : Nat} {a0 a1 a2 b0 b1 : Value} {t u : TypeId} (h : Whole w q #[a0, a1, a2] t) (k : Whole w r #[b0, b1] u) (hne : q ≠ r) (v0 v1 v2 u0 u1 : Value) :
    Whole (put3 (put2 w r u0 u1) q v0 v1 v2) q #[v0, v1, v2] t ∧ Whole (put3 (put2 w r u0 u1) q v0 v1 v2) r #[u0, u1] u ∧ Fr w (put3 (put2 w r u0 u1) q v0 v1 v2) (fun i => i = q ∨ i = r) :=
  ⟨(h.fr (fr_put2 _ _ _ _) hne).put3 v0 v1 v2, (k.put2 u0 u1).fr (fr_put3 _ _ _ _ _) (fun e => hne e.symm), (fr_put2 _ _ _ _).mono (fun _ _ e => .inr e) |>.trans ((fr_put3 _ _ _ _ _).mono (fun _ _ e => .inl e)) (fun _ _ e => e)⟩

theorem two_new (w : World) (c1 : Array Value) (t1 : TypeId) (c2 : Array Value) (t2 : TypeId) :
    Grew w ((w.alloc (.cells c1 t1)).alloc (.cells c2 t2)) none ∧ Whole ((w.alloc (.cells c1 t1)).alloc (.cells c2 t2)) w.heap.size c1 t1 ∧ Whole ((w.alloc (.cells c1 t1)).alloc (.cells c2 t2)) (w.heap.size + 1) c2 t2 ∧ ((w.alloc (.cells c1 t1)).alloc (.cells c2 t2)).heap.size = w.heap.size + 2 :=
  ⟨grew_alloc (grew_alloc (grew_refl _ _) _) _, (Whole.new w c1 t1).grew (grew_alloc (grew_refl _ none) _) (by simp), Whole.new_at _ _ _ (by simp), by simp⟩
theorem three_new (w : World) (c1 : Array Value) (t1 : TypeId) (c2 : Array Value) (t2 : TypeId) (c3 : Array Value) (t3 : TypeId) :
    Grew w (((w.alloc (.cells c1 t1)).alloc (.cells c2 t2)).alloc (.cells c3 t3)) none ∧ Whole (((w.alloc (.cells c1 t1)).alloc (.cells c2 t2)).alloc (.cells c3 t3)) w.heap.size c1 t1 ∧ Whole (((w.alloc (.cells c1 t1)).alloc (.cells c2 t2)).alloc (.cells c3 t3)) (w.heap.size + 1) c2 t2 ∧ Whole (((w.alloc (.cells c1 t1)).alloc (.cells c2 t2)).alloc (.cells c3 t3)) (w.heap.size + 2) c3 t3 ∧
      (((w.alloc (.cells c1 t1)).alloc (.cells c2 t2)).alloc (.cells c3 t3)).heap.size = w.heap.size + 3 := by
  obtain ⟨g, k1, k2, _⟩ := two_new w c1 t1 c2 t2
  exact ⟨grew_alloc g _, k1.grew (grew_alloc (grew_refl _ none) _) (by simp), k2.grew (grew_alloc (grew_refl _ none) _) (by simp), Whole.new_at _ _ _ (by simp), by simp⟩

namespace Va
/-- None of it lies in a block below k. -/
inductive Hi (k : Nat) : Va → Prop
  | mk {n : Int} {B : Option Addr} {d : Nat} {bs : List UInt8} {A : Option Addr} {c : Nat} {ls : List Va} (hB : ∀ a, B = some a → k ≤ a.block) (hA : ∀ a, A = some a → k ≤ a.block) (hp : ∀ p ∈ ls, Hi k p) : Hi k (.mk n B d bs A c ls)
theorem Hi.mono {k k' : Nat} {v : Va} (h : Hi k v) (hk : k' ≤ k) : Hi k' v := by
  induction h with
  | mk hB hA _ ih => exact .mk (fun a e => Nat.le_trans hk (hB a e)) (fun a e => Nat.le_trans hk (hA a e)) ih
theorem In.fr {w w' : World} {F : Nat → Prop} {k : Nat} {v : Va} (h : In w v) (g : Fr w w' F) (hi : Hi k v) (hF : ∀ i, F i → i < k) : In w' v := by
  induction h with
  | mk hn hb hd hc hz ha _ ih =>
    cases hi with
    | mk h1 h2 h3 =>
      refine .mk hn (fun h0 => ?_) hd hc hz (ha.fr g (fun a e hf => by have := h2 a e; have := hF _ hf; omega)) (fun p hp => ih p hp (h3 p hp))
      obtain ⟨b, o, e, hlt, hcell⟩ := hb h0
      exact ⟨b, o, e, Nat.lt_of_lt_of_le hlt g.size, fun i hi => g.cell (hcell i hi) (fun hf => by have := h1 _ e; have := hF _ hf; simp only at *; omega)⟩
theorem v0_in (w : World) : In w v0 := plainN_in w (by omega)
theorem v0_hi (k : Nat) : Hi k v0 := .mk (fun _ h => by cases h) (fun _ h => by cases h) (fun _ h => by simp at h)
theorem vN_hi (k : Nat) (x : Int) : Hi k (vN x) := .mk (fun _ h => by cases h) (fun _ h => by cases h) (fun _ h => by simp at h)
end Va

/-- Where a fault is told. -/
def faI (a : Int) (R : Rd) : Int := if R.e = 0 then 0 else a + R.n
def fault (x e : Int) : Value := .agg #[.int .i64 x, .int .i64 e]

/-- What a call that reads by a cursor leaves behind. -/
def GotP (B : Nat) (w : World) (p : Nat) (xs : List UInt8) (a : Int) (R : Rd) (e : Ending) (w' : World) : Prop :=
  ∃ (v : Va) (ys : List UInt8) (a' : Int), e = .returned (.tuple #[v.val, fault (faI a R) R.e]) ∧ v.In w' ∧ v.Hi w.heap.size ∧ v.nf = R.v ∧ Cr w' p B ys a' ∧ (R.e = 0 → ys = xs.drop R.n ∧ a' = a + R.n) ∧ Grew w w' (some p)

theorem Cr.fr {w w' : World} {F : Nat → Prop} {p B : Nat} {ys : List UInt8} {a : Int} (h : Cr w p B ys a) (g : Fr w w' F) (hp : ¬ F p) (hB : ∀ i, F i → B ≤ i) : Cr w' p B ys a := by
  obtain ⟨hBp, h0, hm, A, c, h, hl, hc, hb⟩ := h
  refine ⟨hBp, h0, hm, A, c, Whole.fr h g hp, hl, hc, fun h1 => ?_⟩
  obtain ⟨b, o, e, hlt, hcell⟩ := hb h1
  exact ⟨b, o, e, hlt, fun i hi => g.cell (hcell i hi) (fun hf => by have := hB _ hf; simp only at *; omega)⟩

theorem Cr.max {w : World} {p B : Nat} {ys : List UInt8} {a : Int} (h : Cr w p B ys a) : ys.length ≤ 140737488351232 := by
  obtain ⟨_, _, _, A, c, _, hl, hc, _⟩ := h
  omega

/-- The results are stored: what is left behind. -/
theorem gotP_close {B : Nat} {w X Y : World} {p q r k : Nat} {xs ys : List UInt8} {a a' : Int} {R : Rd} {v : Va} (hG : Grew w X (some p)) (hC : Cr X p B ys a') (hY : Fr X Y (fun i => i = q ∨ i = r)) (hq : w.heap.size ≤ q) (hr : w.heap.size ≤ r) (hp : p < w.heap.size)
    (hv : v.In X) (hi : v.Hi k) (hqk : q < k) (hrk : r < k) (hn : v.nf = R.v) (hx : R.e = 0 → ys = xs.drop R.n ∧ a' = a + R.n) {V : Value} (hV : V = .tuple #[v.val, fault (faI a R) R.e]) : GotP B w p xs a R (.returned V) Y := by
  have hB := hC.1
  refine ⟨v, ys, a', by rw [hV], hv.fr hY hi (fun i hi => by rcases hi with rfl | rfl <;> assumption), hi.mono (by omega), hn, hC.fr hY (by omega) (fun i hi => by rcases hi with rfl | rfl <;> omega), hx, grew_fr hG hY (fun i hi => by rcases hi with rfl | rfl <;> omega)⟩

set_option maxHeartbeats 1000000 in
theorem rtake_any (w : World) (p B : Nat) (xs : List UInt8) (a : Int) (h : Cr w p B xs a) (n : Nat) :
    Calls Try.prog 58 #[.pointer (some ⟨p, 0, none⟩), .int .i64 n] w (GotP B w p xs a (Rd.rdT n xs)) := by
  obtain ⟨g0, k0, k1, ks⟩ := two_new w #[.int .u64 0, .slice none 0 0, .slice none 0 0] 35 #[.int .i64 0, .int .i64 0] 62
  have HP := Lib.hid h.lt
  have HM := Lib.hid h.max
  have HC := Lib.hid (h.grew g0 (by simp) (fun _ h => by cases h))
  have G0 := Lib.hid g0
  have K0 := Lib.hid k0
  have K1 := Lib.hid k1
  have KS := Lib.hid ks
  clear h g0 k0 k1 ks
  by_cases hs : xs.length < n
  · have e : Rd.rdT n xs = ⟨4, xs.length, v0, 0⟩ := by unfold Rd.rdT; rw [if_pos hs]
    rw [e]
    clear e
    have HS := Lib.hid hs
    clear hs
    go_enter Try.func58, Try.ntmps58
    go_wp2_with fail
    generalize (w.alloc (.cells #[.int .u64 0, .slice none 0 0, .slice none 0 0] 35)).alloc (.cells #[.int .i64 0, .int .i64 0] 62) = W at *
    refine (cr_take_short W p B xs a HC.out n (by have := HS.out; omega)).mono ?_
    rintro e w1 ⟨rfl, rfl⟩
    go_wp2_with fail
    refine (cr_end W p B xs a HC.out).mono ?_
    rintro e w1 ⟨rfl, m, rfl⟩
    have k0 := K0.out.grew (grew_drewN (grew_refl _ none) m) (by simp)
    have k1 := K1.out.grew (grew_drewN (grew_refl _ none) m) (by simp)
    obtain ⟨c0, c1, c2⟩ := k0.three
    obtain ⟨d0, d1⟩ := k1.two
    have f0 := k0.frozen
    have f1 := k1.frozen
    have C2 := Lib.hid (HC.out.drewN m)
    have K0' := Lib.hid k0
    have K1' := Lib.hid k1
    have G2 := Lib.hid (grew_drewN G0.out m)
    clear k0 k1 HC G0 K0 K1 KS
    generalize W.drewN m = X at *
    go_wp2_with fail
    obtain ⟨r1, r2, r3⟩ := put32 K0'.out K1'.out (by omega) (.int .u64 0) (.slice none 0 0) (.slice none 0 0) (.int .i64 (a + xs.length)) (.int .i64 4)
    refine bodyPost_ret (results_cells rfl _ _ _ _ _ _ _ _ _ _ _ _ rfl r1 Try.underlying35 rfl (by kernel_rfl) rfl r2 Try.underlying62 rfl (by kernel_rfl)) rfl ?_
    exact gotP_close (v := v0) (k := w.heap.size + 2) (grew_weak G2.out) C2.out r3 (Nat.le_refl _) (by omega) HP.out (v0_in _) (v0_hi _) (by omega) (by omega) rfl (fun h => by cases h) rfl
  · have e : Rd.rdT n xs = ⟨0, n, vB (xs.take n), 0⟩ := by unfold Rd.rdT; rw [if_neg hs]
    rw [e]
    clear e
    have HS := Lib.hid (show n ≤ xs.length by omega)
    clear hs
    go_enter Try.func58, Try.ntmps58
    go_wp2_with fail
    generalize (w.alloc (.cells #[.int .u64 0, .slice none 0 0, .slice none 0 0] 35)).alloc (.cells #[.int .i64 0, .int .i64 0] 62) = W at *
    refine (cr_take W p B xs a HC.out n HS.out).mono ?_
    rintro e X ⟨rfl, hC, hb, g, hsz⟩
    have k0 := K0.out.grew g (by have := HP.out; simp; omega)
    have k1 := K1.out.grew g (by have := HP.out; simp; omega)
    obtain ⟨c0, c1, c2⟩ := k0.three
    obtain ⟨d0, d1⟩ := k1.two
    have f0 := k0.frozen
    have f1 := k1.frozen
    have C2 := Lib.hid hC
    have K0' := Lib.hid k0
    have K1' := Lib.hid k1
    have G2 := Lib.hid (grew_trans (grew_weak G0.out) g)
    have HB := Lib.hid hb
    have HZ := Lib.hid hsz
    rw [KS.out] at HB HZ ⊢
    clear k0 k1 HC G0 K0 K1 KS hC hb g hsz
    go_wp2_with fail
    obtain ⟨r1, r2, r3⟩ := put32 K0'.out K1'.out (by omega) (.int .u64 0) (.slice (some ⟨w.heap.size + 2, 0, none⟩) n n) (.slice none 0 0) (.int .i64 0) (.int .i64 0)
    refine bodyPost_ret (results_cells rfl _ _ _ _ _ _ _ _ _ _ _ _ rfl r1 Try.underlying35 rfl (by kernel_rfl) rfl r2 Try.underlying62 rfl (by kernel_rfl)) rfl ?_
    have hlen : (xs.take n).length = n := by have := HS.out; rw [List.length_take]; omega
    have hmax := HM.out
    have hns := HS.out
    refine gotP_close (v := .mk 0 (some ⟨w.heap.size + 2, 0, none⟩) n (xs.take n) none 0 []) (k := w.heap.size + 2) G2.out C2.out r3 (Nat.le_refl _) (by omega) HP.out ?_ ?_ (by omega) (by omega) rfl (fun _ => ⟨rfl, rfl⟩) ?_
    · exact .mk (by omega) (HB.out.more (by have := HZ.out; omega)) (by omega) (by simp) (by simp) (Va.Lie.nil _ _) (fun p hp => by simp at hp)
    · exact .mk (fun a h => by cases h; exact Nat.le_refl _) (fun _ h => by cases h) (fun p hp => by simp at hp)
    · rw [vval_eq]
      simp only [Va.n, Va.B, Va.bs, Va.d, Va.A, Va.ls, Va.c, hlen]
      rfl
end Go.Proofs.Ytdamjbngopfpkaa

