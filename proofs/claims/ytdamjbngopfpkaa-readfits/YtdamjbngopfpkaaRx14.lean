/- Reading: Read. -/
import Derived.Test.YtdamjbngopfpkaaRx13
namespace Go.Proofs.Ytdamjbngopfpkaa
open Go.RowKit Va

set_option maxRecDepth 100000 in
set_option maxHeartbeats 1000000 in
/-- Read: Counted of no tally. -/
theorem read_hi (w : World) (f : Fo) (hf : f.In w) (A : Option Addr) (cp : Nat) (xs : List UInt8) (hl : xs.length ≤ cp) (hcp : xs.length ≤ 140737488351232) (hb : Byt w w.heap.size A xs) (a : Int) (h0 : 0 ≤ a) (ha : a + xs.length ≤ 4611686018427387904) :
    Calls Try.prog 14 #[f.val, .slice A xs.length cp, .int .i64 a] w fun e w' => ∃ v : Va, e = .returned (.tuple #[v.val, .int .i64 (a + (rdAll f xs).n), .int .i64 (rdAll f xs).e]) ∧ v.In w' ∧ v.nf = (rdAll f xs).v ∧ Grew w w' none ∧ v.Hi w.heap.size := by
  obtain ⟨g1, k0, k1, ks⟩ := two_new w #[.int .i64 f.k, .int .i64 f.s, .int .i64 f.l, .int .i64 f.h, .int .i64 f.t, .slice f.A f.ps.length f.c] 24 #[.int .u64 0, .slice none 0 0, .slice none 0 0] 35
  have HC := Lib.hid (fun (W : World) (g : Grew w W none) => counted_any w W f hf g A cp xs hl hcp hb a h0 ha none 0 0 (fun q hq => by cases hq) (fun q hq => by cases hq) (fun h => absurd rfl h))
  have G1 := Lib.hid g1
  have K1 := Lib.hid k1
  have KS := Lib.hid ks
  clear hf hl hcp hb h0 ha g1 k0 k1 ks
  rw [val_eq]
  generalize hRA : rdAll f xs = R at *
  clear hRA
  go_enter Try.func14, Try.ntmps14
  go_wp2_with fail
  generalize (w.alloc (.cells #[.int .i64 f.k, .int .i64 f.s, .int .i64 f.l, .int .i64 f.h, .int .i64 f.t, .slice f.A f.ps.length f.c] 24)).alloc (.cells #[.int .u64 0, .slice none 0 0, .slice none 0 0] 35) = W at *
  refine (HC.out W G1.out).mono ?_
  rintro e X ⟨v, rfl, hv, hi, hnf, hT, hF⟩
  have g : Grew W X none := grew_fr (grew_refl _ _) hF (fun i h => by cases h)
  have k1 := K1.out.grew g (by simp)
  have K1' := Lib.hid k1
  obtain ⟨c0, c1, c2⟩ := k1.three
  have f1 := k1.frozen
  have GX := Lib.hid (grew_trans G1.out g)
  have HV := Lib.hid (show v.In X ∧ v.Hi W.heap.size ∧ v.nf = R.v from ⟨hv, hi, hnf⟩)
  clear hv hi hnf hT hF g k1 K1 G1 HC
  rw [vval_eq]
  go_wp2_with fail
  have r1 := K1'.out.put3 (.int .u64 v.n) (.slice v.B v.bs.length v.d) (.slice v.A v.ls.length v.c)
  refine bodyPost_ret (results_cell_tmps rfl _ _ _ _ _ _ _ rfl r1 Try.underlying35 rfl (by kernel_rfl)) rfl ?_
  obtain ⟨hv, hi, hnf⟩ := HV.out
  have hks := KS.out
  exact ⟨v, rfl, hv.fr (fr_put3 _ _ _ _ _) hi (fun i h => by omega), hnf, grew_put3 GX.out (by omega) _ _ _, hi.mono (by omega)⟩

theorem read_any (w : World) (f : Fo) (hf : f.In w) (A : Option Addr) (cp : Nat) (xs : List UInt8) (hl : xs.length ≤ cp) (hcp : xs.length ≤ 140737488351232) (hb : Byt w w.heap.size A xs) (a : Int) (h0 : 0 ≤ a) (ha : a + xs.length ≤ 4611686018427387904) :
    Calls Try.prog 14 #[f.val, .slice A xs.length cp, .int .i64 a] w fun e w' => ∃ v : Va, e = .returned (.tuple #[v.val, .int .i64 (a + (rdAll f xs).n), .int .i64 (rdAll f xs).e]) ∧ v.In w' ∧ v.nf = (rdAll f xs).v ∧ Grew w w' none :=
  (read_hi w f hf A cp xs hl hcp hb a h0 ha).mono (fun _ _ ⟨v, h1, h2, h3, h4, _⟩ => ⟨v, h1, h2, h3, h4⟩)

/-- Prefix, told as Read. -/
theorem prefix_hi (w : World) (f : Fo) (hf : f.In w) (A : Option Addr) (cp : Nat) (xs : List UInt8) (hl : xs.length ≤ cp) (hcp : xs.length ≤ 140737488351232) (hb : Byt w w.heap.size A xs) (a : Int) (h0 : 0 ≤ a) (ha : a + xs.length ≤ 4611686018427387904) :
    Calls Try.prog 19 #[f.val, .slice A xs.length cp, .int .i64 a] w fun e w' => ∃ v : Va, e = .returned (.tuple #[v.val, .int .i64 (a + (rdF f xs).n), .int .i64 (rdF f xs).e]) ∧ v.In w' ∧ v.nf = (rdF f xs).v ∧ Grew w w' none ∧ v.Hi w.heap.size :=
  (prefix_any w w f hf (grew_refl _ _) A cp xs hl hcp hb a h0 ha).mono (fun _ _ ⟨v, h1, h2, h4, h3, _, h5⟩ => ⟨v, h1, h2, h3, grew_fr (grew_refl _ _) h5 (fun i h => by cases h), h4⟩)
end Go.Proofs.Ytdamjbngopfpkaa

