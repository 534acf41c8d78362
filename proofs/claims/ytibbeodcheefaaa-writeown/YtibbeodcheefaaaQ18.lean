/- Reading: a list. -/
import Derived.Test.YtibbeodcheefaaaQ11
import Derived.Test.YtibbeodcheefaaaQ15
import Derived.RegionTactic
import Derived.BigRegion
namespace Go.Proofs.Ytibbeodcheefaaa
open Go.RowKit Va

set_option maxRecDepth 100000 in
theorem lst_c_le (g : List UInt8 → Rd) : ∀ (k : Nat) (acc : List Va) (o c : Nat) (ys : List UInt8), c ≤ (Rd.lst g k acc o c ys).c
  | 0, _, _, _, _ => Nat.le_refl _
  | k + 1, acc, o, c, ys => by
    rw [Rd.lst]
    split
    · exact Nat.le_refl _
    · split
      · exact Nat.le_trans (Nat.le_add_right _ _) (lst_c_le g k _ _ _ _)
      · exact Nat.le_add_right _ _
set_option maxRecDepth 100000 in
theorem lst_end {g : List UInt8 → Rd} {k : Nat} {acc : List Va} {o c : Nat} : Rd.lst g k acc o c [] = ⟨0, o, vL acc, c⟩ := by
  cases k with
  | zero => rfl
  | succ k => simp [Rd.lst]
set_option maxRecDepth 100000 in
theorem lst_step {g : List UInt8 → Rd} {k : Nat} {acc : List Va} {o c : Nat} {ys : List UInt8} (h0 : ys.length ≠ 0) (h : (g ys).e = 0) : Rd.lst g (k + 1) acc o c ys = Rd.lst g k (acc ++ [(g ys).v]) (o + (g ys).n) (c + (g ys).c) (ys.drop (g ys).n) := by rw [Rd.lst, if_neg h0, if_pos h]
set_option maxRecDepth 100000 in
theorem lst_stop {g : List UInt8 → Rd} {k : Nat} {acc : List Va} {o c : Nat} {ys : List UInt8} (h0 : ys.length ≠ 0) (h : (g ys).e ≠ 0) : Rd.lst g (k + 1) acc o c ys = ⟨(g ys).e, o + (g ys).n, v0, c + (g ys).c⟩ := by rw [Rd.lst, if_neg h0, if_neg h]

namespace Va
/-- What is there of it lies in no block of F. -/
inductive Offn (F : Nat → Prop) : Va → Prop
  | mk {n : Int} {B : Option Addr} {d : Nat} {bs : List UInt8} {A : Option Addr} {c : Nat} {ls : List Va} (hB : 0 < bs.length → ∀ a, B = some a → ¬ F a.block) (hA : 0 < ls.length → ∀ a, A = some a → ¬ F a.block) (hp : ∀ p ∈ ls, Offn F p) : Offn F (.mk n B d bs A c ls)
set_option maxRecDepth 100000 in
theorem In.fr2 {w w' : World} {F : Nat → Prop} {v : Va} (h : In w v) (g : Fr w w' F) (ho : Offn F v) : In w' v := by
  induction h with
  | mk hn hb hd hc hz ha _ ih =>
    cases ho with
    | mk h1 h2 h3 =>
      refine .mk hn (fun h0 => ?_) hd hc hz (fun h0 => ?_) (fun p hp => ih p hp (h3 p hp))
      · obtain ⟨b, o, e, hlt, hcell⟩ := hb h0
        exact ⟨b, o, e, Nat.lt_of_lt_of_le hlt g.size, fun i hi => g.cell (hcell i hi) (show ¬ F b from h1 h0 ⟨b, o, none⟩ e)⟩
      · obtain ⟨b, o, e, hcell⟩ := ha h0
        exact ⟨b, o, e, fun i p hi j v hv => g.cell (hcell i p hi j v hv) (show ¬ F b from h2 h0 ⟨b, o, none⟩ e)⟩
set_option maxRecDepth 100000 in
theorem Hi.offn {k : Nat} {v : Va} (h : Hi k v) {F : Nat → Prop} (hF : ∀ i, F i → i < k) : Offn F v := by
  induction h with
  | mk hB hA _ ih => exact .mk (fun _ a e f => by have := hB a e; have := hF _ f; omega) (fun _ a e f => by have := hA a e; have := hF _ f; omega) ih
set_option maxRecDepth 100000 in
theorem In.offn {w : World} {v : Va} (h : In w v) {F : Nat → Prop} (hF : ∀ i, F i → w.heap.size ≤ i) : Offn F v := by
  induction h with
  | mk hn hb hd hc hz ha _ ih =>
    refine .mk (fun h0 a e f => ?_) (fun h0 a e f => ?_) ih
    · obtain ⟨b, o, e', hlt, _⟩ := hb h0
      rw [e'] at e
      cases e
      have := hF _ f
      simp only at this
      omega
    · obtain ⟨b, o, e', hcell⟩ := ha h0
      rw [e'] at e
      cases e
      have h1 := hcell 0 _ (List.getElem?_eq_getElem h0) 0 _ rfl
      have h2 := World.block_lt_of_cell? _ _ h1
      have := hF _ f
      simp only at this h2
      omega
set_option maxRecDepth 100000 in
theorem Offn.mono {F G : Nat → Prop} {v : Va} (h : Offn F v) (hs : ∀ i, G i → F i) : Offn G v := by
  induction h with
  | mk hB hA _ ih => exact .mk (fun h0 a e f => hB h0 a e (hs _ f)) (fun h0 a e f => hA h0 a e (hs _ f)) ih
end Va

/-- How many bytes are ahead of a cursor. -/
def leftOf (w : World) (p : Nat) : Nat := match w.cell? ⟨p, 0, none⟩ with
  | some (.slice _ n _) => n
  | _ => 0
set_option maxRecDepth 100000 in
theorem Cr.left {w : World} {p B : Nat} {ys : List UInt8} {a : Int} (h : Cr w p B ys a) : leftOf w p = ys.length := by
  obtain ⟨_, _, _, A, c, hc, _⟩ := h
  unfold leftOf
  rw [hc.cell 0]
  rfl

/-- What holds ahead of each round. -/
structure LstI (w0 w wr : World) (r p p2 : Nat) (t : Option Nat) (m c0 : Int) (a : Int) (fcs : Array Value) (f : Fo) (q N : Nat) (RR : Rd) (zs : List UInt8) (za : Int) (V : Value) (k : Nat) (vs : List Va) (o cc : Nat) (ys : List UInt8) : Prop where
  pre : Pre w0 wr r p2 t m (c0 + cc) ys (a + o)
  crp : Cr wr p w0.heap.size zs za
  fr : Fr w wr (Ft p t)
  b0 : Whole wr q fcs 24
  b1 : Whole wr (q + 1) #[.int .u64 0, .slice none 0 0, .slice none 0 0] 29
  b2 : Whole wr (q + 2) #[.int .i64 0, .int .i64 0] 78
  pq : q + 3 ≤ p2
  own : wr.ownsRow 0 29 3 V vs.length (Va.flat vs)
  hi : ∀ b, V.ownBlock = some b → p2 < b
  ins : ∀ v ∈ vs, v.In wr ∧ v.Hi (p2 + 1) ∧ v.Offn (fun i => V.ownBlock = some i)
  rr : Rd.lst (Rd.rd f) k (nfs vs) o cc ys = RR
  fuel : ys.length ≤ k
  ol : o + ys.length = N
  vl : vs.length ≤ o

set_option maxRecDepth 100000 in
set_option maxHeartbeats 1000000 in
theorem rlist_bad (w : World) (rv : Value) (p B : Nat) (xs : List UInt8) (a : Int) (hc : Cr w p B xs a) (k s l h t : Int) (A : Option Addr) (n c : Nat) (s1 : 1 ≤ s) (s3 : s ≤ 3) (t1 : 1 ≤ t) (hE : ¬ Rd.lnE s l h t xs = 0) :
    Calls Try.prog 73 #[rv, .pointer (some ⟨p, 0, none⟩), .agg #[.int .i64 k, .int .i64 s, .int .i64 l, .int .i64 h, .int .i64 t, .slice A n c]] w (GotP B w p xs a ⟨Rd.lnE s l h t xs, Rd.lnA s xs, v0, 0⟩) := by
  obtain ⟨g0, k0, k1, k2, ks⟩ := three_new w #[.int .i64 k, .int .i64 s, .int .i64 l, .int .i64 h, .int .i64 t, .slice A n c] 24 #[.int .u64 0, .slice none 0 0, .slice none 0 0] 29 #[.int .i64 0, .int .i64 0] 78
  have HP := Lib.hid hc.lt
  have HC := Lib.hid (hc.grew g0 (by simp) (fun _ h => by cases h))
  have G0 := Lib.hid g0
  have K1 := Lib.hid k1
  have K2 := Lib.hid k2
  have KS := Lib.hid ks
  have HL := Lib.hid (fun (W : World) (h0 : Cr W p B xs a) => rlength_any W p B xs a h0 k s l h t A n c s1 s3 t1)
  clear hc g0 k0 k1 k2 ks s1 s3 t1
  have HN := Lib.hid hE
  go_enter Try.func73, Try.ntmps73
  go_wp2_with fail
  generalize ((w.alloc (.cells #[.int .i64 k, .int .i64 s, .int .i64 l, .int .i64 h, .int .i64 t, .slice A n c] 24)).alloc (.cells #[.int .u64 0, .slice none 0 0, .slice none 0 0] 29)).alloc (.cells #[.int .i64 0, .int .i64 0] 78) = W at *
  refine (HL.out W HC.out).mono ?_
  rintro e X ⟨x, y, ys, a', rfl, hC, -, hy, g⟩
  have hy' := hy hE
  have HY := Lib.hid hy'
  have HX := Lib.hid (show w.heap.size + 3 ≤ X.heap.size by rw [← KS.out]; exact g.size)
  have k1 := (K1.out.grew g (by have := HP.out; simp; omega)).grew (grew_alloc (grew_refl X none) (.cells #[.int .i64 y, .int .i64 (Rd.lnE s l h t xs)] 78)) (by simp)
  have k2 := (K2.out.grew g (by have := HP.out; simp; omega)).grew (grew_alloc (grew_refl X none) (.cells #[.int .i64 y, .int .i64 (Rd.lnE s l h t xs)] 78)) (by simp)
  have k3 := Whole.new X #[.int .i64 y, .int .i64 (Rd.lnE s l h t xs)] 78
  have C2 := Lib.hid (hC.grew (grew_alloc (grew_refl X none) (.cells #[.int .i64 y, .int .i64 (Rd.lnE s l h t xs)] 78)) (by simp) (fun _ h => by cases h))
  have G2 := Lib.hid (grew_alloc (grew_trans (grew_weak G0.out) g) (.cells #[.int .i64 y, .int .i64 (Rd.lnE s l h t xs)] 78))
  clear hC hy hy' g HC G0 K1 K2 HL
  unfold fault
  have K1' := Lib.hid k1
  have K2' := Lib.hid k2
  have K3' := Lib.hid k3
  clear k1 k2 k3
  go_upto_region 3 with (fail)
  generalize X.alloc (.cells #[.int .i64 y, .int .i64 (Rd.lnE s l h t xs)] 78) = Z at *
  generalize X.heap.size = z3 at *
  obtain ⟨c0, c1, c2⟩ := K1'.out.three
  obtain ⟨d0, d1⟩ := K2'.out.two
  obtain ⟨e0, e1⟩ := K3'.out.two
  have f0 := K1'.out.frozen
  have f1 := K2'.out.frozen
  have n1 : ¬ z3 = w.heap.size + 1 := by have := HX.out; omega
  have n2 : ¬ w.heap.size + 1 = z3 := by have := HX.out; omega
  go_region
  go_wp2_with fail
  obtain ⟨r1, r2, r3⟩ := put32 K1'.out K2'.out (by omega) (.int .u64 0) (.slice none 0 0) (.slice none 0 0) (.int .i64 y) (.int .i64 (Rd.lnE s l h t xs))
  refine bodyPost_ret (results_cells rfl _ _ _ _ _ _ _ _ _ _ _ _ rfl r1 Try.underlying29 rfl (by kernel_rfl) rfl r2 Try.underlying78 rfl (by kernel_rfl)) rfl ?_
  exact gotP_close (v := v0) (k := w.heap.size + 3) G2.out C2.out r3.drew (by omega) (by omega) HP.out (v0_in _) (v0_hi _) (by omega) (by omega) rfl (fun h => absurd h HN.out) (by rw [HY.out]; unfold faI; rw [if_neg HN.out]; rfl)
end Go.Proofs.Ytibbeodcheefaaa

