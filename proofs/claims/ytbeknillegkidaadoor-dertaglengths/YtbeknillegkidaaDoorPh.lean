/- The program's own answers of layer 9: Read. -/
import Derived.Test.YtbeknillegkidaaDoorPe
import Derived.Test.YtbeknillegkidaaDoorPg
import Derived.Test.YtbeknillegkidaaDoorRg
import Derived.Deep.Cut
namespace Go.Proofs.YtbeknillegkidaaDoor
open Go.RowKit

set_option maxRecDepth 100000 in
set_option maxHeartbeats 4000000 in
theorem read_big (w : World) (hT : Tb w) (A : Option Addr) (c : Nat) (xs : List UInt8) (hb : Byt w w.heap.size A xs) (hlc : xs.length ≤ c) :
    Calls Tryd.prog 9 #[.slice A xs.length c] w fun e w' => e = .returned (.tuple #[(rdH xs).1.agg, .int .i64 ((rdH xs).2.1 : Nat), .int .i64 (rdH xs).2.2]) ∧ Below w.heap.size w w' := by
  cases xs with
  | nil =>
    clear hT
    go_enter Tryd.func9, Tryd.ntmps9
    go_wp2_with fail
    refine bodyPost_ret (results_cell_tmps rfl _ _ w.heap.size _ _ _ _ rfl (Whole.new w _ _) Tryd.underlying24 rfl (by kernel_rfl)) rfl ?_
    exact ⟨rfl, (Below.refl _ w).alloc (Nat.le_refl _) _⟩
  | cons a r =>
    obtain ⟨B, o, rfl, hB, hc⟩ := hb (by simp)
    obtain ⟨q, hq⟩ : ∃ q, w.heap.size = q := ⟨_, rfl⟩
    obtain ⟨L, hL⟩ : ∃ L, r.length = L := ⟨_, rfl⟩
    have hlen : (a :: r).length = L + 1 := by simp [hL]
    obtain ⟨n, hn⟩ : ∃ n, a.toNat = n := ⟨_, rfl⟩
    have hn256 : n < 256 := by rw [← hn]; exact a.toNat_lt
    obtain ⟨w1, hw1⟩ : ∃ w1, w.alloc (.cells #[.int .i64 0, .int .i64 0, .bool false, .int .i64 0] 24) = w1 := ⟨_, rfl⟩
    have hs1 : w1.heap.size = q + 1 := by rw [← hw1, World.size_alloc, hq]
    have b1 : Below q w w1 := by rw [← hw1, ← hq]; exact (Below.refl _ w).alloc (Nat.le_refl _) _
    have T1 : Tb w1 := by rw [← hw1]; exact hT.alloc _
    have r1 : Whole w1 q #[.int .i64 0, .int .i64 0, .bool false, .int .i64 0] 24 := by rw [← hw1, ← hq]; exact Whole.new w _ _
    have k1 : w1.cell? ⟨B, o, none⟩ = some (.int .u8 (n : Int)) := by rw [b1.cell (p := ⟨B, o, none⟩) (by show B < q; omega), ← hn]; simpa using hc 0 (by simp)
    have hho := headof_any w1 n hn256
    rw [hlen] at hlc ⊢
    rw [hq] at hB ⊢
    have HC := Lib.hid hc
    have T1' := Lib.hid T1
    have B1 := Lib.hid b1
    have R1 := Lib.hid r1
    have S1 := Lib.hid hs1
    have HLC := Lib.hid hlc
    have HB' := Lib.hid hB
    clear hb hc b1 r1 hT T1 hs1
    go_enter Tryd.func9, Tryd.ntmps9
    go_wp2_with fail
    refine hho.mono ?_
    rintro e w2 ⟨rfl, hB2⟩
    clear hho k1 hw1
    obtain ⟨p, hp⟩ : ∃ p, w2.heap.size = p := ⟨_, rfl⟩
    have hqp : q < p := by have := hB2.size; rw [S1.out] at this; omega
    have hq1 : q < w1.heap.size := by rw [S1.out]; omega
    obtain ⟨hm, hhm⟩ : ∃ hm, (n / 32 % 2 == 1) = hm := ⟨_, rfl⟩
    have hal : Below p w2 (w2.alloc (.cells #[.int .i64 ((n : Int) / 64), .int .i64 ((n : Int) % 32), .bool hm, .int .i64 0] 24)) := by rw [← hp]; exact (Below.refl _ w2).alloc (Nat.le_refl _) _
    have hnew := Whole.new w2 #[.int .i64 ((n : Int) / 64), .int .i64 ((n : Int) % 32), .bool hm, .int .i64 0] 24
    rw [hp] at hnew
    have STAR := Lib.hid (show Rdg 24 w (w2.alloc (.cells #[.int .i64 ((n : Int) / 64), .int .i64 ((n : Int) % 32), .bool hm, .int .i64 0] 24)) q p B o (a :: r) ((n : Int) / 64) ((n : Int) % 32) hm 0 from by
      refine ⟨(hal.block q hqp).trans ((hB2.block q hq1).trans R1.out), hnew, fun i hi => ?_, (B1.out.trans (hB2.mono (Nat.le_of_lt hq1))).trans (hal.mono (Nat.le_of_lt hqp)), HB'.out, hqp⟩
      rw [hal.cell (p := ⟨B, o + i, none⟩) (by show B < p; have := HB'.out; omega), hB2.cell (p := ⟨B, o + i, none⟩) (by show B < w1.heap.size; have := HB'.out; omega), B1.out.cell (p := ⟨B, o + i, none⟩) HB'.out]
      exact HC.out i hi)
    have T2 := Lib.hid ((T1'.out.self hB2).alloc (.cells #[.int .i64 ((n : Int) / 64), .int .i64 ((n : Int) % 32), .bool hm, .int .i64 0] 24))
    unfold Hd.agg
    rw [hhm]
    have HHM := Lib.hid hhm
    have HN := Lib.hid hn
    have HL := Lib.hid hL
    have HP := Lib.hid (And.intro hqp hp)
    clear hB2 hal hnew hhm hn hL T1' B1 R1 S1 HC hq1
    go_wp2_with fail
    clear hp
    generalize w2.alloc (.cells #[.int .i64 ((n : Int) / 64), .int .i64 ((n : Int) % 32), .bool hm, .int .i64 0] 24) = w3 at *
    obtain ⟨K, hK⟩ : ∃ K, kd ((n : Int) / 64) ((n : Int) % 32) hm = K := ⟨_, rfl⟩
    have hkd := kind_any w3 T2.out ((n : Int) / 64) ((n : Int) % 32) hm
    rw [hK] at hkd
    have HK := Lib.hid hK
    clear hK
    refine hkd.mono ?_
    rintro e w4 ⟨rfl, hB4⟩
    have R4 := Lib.hid (STAR.out.below hB4 STAR.out.head.lt)
    clear hkd hB4 STAR T2
    have z := R4.out.res.frozen
    have zc := fun i => R4.out.res.cell i
    cases K with
    | false =>
      go_wp2_with fail
      have hr : rdH (a :: r) = (.z, 0, 13) := by
        apply rdH_no
        have := HK.out
        rw [← HHM.out, ← HN.out] at this
        exact this
      rw [hr]
      exact rp_leave R4.out .z _ 0 13 rfl rfl rfl rfl ⟨rfl, below_put4 R4.out.bel (Nat.le_refl _) _ _ _ _⟩
    | true =>
      have KT : kd (hdC a) (hdT a) (hdM a) = true := by
        have := HK.out
        rw [← HHM.out, ← HN.out] at this
        exact this
      have HR := Lib.hid (rdH_rl a r KT)
      have hrl := rlen_any w4 B o c a r (by rw [HL.out]; exact hlc) R4.out.byte
      rw [HL.out] at hrl
      obtain ⟨⟨n1, n2, n3⟩, hz⟩ : ∃ x, rl r = x := ⟨_, rfl⟩
      rw [hz] at hrl HR
      dsimp only at hrl HR
      have HRL := Lib.hid hrl
      clear KT HK hrl hz
      go_wp2_with fail
      refine HRL.out.mono ?_
      rintro e w5 ⟨rfl, rfl⟩
      clear HRL
      by_cases h0 : n3 = 0
      · subst h0
        have z3 := R4.out.head.frozen
        have hh := R4.out.head
        have l0 := hh.cell 0
        have l1 := hh.cell 1
        have l2 := hh.cell 2
        have l3 := hh.cell 3
        simp only [List.getElem?_toArray, List.getElem?_cons_succ, List.getElem?_cons_zero] at l0 l1 l2 l3
        clear hh
        go_upto_region 11 with (fail)
        have R5 := Lib.hid (R4.out.set3 (n1 : Int))
        clear z zc z3 l0 l1 l2 l3
        generalize w5.setCell ⟨p, 3, none⟩ (.int .i64 (n1 : Int)) = w6 at *
        have z := R5.out.res.frozen
        have zc := fun i => R5.out.res.cell i
        have hh := R5.out.head
        have l0 := hh.cell 0
        have l1 := hh.cell 1
        have l2 := hh.cell 2
        have l3 := hh.cell 3
        simp only [List.getElem?_toArray, List.getElem?_cons_succ, List.getElem?_cons_zero] at l0 l1 l2 l3
        clear hh
        go_wp2_with fail
        rw [HR.out, if_pos trivial]
        have e1 : hdC a = (n : Int) / 64 := by rw [← HN.out]
        have e2 : hdT a = (n : Int) % 32 := by rw [← HN.out]
        have e3 : hdM a = hm := by rw [← HHM.out, ← HN.out]
        rw [e1, e2, e3]
        exact rp_leave R5.out ⟨(n : Int) / 64, (n : Int) % 32, hm, (n1 : Int)⟩ _ n2 0 rfl rfl rfl rfl ⟨rfl, below_put4 R5.out.bel (Nat.le_refl _) _ _ _ _⟩
      · have h0' : (n3 != 0) = true := bne_iff_ne.2 h0
        go_wp2_with fail
        rw [HR.out, if_neg h0]
        exact rp_leave R4.out .z _ n2 n3 rfl rfl rfl rfl ⟨rfl, below_put4 R4.out.bel (Nat.le_refl _) _ _ _ _⟩
theorem read_any (w : World) (hT : Tb w) (A : Option Addr) (c : Nat) (xs : List UInt8) (hb : Byt w w.heap.size A xs) (hlc : xs.length ≤ c) (_ : c ≤ 140737488351232) :
    Calls Tryd.prog 9 #[.slice A xs.length c] w fun e w' => e = .returned (.tuple #[(rdH xs).1.agg, .int .i64 ((rdH xs).2.1 : Nat), .int .i64 (rdH xs).2.2]) ∧ Below w.heap.size w w' := read_big w hT A c xs hb hlc
end Go.Proofs.YtbeknillegkidaaDoor

