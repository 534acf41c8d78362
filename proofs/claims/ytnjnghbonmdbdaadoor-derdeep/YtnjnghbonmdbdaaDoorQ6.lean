/- The document's own answers of layer 9: Read. -/
import Derived.Test.YtnjnghbonmdbdaaDoorQ1
import Derived.Test.YtnjnghbonmdbdaaDoorQ5
import Derived.StillTailTactics
import Derived.BigQuiet
import Derived.Deep.QuietTactic
import Derived.Deep.RegionLaw
import Derived.Deep.RegionHeld3
import Derived.Deep.Cut
namespace Go.Proofs.YtnjnghbonmdbdaaDoor
open Go.RowKit

set_option maxRecDepth 100000 in
set_option maxHeartbeats 2000000 in
theorem rread_any (w : World) (A : Option Addr) (c : Nat) (xs : List UInt8) (hb : Byt w w.heap.size A xs) (hcap : xs.length ≤ 140737488351232) :
    Calls Tryd.prog 33 #[.slice A xs.length c] w fun e w' => e = .returned (.tuple #[(rdH xs).1.agg, .int .i64 ((rdH xs).2.1 : Nat), .int .i64 (rdH xs).2.2]) ∧ Below w.heap.size w w' := by
  cases xs with
  | nil =>
    go_enter Tryd.func33, Tryd.ntmps33
    go_wp2_with fail
    refine bodyPost_ret (results_cell_tmps rfl _ _ w.heap.size _ _ _ _ rfl (Whole.new w _ _) Tryd.underlying69 rfl (by kernel_rfl)) rfl ?_
    exact ⟨rfl, (Below.refl _ w).alloc (Nat.le_refl _) _⟩
  | cons a r =>
    obtain ⟨B, o, rfl, hB, hc⟩ := hb (by simp)
    obtain ⟨q, hq⟩ : ∃ q, w.heap.size = q := ⟨_, rfl⟩
    obtain ⟨L, hL⟩ : ∃ L, r.length = L := ⟨_, rfl⟩
    have hlen : (a :: r).length = L + 1 := by simp [hL]
    obtain ⟨n, hn⟩ : ∃ n, a.toNat = n := ⟨_, rfl⟩
    have hn256 : n < 256 := by rw [← hn]; exact a.toNat_lt
    obtain ⟨w1, hw1⟩ : ∃ w1, w.alloc (.cells #[.int .i64 0, .int .i64 0, .bool false, .int .i64 0] 69) = w1 := ⟨_, rfl⟩
    have hs1 : w1.heap.size = q + 1 := by rw [← hw1, World.size_alloc, hq]
    have b1 : Below q w w1 := by rw [← hw1, ← hq]; exact (Below.refl _ w).alloc (Nat.le_refl _) _
    have r1 : Whole w1 q #[.int .i64 0, .int .i64 0, .bool false, .int .i64 0] 69 := by rw [← hw1, ← hq]; exact Whole.new w _ _
    have k1 : w1.cell? ⟨B, o, none⟩ = some (.int .u8 (n : Int)) := by rw [b1.cell (p := ⟨B, o, none⟩) (by show B < q; omega), ← hn]; simpa using hc 0 (by simp)
    have k3 : ∀ ob, (w1.alloc ob).cell? ⟨B, o, none⟩ = some (.int .u8 (n : Int)) := fun ob => by rw [((Below.refl (q + 1) w1).alloc (by omega) ob).cell (p := ⟨B, o, none⟩) (by show B < q + 1; omega)]; exact k1
    have k2 : ∀ ob, (w1.alloc ob).drew.cell? ⟨B, o, none⟩ = some (.int .u8 (n : Int)) := fun ob => k3 ob
    obtain ⟨f1, f2, f3, f4, f5⟩ := fb_nums n hn256
    obtain ⟨hm, hhm⟩ : ∃ hm, (n / 32 % 2 == 1) = hm := ⟨_, rfl⟩
    rw [hhm] at f5
    have HHM := Lib.hid hhm
    clear hhm
    have STAR := Lib.hid (show Rdg 69 w ((w1.alloc (.cells #[.int .i64 ((n : Int) / 64), .int .i64 ((n : Int) % 32), .bool hm, .int .i64 0] 69)).drew) q (q + 1) B o (a :: r) ((n : Int) / 64) ((n : Int) % 32) hm 0 from by
      have hal : Below (q + 1) w1 (w1.alloc (.cells #[.int .i64 ((n : Int) / 64), .int .i64 ((n : Int) % 32), .bool hm, .int .i64 0] 69)) := (Below.refl (q + 1) w1).alloc (by omega) _
      have hnew := Whole.new w1 #[.int .i64 ((n : Int) / 64), .int .i64 ((n : Int) % 32), .bool hm, .int .i64 0] 69
      rw [hs1] at hnew
      exact ⟨(hal.block q (by omega)).trans r1, hnew, fun i hi => ((hal.cell (p := ⟨B, o + i, none⟩) (by show B < q + 1; omega)).trans (b1.cell (p := ⟨B, o + i, none⟩) (by show B < q; omega))).trans (hc i hi), (b1.trans (hal.mono (Nat.le_succ q))).drew, by omega, by omega⟩)
    rw [hlen] at hcap ⊢
    rw [hq] at hB ⊢
    have HCAP := Lib.hid (show L + 1 ≤ 140737488351232 from hcap)
    clear hb hc b1 r1 hcap
    go_enter Tryd.func33, Tryd.ntmps33
    go_wp2_with fail
    have HW1 := Lib.hid hw1
    have HN := Lib.hid hn
    clear hw1 hn
    go_region_held3 (fun w' => w'.cell? ⟨B, o, none⟩ = some (.int .u8 (n : Int))) (first | exact k1 | exact k2 _ | exact k3 _) (first | fail)
    clear k1 k2 k3
    generalize (w1.alloc (.cells #[.int .i64 ((n : Int) / 64), .int .i64 ((n : Int) % 32), .bool hm, .int .i64 0] 69)).drew = w2 at *
    have h2 := STAR.out.head
    have m0 := h2.cell 0
    have m1 := h2.cell 1
    have m2 := h2.cell 2
    have z := STAR.out.res.frozen
    have zc := fun i => STAR.out.res.cell i
    simp only [List.getElem?_toArray, List.getElem?_cons_succ, List.getElem?_cons_zero] at m0 m1 m2
    obtain ⟨K, hK⟩ : ∃ K, kd ((n : Int) / 64) ((n : Int) % 32) hm = K := ⟨_, rfl⟩
    have hkd := rkind_any w2 ((n : Int) / 64) ((n : Int) % 32) hm
    rw [hK] at hkd
    have HK := Lib.hid hK
    clear hK h2
    go_wp2_with fail
    refine hkd.mono ?_
    rintro e w' ⟨rfl, rfl⟩
    clear hkd
    cases K with
    | false =>
      go_wp2_with fail
      have hr : rdH (a :: r) = (.z, 0, 13) := by
        apply rdH_no
        have := HK.out
        rw [← HHM.out, ← HN.out] at this
        exact this
      rw [hr]
      exact rd_leave STAR.out .z _ 0 13 rfl rfl rfl rfl ⟨rfl, below_put4 STAR.out.bel (Nat.le_refl _) _ _ _ _⟩
    | true =>
      have KT : kd (hdC a) (hdT a) (hdM a) = true := by
        have := HK.out
        rw [← HHM.out, ← HN.out] at this
        exact this
      have HKT := Lib.hid KT
      clear KT HK f1 f2 f3 f4 f5 HW1
      cases r with
      | nil =>
        obtain rfl : L = 0 := by simpa using hL.symm
        go_wp2_with fail
        rw [rdH_one HKT.out]
        exact rd_leave STAR.out .z _ 1 4 rfl rfl rfl rfl ⟨rfl, below_put4 STAR.out.bel (Nat.le_refl _) _ _ _ _⟩
      | cons b s =>
        obtain ⟨M, hM⟩ : ∃ M, s.length = M := ⟨_, rfl⟩
        obtain rfl : L = M + 1 := by rw [← hL, ← hM]; rfl
        obtain ⟨d, hd⟩ : ∃ d, b.toNat = d := ⟨_, rfl⟩
        have hd256 : d < 256 := by rw [← hd]; exact b.toNat_lt
        have m3 : w'.cell? ⟨B, o + 1, none⟩ = some (.int .u8 (d : Int)) := by rw [← hd]; simpa using STAR.out.byte 1 (by simp)
        have HD := Lib.hid hd
        have HM := Lib.hid hM
        clear hd hM hL hlen
        by_cases g1 : d = 128
        · have g1' : ((d : Int) == 128) = true := by rw [g1]; rfl
          go_wp2_with fail
          rw [rdH_bad HKT.out (.inl (by rw [HD.out]; exact g1))]
          exact rd_leave STAR.out .z _ 1 13 rfl rfl rfl rfl ⟨rfl, below_put4 STAR.out.bel (Nat.le_refl _) _ _ _ _⟩
        · have g1' : ((d : Int) == 128) = false := by simp; omega
          by_cases g2 : 131 < d
          · have g2' : 131 < (d : Int) := by omega
            go_wp2_with fail
            rw [rdH_bad HKT.out (.inr (by rw [HD.out]; exact g2))]
            exact rd_leave STAR.out .z _ 1 13 rfl rfl rfl rfl ⟨rfl, below_put4 STAR.out.bel (Nat.le_refl _) _ _ _ _⟩
          · have g2' : ¬ 131 < (d : Int) := by omega
            have z3 := STAR.out.head.frozen
            have m4 := STAR.out.head.cell 3
            simp only [List.getElem?_toArray, List.getElem?_cons_succ, List.getElem?_cons_zero] at m4
            by_cases g3 : d < 128
            · have g3' : ¬ 128 < (d : Int) := by omega
              have f1 : IntKind.i64.wrap (d : Int) = d := by rw [IntWalk.i64_left, IntWalk.wrap64_in _ (by omega)]
              go_upto_region 20 with fail
              have RD : Hid (Rdg 69 w (w'.setCell ⟨q + 1, 3, none⟩ (.int .i64 (d : Int))) q (q + 1) B o (a :: b :: s) ((n : Int) / 64) ((n : Int) % 32) hm (d : Int)) := by
                obtain ⟨r1, r2, r3, r4, r5, r6⟩ := STAR.out
                exact ⟨r1.grew (grew_set (grew_refl w' (some (q + 1))) 3 none _) (by simp), r2.set 3 _, fun i hi => by rw [(grew_set (grew_refl w' (some (q + 1))) 3 none (.int .i64 (d : Int))).cell (r3 i hi) (by simp; omega)], r4.setCell (p := ⟨q + 1, 3, none⟩) (by simp) _, r5, r6⟩
              generalize w'.setCell ⟨q + 1, 3, none⟩ (.int .i64 (d : Int)) = w3 at *
              obtain ⟨lv, hlv⟩ : ∃ lv, (d : Int) = lv := ⟨_, rfl⟩
              have LV0 : (0 : Int) ≤ lv := by omega
              have LV1 : lv ≤ 16777215 := by omega
              rw [hlv] at RD
              have hP : Hid (Rdg 69 w w3 q (q + 1) B o (a :: b :: s) ((n : Int) / 64) ((n : Int) % 32) hm lv) := RD
              obtain ⟨HDh, HDt, HDn, HDz⟩ := And.intro RD.out.head (And.intro RD.out.res (And.intro RD.out.byte RD.out.bel))
              have l0 := HDh.cell 0
              have l1 := HDh.cell 1
              have l2 := HDh.cell 2
              have l3 := HDh.cell 3
              simp only [List.getElem?_toArray, List.getElem?_cons_succ, List.getElem?_cons_zero] at l0 l1 l2 l3
              have hput := rput_any w3 ⟨(n : Int) / 64, (n : Int) % 32, hm, lv⟩ (by have := HKT.out; rw [← HHM.out, ← HN.out]; exact this) LV0 LV1
              have HPUT := Lib.hid hput
              clear hput HDh HDt HDn HDz
              go_wp2_with fail
              refine HPUT.out.mono ?_
              rintro e w4 ⟨v, rfl, own, bel, hi⟩
              have HOF := Lib.hid (show hdOf a b s = ⟨(n : Int) / 64, (n : Int) % 32, hm, lv⟩ from by unfold hdOf; rw [if_pos (by rw [HD.out]; omega), HD.out, hlv, ← HN.out, ← HHM.out, ← HN.out])
              have HCOND := Lib.hid (show b.toNat < 128 ∨ 128 < b.toNat ∧ b.toNat ≤ 131 ∧ b.toNat - 128 ≤ s.length from .inl (by rw [HD.out]; omega))
              clear l0 l1 l2 l3 HPUT m0 m1 m2 m3 m4 z z3 zc hP
              obtain ⟨ys, hys⟩ : ∃ ys, putH ⟨(n : Int) / 64, (n : Int) % 32, hm, lv⟩ = ys := ⟨_, rfl⟩
              have hy0 : 0 < ys.length := by rw [← hys]; simp [putH]
              rw [hys] at own
              obtain ⟨bo, cap, rfl, hN, hoc⟩ := own_slice own hy0
              have hbo : w3.heap.size ≤ bo := hi bo rfl
              have RD4 := Lib.hid (RD.out.below bel RD.out.head.lt)
              have HYS := Lib.hid hys
              obtain ⟨xs, hxs⟩ : ∃ xs, a :: b :: s = xs := ⟨_, rfl⟩
              have hxl : xs.length = M + 1 + 1 := by rw [← hxs, ← HM.out]; rfl
              rw [hxs] at RD4
              obtain ⟨N, hNN⟩ : ∃ N, ys.length = N := ⟨_, rfl⟩
              have hy5 : N ≤ 5 := by rw [← hNN, ← hys]; simp only [putH, lenB]; split <;> (try split) <;> (try split) <;> simp
              rw [hNN] at hoc hy0
              have OC := Lib.hid hoc
              have HXS := Lib.hid hxs
              have HXL := Lib.hid hxl
              have HNN := Lib.hid hNN
              have HQQ := Lib.hid hq
              clear own bel hi hN hoc hys hxs hxl hq hbo RD STAR
              rw [HNN.out]
              go_wp2_with fail
              go_loopw [9] (fun i wr => ∃ j : Nat, j ≤ N ∧ i = .int .i64 j ∧ Hid (∀ k, k < j → k < xs.length ∧ ys.getD k 0 = xs.getD k 0) ∧ Hid (Rdg 69 w wr q (q + 1) B o xs ((n : Int) / 64) ((n : Int) % 32) hm lv) ∧ Hid (∀ i, i < N → wr.cell? ⟨bo, i, none⟩ = some (.int .u8 ((ys.getD i 0).toNat : Int)))) (fun i _ => N - (intOf i).toNat)
              case atStart => exact ⟨0, Nat.zero_le _, rfl, Lib.hid (fun k hk => absurd hk (Nat.not_lt_zero k)), RD4, OC⟩
              case round =>
                clear OC RD4
                obtain ⟨j, hj, rfl, hsame, hR, hO⟩ := hrel
                by_cases hlt : j < N
                · obtain ⟨y, hy⟩ : ∃ y, (ys.getD j 0).toNat = y := ⟨_, rfl⟩
                  have c0 : wr.cell? ⟨bo, j, none⟩ = some (.int .u8 (y : Int)) := by rw [← hy]; exact hO.out j hlt
                  have HY := Lib.hid hy
                  clear hy
                  by_cases hjx : j < M + 1 + 1
                  · obtain ⟨x, hx⟩ : ∃ x, (xs.getD j 0).toNat = x := ⟨_, rfl⟩
                    have c1 : wr.cell? ⟨B, o + j, none⟩ = some (.int .u8 (x : Int)) := by rw [← hx]; exact hR.out.byte j (by rw [HXL.out]; exact hjx)
                    have HX := Lib.hid hx
                    have ge : ¬ ((M : Int) + 1 + 1 ≤ (j : Int)) := by omega
                    clear hx
                    by_cases hyx : y = x
                    · have heq : ((y : Int) == (x : Int)) = true := by rw [hyx]; exact beq_self_eq_true _
                      go_wp2_with fail
                      go_quiet (fail)
                      go_wp2_with fail
                      go_roundw
                      case rel =>
                        refine ⟨j + 1, hlt, rfl, Lib.hid (fun k hk => ?_), Lib.hid (hR.out.drewN _), hO⟩
                        rcases Nat.lt_or_ge k j with h | h
                        · exact hsame.out k h
                        · obtain rfl : k = j := by omega
                          exact ⟨by rw [HXL.out]; exact hjx, UInt8.toNat_inj.1 (by rw [HY.out, HX.out]; exact hyx)⟩
                      case measure => simp [intOf]; omega
                    · have heq : ((y : Int) != (x : Int)) = true := bne_iff_ne.2 (fun e => hyx (by omega))
                      have z := hR.out.res.frozen
                      have zc := fun i => hR.out.res.cell i
                      go_wp2_with fail
                      go_quiet (fail)
                      go_wp2_with fail
                      have hr : rdH (a :: b :: s) = (.z, 1, 13) := by
                        rw [rdH_all HKT.out HCOND.out, HOF.out, HYS.out, HXS.out, if_neg]
                        intro hp
                        have := ((pre_iff ys xs).1 hp j (by rw [HNN.out]; exact hlt)).2
                        exact hyx (by rw [← HY.out, ← HX.out, this])
                      rw [hr]
                      exact rd_leave (hR.out.drewN _) .z _ 1 13 rfl rfl rfl rfl ⟨rfl, below_put4 (hR.out.drewN _).bel (Nat.le_refl _) _ _ _ _⟩
                  · have ge : (M : Int) + 1 + 1 ≤ (j : Int) := by omega
                    have z := hR.out.res.frozen
                    have zc := fun i => hR.out.res.cell i
                    go_wp2_with fail
                    go_quiet (fail)
                    go_wp2_with fail
                    have hr : rdH (a :: b :: s) = (.z, 1, 13) := by
                      rw [rdH_all HKT.out HCOND.out, HOF.out, HYS.out, HXS.out, if_neg]
                      intro hp
                      have := ((pre_iff ys xs).1 hp j (by rw [HNN.out]; exact hlt)).1
                      rw [HXL.out] at this
                      exact hjx this
                    rw [hr]
                    exact rd_leave (hR.out.drewN _) .z _ 1 13 rfl rfl rfl rfl ⟨rfl, below_put4 (hR.out.drewN _).bel (Nat.le_refl _) _ _ _ _⟩
                · obtain rfl : N = j := by omega
                  have z := hR.out.res.frozen
                  have zc := fun i => hR.out.res.cell i
                  have hh := hR.out.head
                  have l0 := hh.cell 0
                  have l1 := hh.cell 1
                  have l2 := hh.cell 2
                  have l3 := hh.cell 3
                  simp only [List.getElem?_toArray, List.getElem?_cons_succ, List.getElem?_cons_zero] at l0 l1 l2 l3
                  clear hh
                  go_wp2_with fail
                  have hr : rdH (a :: b :: s) = (⟨(n : Int) / 64, (n : Int) % 32, hm, lv⟩, N, 0) := by
                    rw [rdH_all HKT.out HCOND.out, HOF.out, HYS.out, HXS.out, if_pos, HNN.out]
                    exact (pre_iff ys xs).2 (fun i hi => hsame.out i (by rw [HNN.out] at hi; exact hi))
                  rw [hr]
                  exact rd_leave hR.out ⟨(n : Int) / 64, (n : Int) % 32, hm, lv⟩ _ N 0 rfl rfl rfl rfl ⟨rfl, below_put4 hR.out.bel (Nat.le_refl _) _ _ _ _⟩
            · have g3' : 128 < (d : Int) := by omega
              have f1 : IntKind.i64.wrap (d : Int) = d := by rw [IntWalk.i64_left, IntWalk.wrap64_in _ (by omega)]
              obtain ⟨k, hkd⟩ : ∃ k, d = 128 + k := ⟨d - 128, by omega⟩
              have hkd' : (d : Int) - 128 = (k : Int) := by omega
              have hk3 : k ≤ 3 := by omega
              have HKD := Lib.hid hkd
              clear hkd
              have RA := Lib.hid (STAR.out.set3 (d : Int))
              have RB := Lib.hid (RA.out.set3 0)
              by_cases g4 : M < k
              · go_wp2_with fail
                rw [rdH_few HKT.out (by rw [HD.out]; omega) (by rw [HD.out]; omega) (by rw [HD.out, HM.out]; have := HKD.out; omega), HM.out]
                exact rd_leave RA.out .z _ (M + 2) 4 rfl rfl rfl rfl ⟨rfl, below_put4 RA.out.bel (Nat.le_refl _) _ _ _ _⟩
              · go_wp2_with fail
                have HG4 := Lib.hid g4
                generalize (w'.setCell ⟨q + 1, 3, none⟩ (.int .i64 (d : Int))).setCell ⟨q + 1, 3, none⟩ (.int .i64 0) = wz at *
                go_loopw [7] (fun i wr => ∃ j : Nat, j ≤ k ∧ i = .int .i64 j ∧ Hid (Rdg 69 w wr q (q + 1) B o (a :: b :: s) ((n : Int) / 64) ((n : Int) % 32) hm (bval (s.take j) : Nat))) (fun i _ => k - (intOf i).toNat)
                case atStart => exact ⟨0, Nat.zero_le _, rfl, RB⟩
                case round =>
                  clear m0 m1 m2 m4 z zc z3 RB RA
                  obtain ⟨j, hj, rfl, hR⟩ := hrel
                  by_cases hlt : j < k
                  · have b1 : (2 : Int) + (j : Int) < (M : Int) + 1 + 1 := by clear hR; omega
                    have b2 : 2 + j < M + 1 + 1 := by clear hR; omega
                    have b3 : (2 + (j : Int)).toNat = 2 + j := by clear hR; omega
                    have b0 : (0 : Int) ≤ 2 + (j : Int) := by clear hR; omega
                    obtain ⟨V, hV⟩ : ∃ V, bval (s.take j) = V := ⟨_, rfl⟩
                    have hVb : V < 65536 := by
                      rw [← hV]
                      have h1 := bval_lt (s.take j)
                      have h2 : (s.take j).length ≤ 2 := by rw [List.length_take]; omega
                      have h3 : 256 ^ (s.take j).length ≤ 256 ^ 2 := Nat.pow_le_pow_right (by omega) h2
                      have h4 : (256 : Nat) ^ 2 = 65536 := rfl
                      omega
                    obtain ⟨x, hx⟩ : ∃ x, (s.getD j 0).toNat = x := ⟨_, rfl⟩
                    have hx256 : x < 256 := by rw [← hx]; exact UInt8.toNat_lt _
                    have hnext : bval (s.take (j + 1)) = 256 * V + x := by rw [bval_take (by rw [HM.out]; omega), hV, hx]
                    have c1 : wr.cell? ⟨B, o + (2 + j), none⟩ = some (.int .u8 (x : Int)) := by
                      have := hR.out.byte (2 + j) (by simp [HM.out]; omega)
                      rw [← hx, this]
                      congr 3
                      rw [show 2 + j = j + 1 + 1 by omega]
                      simp
                    rw [hV] at hR
                    have h3 := hR.out.head.cell 3
                    have z3 := hR.out.head.frozen
                    simp only [List.getElem?_toArray, List.getElem?_cons_succ, List.getElem?_cons_zero] at h3
                    have HNEXT := Lib.hid hnext
                    have e1 : IntKind.i64.wrap (256 * (V : Int)) = 256 * (V : Int) := by rw [IntWalk.i64_left, IntWalk.wrap64_in _ (by omega)]
                    have e2 : IntKind.i64.wrap (256 * (V : Int) + (x : Int)) = 256 * (V : Int) + (x : Int) := by rw [IntWalk.i64_left, IntWalk.wrap64_in _ (by omega)]
                    have e3 : IntKind.i64.wrap (x : Int) = x := (fb_nums x hx256).1
                    have e4 : IntKind.i64.wrap (2 + (j : Int)) = 2 + (j : Int) := by rw [IntWalk.i64_left, IntWalk.wrap64_in _ (by omega)]
                    have hVb' : (V : Int) < 65536 := by omega
                    clear hnext hV hx hVb
                    have c2 : wr.drew.cell? ⟨B, o + (2 + j), none⟩ = some (.int .u8 (x : Int)) := c1
                    have h3' : wr.drew.cell? ⟨q + 1, 3, none⟩ = some (.int .i64 (V : Int)) := h3
                    go_wp2_with fail
                    go_still_tail 11, (by kernel_rfl)
                    change wpList _ _ _ _ _ wr.drew
                    go_wp2_with fail
                    refine ⟨⟨_, _, _, _, _, _, _, _, _, _, _, _, _, _, _, _, _, ⟨j + 1, hlt, rfl, Lib.hid ?_⟩, rfl⟩, ?_⟩
                    · rw [HNEXT.out]
                      exact (hR.out.set3 _).drew
                    · simp [intOf]
                      omega
                  · obtain rfl : k = j := by omega
                    have RD := hR
                    obtain ⟨lv, hlv⟩ : ∃ lv : Int, ((bval (s.take k) : Nat) : Int) = lv := ⟨_, rfl⟩
                    have LV0 : (0 : Int) ≤ lv := by omega
                    have LV1 : lv ≤ 16777215 := by
                      rw [← hlv]
                      have h1 := bval_lt (s.take k)
                      have h2 : (s.take k).length ≤ 3 := by rw [List.length_take]; omega
                      have h3 : 256 ^ (s.take k).length ≤ 256 ^ 3 := Nat.pow_le_pow_right (by omega) h2
                      have h4 : (256 : Nat) ^ 3 = 16777216 := rfl
                      omega
                    rw [hlv] at RD
                    clear hR
                    go_upto_region 20 with fail
                    have hP : Hid (Rdg 69 w wr q (q + 1) B o (a :: b :: s) ((n : Int) / 64) ((n : Int) % 32) hm lv) := RD
                    obtain ⟨HDh, HDt, HDn, HDz⟩ := And.intro RD.out.head (And.intro RD.out.res (And.intro RD.out.byte RD.out.bel))
                    have l0 := HDh.cell 0
                    have l1 := HDh.cell 1
                    have l2 := HDh.cell 2
                    have l3 := HDh.cell 3
                    simp only [List.getElem?_toArray, List.getElem?_cons_succ, List.getElem?_cons_zero] at l0 l1 l2 l3
                    have hput := rput_any wr ⟨(n : Int) / 64, (n : Int) % 32, hm, lv⟩ (by have := HKT.out; rw [← HHM.out, ← HN.out]; exact this) LV0 LV1
                    have HPUT := Lib.hid hput
                    clear hput HDh HDt HDn HDz
                    go_wp2_with fail
                    refine HPUT.out.mono ?_
                    rintro e w4 ⟨v, rfl, own, bel, hi⟩
                    have HOF := Lib.hid (show hdOf a b s = ⟨(n : Int) / 64, (n : Int) % 32, hm, lv⟩ from by unfold hdOf; rw [if_neg (by rw [HD.out]; omega), HD.out, show d - 128 = k by have := HKD.out; omega, hlv, ← HN.out, ← HHM.out, ← HN.out])
                    have HCOND := Lib.hid (show b.toNat < 128 ∨ 128 < b.toNat ∧ b.toNat ≤ 131 ∧ b.toNat - 128 ≤ s.length from .inr (by rw [HD.out, HM.out]; omega))
                    clear l0 l1 l2 l3 HPUT
                    obtain ⟨ys, hys⟩ : ∃ ys, putH ⟨(n : Int) / 64, (n : Int) % 32, hm, lv⟩ = ys := ⟨_, rfl⟩
                    have hy0 : 0 < ys.length := by rw [← hys]; simp [putH]
                    rw [hys] at own
                    obtain ⟨bo, cap, rfl, hN, hoc⟩ := own_slice own hy0
                    have hbo : wr.heap.size ≤ bo := hi bo rfl
                    have RD4 := Lib.hid (RD.out.below bel RD.out.head.lt)
                    have HYS := Lib.hid hys
                    obtain ⟨xs, hxs⟩ : ∃ xs, a :: b :: s = xs := ⟨_, rfl⟩
                    have hxl : xs.length = M + 1 + 1 := by rw [← hxs, ← HM.out]; rfl
                    rw [hxs] at RD4
                    obtain ⟨N, hNN⟩ : ∃ N, ys.length = N := ⟨_, rfl⟩
                    have hy5 : N ≤ 5 := by rw [← hNN, ← hys]; simp only [putH, lenB]; split <;> (try split) <;> (try split) <;> simp
                    rw [hNN] at hoc hy0
                    have OC := Lib.hid hoc
                    have HXS := Lib.hid hxs
                    have HXL := Lib.hid hxl
                    have HNN := Lib.hid hNN
                    have HQQ := Lib.hid hq
                    clear own bel hi hN hoc hys hxs hxl hq hbo RD hP
                    rw [HNN.out]
                    go_wp2_with fail
                    go_loopw [9] (fun i wr => ∃ j : Nat, j ≤ N ∧ i = .int .i64 j ∧ Hid (∀ k, k < j → k < xs.length ∧ ys.getD k 0 = xs.getD k 0) ∧ Hid (Rdg 69 w wr q (q + 1) B o xs ((n : Int) / 64) ((n : Int) % 32) hm lv) ∧ Hid (∀ i, i < N → wr.cell? ⟨bo, i, none⟩ = some (.int .u8 ((ys.getD i 0).toNat : Int)))) (fun i _ => N - (intOf i).toNat)
                    case atStart => exact ⟨0, Nat.zero_le _, rfl, Lib.hid (fun k hk => absurd hk (Nat.not_lt_zero k)), RD4, OC⟩
                    case round =>
                      clear OC RD4
                      obtain ⟨j, hj, rfl, hsame, hR, hO⟩ := hrel
                      by_cases hlt : j < N
                      · obtain ⟨y, hy⟩ : ∃ y, (ys.getD j 0).toNat = y := ⟨_, rfl⟩
                        have c0 : wr.cell? ⟨bo, j, none⟩ = some (.int .u8 (y : Int)) := by rw [← hy]; exact hO.out j hlt
                        have HY := Lib.hid hy
                        clear hy
                        by_cases hjx : j < M + 1 + 1
                        · obtain ⟨x, hx⟩ : ∃ x, (xs.getD j 0).toNat = x := ⟨_, rfl⟩
                          have c1 : wr.cell? ⟨B, o + j, none⟩ = some (.int .u8 (x : Int)) := by rw [← hx]; exact hR.out.byte j (by rw [HXL.out]; exact hjx)
                          have HX := Lib.hid hx
                          have ge : ¬ ((M : Int) + 1 + 1 ≤ (j : Int)) := by omega
                          clear hx
                          by_cases hyx : y = x
                          · have heq : ((y : Int) == (x : Int)) = true := by rw [hyx]; exact beq_self_eq_true _
                            go_wp2_with fail
                            go_quiet (fail)
                            go_wp2_with fail
                            go_roundw
                            case rel =>
                              refine ⟨j + 1, hlt, rfl, Lib.hid (fun k hk => ?_), Lib.hid (hR.out.drewN _), hO⟩
                              rcases Nat.lt_or_ge k j with h | h
                              · exact hsame.out k h
                              · obtain rfl : k = j := by omega
                                exact ⟨by rw [HXL.out]; exact hjx, UInt8.toNat_inj.1 (by rw [HY.out, HX.out]; exact hyx)⟩
                            case measure => simp [intOf]; omega
                          · have heq : ((y : Int) != (x : Int)) = true := bne_iff_ne.2 (fun e => hyx (by omega))
                            have z := hR.out.res.frozen
                            have zc := fun i => hR.out.res.cell i
                            go_wp2_with fail
                            go_quiet (fail)
                            go_wp2_with fail
                            have hr : rdH (a :: b :: s) = (.z, 1, 13) := by
                              rw [rdH_all HKT.out HCOND.out, HOF.out, HYS.out, HXS.out, if_neg]
                              intro hp
                              have := ((pre_iff ys xs).1 hp j (by rw [HNN.out]; exact hlt)).2
                              exact hyx (by rw [← HY.out, ← HX.out, this])
                            rw [hr]
                            exact rd_leave (hR.out.drewN _) .z _ 1 13 rfl rfl rfl rfl ⟨rfl, below_put4 (hR.out.drewN _).bel (Nat.le_refl _) _ _ _ _⟩
                        · have ge : (M : Int) + 1 + 1 ≤ (j : Int) := by omega
                          have z := hR.out.res.frozen
                          have zc := fun i => hR.out.res.cell i
                          go_wp2_with fail
                          go_quiet (fail)
                          go_wp2_with fail
                          have hr : rdH (a :: b :: s) = (.z, 1, 13) := by
                            rw [rdH_all HKT.out HCOND.out, HOF.out, HYS.out, HXS.out, if_neg]
                            intro hp
                            have := ((pre_iff ys xs).1 hp j (by rw [HNN.out]; exact hlt)).1
                            rw [HXL.out] at this
                            exact hjx this
                          rw [hr]
                          exact rd_leave (hR.out.drewN _) .z _ 1 13 rfl rfl rfl rfl ⟨rfl, below_put4 (hR.out.drewN _).bel (Nat.le_refl _) _ _ _ _⟩
                      · obtain rfl : N = j := by omega
                        have z := hR.out.res.frozen
                        have zc := fun i => hR.out.res.cell i
                        have hh := hR.out.head
                        have l0 := hh.cell 0
                        have l1 := hh.cell 1
                        have l2 := hh.cell 2
                        have l3 := hh.cell 3
                        simp only [List.getElem?_toArray, List.getElem?_cons_succ, List.getElem?_cons_zero] at l0 l1 l2 l3
                        clear hh
                        go_wp2_with fail
                        have hr : rdH (a :: b :: s) = (⟨(n : Int) / 64, (n : Int) % 32, hm, lv⟩, N, 0) := by
                          rw [rdH_all HKT.out HCOND.out, HOF.out, HYS.out, HXS.out, if_pos, HNN.out]
                          exact (pre_iff ys xs).2 (fun i hi => hsame.out i (by rw [HNN.out] at hi; exact hi))
                        rw [hr]
                        exact rd_leave hR.out ⟨(n : Int) / 64, (n : Int) % 32, hm, lv⟩ _ N 0 rfl rfl rfl rfl ⟨rfl, below_put4 hR.out.bel (Nat.le_refl _) _ _ _ _⟩
end Go.Proofs.YtnjnghbonmdbdaaDoor

