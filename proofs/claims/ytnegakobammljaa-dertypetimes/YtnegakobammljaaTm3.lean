/- The package's own times: read. -/
import Derived.Test.YtnegakobammljaaTm2
import Derived.Test.YtnegakobammljaaRw
namespace Go.Proofs.Ytnegakobammljaa
open Go.RowKit

theorem dgs_lt (xs : List UInt8) : dgs xs < ((10 ^ xs.length : Nat) : Int) := by
  have key : ∀ (k : Nat) (xs : List UInt8) (n m : Nat), xs.length = k → n < 10 ^ m → dgF n xs < ((10 ^ (m + k) : Nat) : Int) := by
    intro k
    induction k with
    | zero => intro xs n m hx hn; obtain rfl := List.eq_nil_of_length_eq_zero hx; simp only [dgF, Nat.add_zero]; omega
    | succ k ih =>
      intro xs n m hx hn
      match xs, hx with
      | x :: r, hx =>
        unfold dgF
        split
        · have : (0 : Int) ≤ ((10 ^ (m + (k + 1)) : Nat) : Int) := Int.natCast_nonneg _
          generalize ((10 ^ (m + (k + 1)) : Nat) : Int) = Y at *
          omega
        · have := ih r (10 * n + (x.toNat - 48)) (m + 1) (by simpa using hx) (by rw [Nat.pow_succ]; omega)
          rw [show m + 1 + k = m + (k + 1) by omega] at this
          exact this
  have h1 := key xs.length xs 0 0 rfl (by decide)
  rw [Nat.zero_add] at h1
  exact h1

/-- Memory while a time is read: the result's block, the block of what is read. -/
structure Tma (w W : World) (q : Nat) (cs : Array Value) : Prop where
  res : Whole W q #[.int .i64 0, .int .i64 0, .int .i64 0, .int .i64 0, .int .i64 0, .int .i64 0] 40
  cur : Whole W (q + 1) cs 40
  bel : Below q w W
theorem Tma.store {w W : World} {q : Nat} {cs : Array Value} (h : Tma w W q cs) (i : Nat) (u : Value) : Tma w (W.setCell ⟨q + 1, i, none⟩ u) q (cs.setIfInBounds i u) :=
  ⟨h.res.grew (grew_set (grew_refl W (some (q + 1))) i none _) (by simp), h.cur.set i u, h.bel.setCell (p := ⟨q + 1, i, none⟩) (by simp) _⟩
theorem Tma.under {w W W' : World} {q : Nat} {cs : Array Value} (h : Tma w W q cs) (hb : Below W.heap.size W W') (hq : q + 1 < W.heap.size) : Tma w W' q cs := by
  refine ⟨?_, ?_, ?_⟩
  · exact (hb.block q (by omega)).trans h.res
  · exact (hb.block (q + 1) (by omega)).trans h.cur
  · exact h.bel.trans (hb.mono (Nat.le_of_lt (Nat.lt_of_succ_lt hq)))
/-- What is read of a time's parts: j of them. -/
def tmc (tag : Int) (xs : List UInt8) (j k : Nat) : Value := .int .i64 (if k < j then tyR tag xs k else 0)
def tmC (tag : Int) (xs : List UInt8) (j : Nat) : Array Value := #[tmc tag xs j 0, tmc tag xs j 1, tmc tag xs j 2, tmc tag xs j 3, tmc tag xs j 4, tmc tag xs j 5]
theorem tmC_next (tag : Int) (xs : List UInt8) (j : Nat) (h : j < 6) : (tmC tag xs j).setIfInBounds j (.int .i64 (tyR tag xs j)) = tmC tag xs (j + 1) := by
  have key : j = 0 ∨ j = 1 ∨ j = 2 ∨ j = 3 ∨ j = 4 ∨ j = 5 := by omega
  rcases key with rfl | rfl | rfl | rfl | rfl | rfl <;> simp [tmC, tmc]
theorem tmC_cell (tag : Int) (xs : List UInt8) (j : Nat) (h : j < 6) : (tmC tag xs j)[j]? = some (.int .i64 0) := by
  have key : j = 0 ∨ j = 1 ∨ j = 2 ∨ j = 3 ∨ j = 4 ∨ j = 5 := by omega
  rcases key with rfl | rfl | rfl | rfl | rfl | rfl <;> simp [tmC, tmc]
/-- Where a part begins. -/
def bgn (n j : Nat) : Nat := if j = 0 then 0 else n + 2 * j - 2
theorem byt_up {w : World} {B B' : Nat} {A : Option Addr} {xs : List UInt8} (h : Byt w B A xs) (hB : B ≤ B') : Byt w B' A xs := by
  intro hn
  obtain ⟨b, o, e, hb, hc⟩ := h hn
  exact ⟨b, o, e, by omega, hc⟩
theorem tyok_neg {tag : Int} {xs : List UInt8} {j : Nat} (hj : j < 6) (h : ¬ 0 ≤ tyR tag xs j) : tyOk tag xs = false := by
  have : ((List.range 6).all fun i => decide (0 ≤ tyR tag xs i)) = false := by
    rw [List.all_eq_false]
    exact ⟨j, List.mem_range.2 hj, by simpa using h⟩
  unfold tyOk
  rw [this, Bool.and_false, Bool.false_and]
theorem tyok_len {tag : Int} {xs : List UInt8} (h : ¬ xs.length = tyN tag + 11) : tyOk tag xs = false := by
  unfold tyOk
  rw [show (xs.length == tyN tag + 11) = false from beq_eq_false_iff_ne.2 h]
  simp
theorem tyok_z {tag : Int} {xs : List UInt8} (h : ¬ (xs.getD (tyN tag + 10) 0).toNat = 90) : tyOk tag xs = false := by
  unfold tyOk
  rw [show ((xs.getD (tyN tag + 10) 0).toNat == 90) = false from beq_eq_false_iff_ne.2 h]
  simp
theorem tyok_eq {tag : Int} {xs : List UInt8} (h1 : xs.length = tyN tag + 11) (h2 : (xs.getD (tyN tag + 10) 0).toNat = 90) (h3 : ∀ k, k < 6 → 0 ≤ tyR tag xs k) :
    tyOk tag xs = decide (1 ≤ tyV tag xs 1 ∧ tyV tag xs 1 ≤ 12 ∧ 1 ≤ tyV tag xs 2 ∧ tyV tag xs 2 ≤ dys (tyV tag xs 0) (tyV tag xs 1) ∧ tyV tag xs 3 ≤ 23 ∧ tyV tag xs 4 ≤ 59 ∧ tyV tag xs 5 ≤ 59) := by
  have : ((List.range 6).all fun i => decide (0 ≤ tyR tag xs i)) = true := by
    rw [List.all_eq_true]
    exact fun i hi => decide_eq_true (h3 i (List.mem_range.1 hi))
  unfold tyOk
  rw [this, h1, h2]
  simp
theorem Tma.cells {w W : World} {q : Nat} {z0 z1 z2 z3 z4 z5 : Int} (h : Tma w W q #[.int .i64 z0, .int .i64 z1, .int .i64 z2, .int .i64 z3, .int .i64 z4, .int .i64 z5]) :
    (W.cell? ⟨q + 1, 0, none⟩ = some (.int .i64 z0) ∧ W.cell? ⟨q + 1, 1, none⟩ = some (.int .i64 z1) ∧ W.cell? ⟨q + 1, 2, none⟩ = some (.int .i64 z2) ∧ W.cell? ⟨q + 1, 3, none⟩ = some (.int .i64 z3) ∧ W.cell? ⟨q + 1, 4, none⟩ = some (.int .i64 z4) ∧ W.cell? ⟨q + 1, 5, none⟩ = some (.int .i64 z5)) ∧
    (∀ i, W.frozen? ⟨q + 1, i, none⟩ = false) :=
  ⟨⟨h.cur.cell 0, h.cur.cell 1, h.cur.cell 2, h.cur.cell 3, h.cur.cell 4, h.cur.cell 5⟩, h.cur.frozen⟩
theorem res_cells {W : World} {q : Nat} (h : Whole W q #[.int .i64 0, .int .i64 0, .int .i64 0, .int .i64 0, .int .i64 0, .int .i64 0] 40) :
    (W.cell? ⟨q, 0, none⟩ = some (.int .i64 0) ∧ W.cell? ⟨q, 1, none⟩ = some (.int .i64 0) ∧ W.cell? ⟨q, 2, none⟩ = some (.int .i64 0) ∧ W.cell? ⟨q, 3, none⟩ = some (.int .i64 0) ∧ W.cell? ⟨q, 4, none⟩ = some (.int .i64 0) ∧ W.cell? ⟨q, 5, none⟩ = some (.int .i64 0)) ∧ (∀ i, W.frozen? ⟨q, i, none⟩ = false) :=
  ⟨⟨h.cell 0, h.cell 1, h.cell 2, h.cell 3, h.cell 4, h.cell 5⟩, h.frozen⟩

set_option maxRecDepth 100000 in
theorem results_rt (tmps : Array Value) (w : World) (q : Nat) (cs : Array Value) (t : TypeId) (hp : tmps.getD 4 undef = .pointer (some ⟨q, 0, none⟩)) (hg : Whole w q cs t) (h6 : cs.size = 6) :
    (results Try.f31 tmps).run Try.prog w = .ok (.tuple #[.agg cs, tmps.getD 5 undef]) w := by
  have hi : (Try.prog.info? 40).map (·.size) = some cs.size := by rw [h6]; kernel_rfl
  have h1 := run_loadVar_row (P := Try.prog) w q t 40 cs _ _ hg Try.underlying40 rfl hi
  rw [results_cell_tmp (fn := Try.f31) rfl tmps Try.prog w, hp]
  simp [asAddr, h1, Result.andThen]
/-- It leaves with what lies in its result. -/
theorem rt_leave {w W : World} {q : Nat} (hres : Whole W q #[.int .i64 0, .int .i64 0, .int .i64 0, .int .i64 0, .int .i64 0, .int .i64 0] 40) (hbel : Below q w W) (z0 z1 z2 z3 z4 z5 : Int) (a : Act) (b : Bool)
    (h4 : a.tmps.getD 4 undef = .pointer (some ⟨q, 0, none⟩)) (h5 : a.tmps.getD 5 undef = .bool b) (hd : a.defers = []) {E : Ending → World → Prop}
    (hE : Below q w (put6i W q z0 z1 z2 z3 z4 z5) → E (.returned (.tuple #[agg6 [z0, z1, z2, z3, z4, z5], .bool b])) (put6i W q z0 z1 z2 z3 z4 z5)) :
    bodyPost Try.prog Try.f31 E Exit.ret a (put6i W q z0 z1 z2 z3 z4 z5) := by
  have hw : Whole (put6i W q z0 z1 z2 z3 z4 z5) q #[.int .i64 z0, .int .i64 z1, .int .i64 z2, .int .i64 z3, .int .i64 z4, .int .i64 z5] 40 := (((((hres.set 0 _).set 1 _).set 2 _).set 3 _).set 4 _).set 5 _
  have hb : Below q w (put6i W q z0 z1 z2 z3 z4 z5) := (((((hbel.setCell (p := ⟨q, 0, none⟩) (Nat.le_refl _) _).setCell (p := ⟨q, 1, none⟩) (Nat.le_refl _) _).setCell (p := ⟨q, 2, none⟩) (Nat.le_refl _) _).setCell (p := ⟨q, 3, none⟩) (Nat.le_refl _) _).setCell (p := ⟨q, 4, none⟩) (Nat.le_refl _) _).setCell (p := ⟨q, 5, none⟩) (Nat.le_refl _) _
  refine bodyPost_ret (results_rt _ _ q _ _ h4 hw rfl) hd ?_
  rw [h5]
  exact hE hb


set_option maxRecDepth 100000 in
set_option maxHeartbeats 4000000 in
theorem readtime23 (w : World) (A : Option Addr) (c : Nat) (xs : List UInt8) (hb : Byt w w.heap.size A xs) (hl : xs.length ≤ c) (hm : xs.length ≤ 140737488351232) :
    Calls Try.prog 31 #[.int .i64 2, .slice A xs.length c] w (TimePost w 23 xs) := by
  obtain ⟨L, hL⟩ : ∃ L, xs.length = L := ⟨_, rfl⟩
  rw [hL] at hl hm ⊢
  have HL0 := Lib.hid hL
  have HB := Lib.hid hb
  have HC := Lib.hid hl
  have hLI : (L : Int) ≤ 140737488351232 := by omega
  clear hb hL hl hm
  have HV := Lib.hid (show Whole (w.alloc (.cells #[.int .i64 0, .int .i64 0, .int .i64 0, .int .i64 0, .int .i64 0, .int .i64 0] 40)) w.heap.size #[.int .i64 0, .int .i64 0, .int .i64 0, .int .i64 0, .int .i64 0, .int .i64 0] 40 from Whole.new _ _ _)
  have HG := Lib.hid (show Grew w (w.alloc (.cells #[.int .i64 0, .int .i64 0, .int .i64 0, .int .i64 0, .int .i64 0, .int .i64 0] 40)) none from grew_alloc (grew_refl _ _) _)
  have HZ := Lib.hid (show (w.alloc (.cells #[.int .i64 0, .int .i64 0, .int .i64 0, .int .i64 0, .int .i64 0, .int .i64 0] 40)).heap.size = w.heap.size + 1 by simp)
  go_enter Try.func31, Try.ntmps31
  go_upto_region 1 with (fail)
  generalize w.alloc (.cells #[.int .i64 0, .int .i64 0, .int .i64 0, .int .i64 0, .int .i64 0, .int .i64 0] 40) = W at *
  obtain ⟨q, hq⟩ : ∃ q, w.heap.size = q := ⟨_, rfl⟩
  rw [hq] at HV HZ ⊢
  have HQ := Lib.hid hq
  have HBL := Lib.hid (show Below q w W from hq ▸ grew_below HG.out (Nat.le_refl _) (fun _ h => by cases h))
  clear hq HG
  by_cases hlen : L = 13
  · subst hlen
    obtain ⟨b, o, rfl, -, -⟩ := HB.out (by rw [HL0.out]; omega)
    have HBY := Lib.hid (show b < q ∧ ∀ W', Below q w W' → ∀ i, i < 13 → W'.cell? ⟨b, o + i, none⟩ = some (.int .u8 ((xs.getD i 0).toNat : Int)) from by
      obtain ⟨b', o', e', hb', hc⟩ := HB.out (by rw [HL0.out]; omega)
      cases e'
      rw [HQ.out] at hb'
      exact ⟨hb', fun W' hW i hi => (hW.cell (p := ⟨b, o + i, none⟩) hb').trans (hc i (by rw [HL0.out]; exact hi))⟩)
    obtain ⟨z, hz⟩ : ∃ z, (xs.getD 12 0).toNat = z := ⟨_, rfl⟩
    have cz : W.cell? ⟨b, o + 12, none⟩ = some (.int .u8 (z : Int)) := by have := HBY.out.2 W HBL.out 12 (by omega); rw [hz] at this; exact this
    by_cases hz90 : z = 90
    · subst hz90
      have HZZ := Lib.hid hz
      have HV2 := Lib.hid (show Tma w (W.alloc (.cells #[.int .i64 0, .int .i64 0, .int .i64 0, .int .i64 0, .int .i64 0, .int .i64 0] 40)) q (tmC 23 xs 0) from
        ⟨HV.out.grew (grew_alloc (grew_refl _ none) _) (by simp), Whole.new_of _ _ _ (HZ.out.symm), HBL.out.trans (grew_below (grew_alloc (grew_refl _ none) _) (by rw [HZ.out]; omega) (fun _ h => by cases h))⟩)
      have HZ2 := Lib.hid (show q + 1 < (W.alloc (.cells #[.int .i64 0, .int .i64 0, .int .i64 0, .int .i64 0, .int .i64 0, .int .i64 0] 40)).heap.size by simp; rw [HZ.out]; omega)
      have hWs : W.heap.size = q + 1 := HZ.out
      clear hz
      go_upto_region 5 with (fail)
      clear hWs cz
      generalize W.alloc (.cells #[.int .i64 0, .int .i64 0, .int .i64 0, .int .i64 0, .int .i64 0, .int .i64 0] 40) = W2 at *
      go_upto_region 7 with (fail)
      clear HV HBL HZ
      go_loopw [8, 9, 29] (fun bb ee i wr => ∃ (j B E : Nat), j ≤ 6 ∧ i = .int .i64 j ∧ bb = .int .i64 B ∧ ee = .int .i64 E ∧ Hid (B = bgn 2 j ∧ E = 2 + 2 * j) ∧ Hid (∀ k, k < j → 0 ≤ tyR 23 xs k) ∧ Hid (Tma w wr q (tmC 23 xs j)) ∧ Hid (q + 1 < wr.heap.size)) (fun _ _ i _ => 6 - (intOf i).toNat)
      case atStart => exact ⟨0, 0, 2, Nat.zero_le _, rfl, rfl, rfl, Lib.hid ⟨rfl, rfl⟩, Lib.hid (fun k h => by omega), HV2, HZ2⟩
      case round =>
        obtain ⟨j, B, E, hj, rfl, rfl, rfl, hBE, hpos, hT, hsz⟩ := hrel
        have hjI : (j : Int) ≤ 6 := by omega
        by_cases hlt : j < 6
        · have hltI : (j : Int) < 6 := by omega
          have hlen2 : B < E ∧ E ≤ 12 ∧ E - B ≤ 4 ∧ 0 < E - B := by
            obtain ⟨e1, e2⟩ := hBE.out
            unfold bgn at e1
            split at e1 <;> omega
          have hty : dgs ((xs.drop B).take (E - B)) = tyR 23 xs j := by
            obtain ⟨e1, e2⟩ := hBE.out
            unfold bgn at e1
            unfold tyR
            split at e1
            · rename_i h0
              rw [if_pos h0, e1, e2, h0]
              rfl
            · rename_i h0
              rw [if_neg h0]
              unfold tyP
              rw [show tyN 23 = 2 from rfl, show 2 + 2 * j - 2 = B from e1.symm, show E - B = 2 by omega]
          have hyl : ((xs.drop B).take (E - B)).length = E - B := by rw [List.length_take, List.length_drop, HL0.out]; omega
          have hsl := slice_at wr b o 13 c B E hlen2.1 (by have := HC.out; omega)
          have hdec := decimal_any wr (some ⟨b, o + B, none⟩) (c - B) ((xs.drop B).take (E - B)) (byt_sub (byt_below HB.out (HQ.out.symm ▸ hT.out.bel) (by rw [HQ.out]; exact Nat.le_refl _)) |> fun h => byt_up h (by rw [HQ.out]; have := hsz.out; omega)) (by rw [hyl]; exact hlen2.2.2.1)
          rw [hyl, hty] at hdec
          have HP := Lib.hid hlen2.2.2.2
          have hEI : (E : Int) ≤ 12 := by omega
          have HBE2 := Lib.hid (show E = bgn 2 (j + 1) ∧ E + 2 = 2 + 2 * (j + 1) by
            obtain ⟨e1, e2⟩ := hBE.out
            unfold bgn
            rw [if_neg (by omega)]
            omega)
          have hc0 := (hT.out.cur.cell j).trans (tmC_cell 23 xs j hlt)
          have hz0 := hT.out.cur.frozen j
          have HN := Lib.hid (tmC_next 23 xs j hlt)
          generalize hR : tyR 23 xs j = R at *
          have hRR := Lib.hid hR
          have HDEC := Lib.hid hdec
          clear hyl hty hlen2 hBE hdec hR
          by_cases hneg : 0 ≤ R
          · rw [if_pos hneg, decide_eq_true hneg] at HDEC
            have HT1 := Lib.hid (hT.out.store j (.int .i64 R))
            rw [HN.out] at HT1
            have hgo : Hid (∀ k, k < j + 1 → 0 ≤ tyR 23 xs k) := Lib.hid (fun k hk => by
              by_cases e : k = j
              · rw [e, hRR.out]; exact hneg
              · exact hpos.out k (by omega))
            have HS1 := Lib.hid (show q + 1 < (wr.setCell ⟨q + 1, j, none⟩ (.int .i64 R)).heap.size by have := hsz.out; simpa [World.setCell] using this)
            clear hneg hpos HN hT
            go_wp2_with fail
            refine HDEC.out.mono ?_
            rintro e w1 ⟨rfl, hw⟩
            obtain rfl : wr = w1 := hw.symm
            clear hw HDEC
            go_wp2_with fail
            go_roundw
            case rel => exact ⟨j + 1, E, E + 2, hlt, rfl, rfl, rfl, HBE2, hgo, HT1, HS1⟩
            case measure => simp [intOf]; omega
          · rw [if_neg hneg, decide_eq_false hneg] at HDEC
            have HNO := Lib.hid (tyok_neg hlt (by rw [hRR.out]; exact hneg))
            obtain ⟨⟨r0, r1, r2, r3, r4, r5⟩, hr0⟩ := res_cells hT.out.res
            clear hneg hpos HN hc0 hz0
            go_wp2_with fail
            refine HDEC.out.mono ?_
            rintro e w1 ⟨rfl, hw⟩
            obtain rfl : wr = w1 := hw.symm
            clear hw HDEC
            go_wp2_with fail
            exact rt_leave hT.out.res hT.out.bel 0 0 0 0 0 0 _ false rfl rfl rfl (fun hb => time_no HNO.out (by rw [HQ.out]; exact hb))
        · obtain rfl : j = 6 := by omega
          have hcur : Tma w wr q #[.int .i64 (tyR 23 xs 0), .int .i64 (tyR 23 xs 1), .int .i64 (tyR 23 xs 2), .int .i64 (tyR 23 xs 3), .int .i64 (tyR 23 xs 4), .int .i64 (tyR 23 xs 5)] := by
            have := hT.out
            simpa [tmC, tmc] using this
          have HOK := Lib.hid (tyok_eq (tag := 23) HL0.out HZZ.out hpos.out)
          clear hBE hj hlt hjI
          have hYB : 0 ≤ tyR 23 xs 0 ∧ tyR 23 xs 0 ≤ 99 := by
            refine ⟨hpos.out 0 (by omega), ?_⟩
            have := dgs_lt (xs.take 2)
            have h2 : (xs.take 2).length = 2 := by rw [List.length_take, HL0.out]; rfl
            rw [h2] at this
            have h3 : dgs (xs.take 2) < 100 := this
            show dgs (xs.take 2) ≤ 99
            omega
          have hwy := wholeyear_any wr (tyR 23 xs 0) hYB.1 hYB.2
          have hY0 : 0 ≤ tyY 23 (tyR 23 xs 0) := by unfold tyY; rw [if_pos rfl]; split <;> omega
          have HT3 := Lib.hid (hcur.store 0 (.int .i64 (tyY 23 (tyR 23 xs 0))))
          have HS3 := Lib.hid (show q + 1 < (wr.setCell ⟨q + 1, 0, none⟩ (.int .i64 (tyY 23 (tyR 23 xs 0)))).heap.size by have := hsz.out; simpa [World.setCell] using this)
          obtain ⟨⟨k0, k1, k2, k3, k4, k5⟩, hz0⟩ := hcur.cells
          have HW := Lib.hid hwy
          have HY0 := Lib.hid hY0
          have HY00 := Lib.hid hYB
          have HVV := Lib.hid (show tyV 23 xs 0 = tyY 23 (tyR 23 xs 0) from rfl)
          clear hcur hpos hT hwy hYB hsz hY0
          generalize tyR 23 xs 0 = v0 at *
          generalize tyY 23 v0 = Y at *
          go_wp2_with fail
          refine HW.out.mono ?_
          rintro e w1 ⟨rfl, hw⟩
          obtain rfl : wr = w1 := hw.symm
          clear hw HW
          go_upto_region 17 with (fail)
          clear k0 k1 k2 k3 k4 k5 hz0
          generalize wr.setCell ⟨q + 1, 0, none⟩ (.int .i64 Y) = W3 at *
          have HT4 := Lib.hid (show Tma w W3 q #[.int .i64 Y, .int .i64 (tyR 23 xs 1), .int .i64 (tyR 23 xs 2), .int .i64 (tyR 23 xs 3), .int .i64 (tyR 23 xs 4), .int .i64 (tyR 23 xs 5)] from HT3.out)
          clear HT3
          have hmo := ismoment_any W3 Y (tyR 23 xs 1) (tyR 23 xs 2) (tyR 23 xs 3) (tyR 23 xs 4) (tyR 23 xs 5) HY0.out
          have hrb : decide (1 ≤ tyR 23 xs 1 ∧ tyR 23 xs 1 ≤ 12 ∧ 1 ≤ tyR 23 xs 2 ∧ tyR 23 xs 2 ≤ dys Y (tyR 23 xs 1) ∧ tyR 23 xs 3 ≤ 23 ∧ tyR 23 xs 4 ≤ 59 ∧ tyR 23 xs 5 ≤ 59) = tyOk 23 xs := by rw [HOK.out, HVV.out]; rfl
          rw [hrb] at hmo
          have hly : tyL 23 xs = [Y, tyR 23 xs 1, tyR 23 xs 2, tyR 23 xs 3, tyR 23 xs 4, tyR 23 xs 5] := by unfold tyL; rw [HVV.out]; rfl
          have HLY := Lib.hid hly
          obtain ⟨⟨k0, k1, k2, k3, k4, k5⟩, hz0⟩ := HT4.out.cells
          have HMO := Lib.hid hmo
          clear hmo hrb hly HVV HOK
          generalize tyR 23 xs 1 = v1 at *
          generalize tyR 23 xs 2 = v2 at *
          generalize tyR 23 xs 3 = v3 at *
          generalize tyR 23 xs 4 = v4 at *
          generalize tyR 23 xs 5 = v5 at *
          obtain ⟨R, hR⟩ : ∃ R, tyOk 23 xs = R := ⟨_, rfl⟩
          rw [hR] at HMO
          have HRR := Lib.hid hR
          clear hR
          go_wp2_with fail
          refine HMO.out.mono ?_
          rintro e W4 ⟨rfl, hB4⟩
          have HT5 := Lib.hid (HT4.out.under hB4 HS3.out)
          clear k0 k1 k2 k3 k4 k5 hz0 HMO hB4 HT4 HS3
          obtain ⟨⟨k0, k1, k2, k3, k4, k5⟩, hz0⟩ := HT5.out.cells
          obtain ⟨⟨r0, r1, r2, r3, r4, r5⟩, hr0⟩ := res_cells HT5.out.res
          cases R with
          | false =>
            go_wp2_with fail
            exact rt_leave HT5.out.res HT5.out.bel 0 0 0 0 0 0 _ false rfl rfl rfl (fun hb => time_no HRR.out (by rw [HQ.out]; exact hb))
          | true =>
            go_wp2_with fail
            exact rt_leave HT5.out.res HT5.out.bel Y v1 v2 v3 v4 v5 _ true rfl rfl rfl (fun hb => ⟨by rw [HRR.out, HLY.out]; rfl, by rw [HQ.out]; exact hb⟩)
    · have hzf : ((z : Int) != 90) = true := bne_iff_ne.2 (by omega)
      have HNO := Lib.hid (tyok_z (tag := 23) (xs := xs) (by rw [show tyN 23 + 10 = 12 from rfl, hz]; exact hz90))
      obtain ⟨⟨r0, r1, r2, r3, r4, r5⟩, hr0⟩ := res_cells HV.out
      clear hz hz90
      go_wp2_with fail
      exact rt_leave HV.out HBL.out 0 0 0 0 0 0 _ false rfl rfl rfl (fun hb => time_no HNO.out (by rw [HQ.out]; exact hb))
  · have hlf : ((L : Int) != 13) = true := bne_iff_ne.2 (by omega)
    have HNO := Lib.hid (tyok_len (tag := 23) (xs := xs) (by rw [HL0.out]; exact hlen))
    obtain ⟨⟨r0, r1, r2, r3, r4, r5⟩, hr0⟩ := res_cells HV.out
    clear hlen
    go_wp2_with fail
    exact rt_leave HV.out HBL.out 0 0 0 0 0 0 _ false rfl rfl rfl (fun hb => time_no HNO.out (by rw [HQ.out]; exact hb))


set_option maxRecDepth 100000 in
set_option maxHeartbeats 4000000 in
theorem readtime24 (w : World) (A : Option Addr) (c : Nat) (xs : List UInt8) (hb : Byt w w.heap.size A xs) (hl : xs.length ≤ c) (hm : xs.length ≤ 140737488351232) :
    Calls Try.prog 31 #[.int .i64 4, .slice A xs.length c] w (TimePost w 24 xs) := by
  obtain ⟨L, hL⟩ : ∃ L, xs.length = L := ⟨_, rfl⟩
  rw [hL] at hl hm ⊢
  have HL0 := Lib.hid hL
  have HB := Lib.hid hb
  have HC := Lib.hid hl
  have hLI : (L : Int) ≤ 140737488351232 := by omega
  clear hb hL hl hm
  have HV := Lib.hid (show Whole (w.alloc (.cells #[.int .i64 0, .int .i64 0, .int .i64 0, .int .i64 0, .int .i64 0, .int .i64 0] 40)) w.heap.size #[.int .i64 0, .int .i64 0, .int .i64 0, .int .i64 0, .int .i64 0, .int .i64 0] 40 from Whole.new _ _ _)
  have HG := Lib.hid (show Grew w (w.alloc (.cells #[.int .i64 0, .int .i64 0, .int .i64 0, .int .i64 0, .int .i64 0, .int .i64 0] 40)) none from grew_alloc (grew_refl _ _) _)
  have HZ := Lib.hid (show (w.alloc (.cells #[.int .i64 0, .int .i64 0, .int .i64 0, .int .i64 0, .int .i64 0, .int .i64 0] 40)).heap.size = w.heap.size + 1 by simp)
  go_enter Try.func31, Try.ntmps31
  go_upto_region 1 with (fail)
  generalize w.alloc (.cells #[.int .i64 0, .int .i64 0, .int .i64 0, .int .i64 0, .int .i64 0, .int .i64 0] 40) = W at *
  obtain ⟨q, hq⟩ : ∃ q, w.heap.size = q := ⟨_, rfl⟩
  rw [hq] at HV HZ ⊢
  have HQ := Lib.hid hq
  have HBL := Lib.hid (show Below q w W from hq ▸ grew_below HG.out (Nat.le_refl _) (fun _ h => by cases h))
  clear hq HG
  by_cases hlen : L = 15
  · subst hlen
    obtain ⟨b, o, rfl, -, -⟩ := HB.out (by rw [HL0.out]; omega)
    have HBY := Lib.hid (show b < q ∧ ∀ W', Below q w W' → ∀ i, i < 15 → W'.cell? ⟨b, o + i, none⟩ = some (.int .u8 ((xs.getD i 0).toNat : Int)) from by
      obtain ⟨b', o', e', hb', hc⟩ := HB.out (by rw [HL0.out]; omega)
      cases e'
      rw [HQ.out] at hb'
      exact ⟨hb', fun W' hW i hi => (hW.cell (p := ⟨b, o + i, none⟩) hb').trans (hc i (by rw [HL0.out]; exact hi))⟩)
    obtain ⟨z, hz⟩ : ∃ z, (xs.getD 14 0).toNat = z := ⟨_, rfl⟩
    have cz : W.cell? ⟨b, o + 14, none⟩ = some (.int .u8 (z : Int)) := by have := HBY.out.2 W HBL.out 14 (by omega); rw [hz] at this; exact this
    by_cases hz90 : z = 90
    · subst hz90
      have HZZ := Lib.hid hz
      have HV2 := Lib.hid (show Tma w (W.alloc (.cells #[.int .i64 0, .int .i64 0, .int .i64 0, .int .i64 0, .int .i64 0, .int .i64 0] 40)) q (tmC 24 xs 0) from
        ⟨HV.out.grew (grew_alloc (grew_refl _ none) _) (by simp), Whole.new_of _ _ _ (HZ.out.symm), HBL.out.trans (grew_below (grew_alloc (grew_refl _ none) _) (by rw [HZ.out]; omega) (fun _ h => by cases h))⟩)
      have HZ2 := Lib.hid (show q + 1 < (W.alloc (.cells #[.int .i64 0, .int .i64 0, .int .i64 0, .int .i64 0, .int .i64 0, .int .i64 0] 40)).heap.size by simp; rw [HZ.out]; omega)
      have hWs : W.heap.size = q + 1 := HZ.out
      clear hz
      go_upto_region 5 with (fail)
      clear hWs cz
      generalize W.alloc (.cells #[.int .i64 0, .int .i64 0, .int .i64 0, .int .i64 0, .int .i64 0, .int .i64 0] 40) = W2 at *
      go_upto_region 7 with (fail)
      clear HV HBL HZ
      go_loopw [8, 9, 29] (fun bb ee i wr => ∃ (j B E : Nat), j ≤ 6 ∧ i = .int .i64 j ∧ bb = .int .i64 B ∧ ee = .int .i64 E ∧ Hid (B = bgn 4 j ∧ E = 4 + 2 * j) ∧ Hid (∀ k, k < j → 0 ≤ tyR 24 xs k) ∧ Hid (Tma w wr q (tmC 24 xs j)) ∧ Hid (q + 1 < wr.heap.size)) (fun _ _ i _ => 6 - (intOf i).toNat)
      case atStart => exact ⟨0, 0, 4, Nat.zero_le _, rfl, rfl, rfl, Lib.hid ⟨rfl, rfl⟩, Lib.hid (fun k h => by omega), HV2, HZ2⟩
      case round =>
        obtain ⟨j, B, E, hj, rfl, rfl, rfl, hBE, hpos, hT, hsz⟩ := hrel
        have hjI : (j : Int) ≤ 6 := by omega
        by_cases hlt : j < 6
        · have hltI : (j : Int) < 6 := by omega
          have hlen2 : B < E ∧ E ≤ 14 ∧ E - B ≤ 4 ∧ 0 < E - B := by
            obtain ⟨e1, e2⟩ := hBE.out
            unfold bgn at e1
            split at e1 <;> omega
          have hty : dgs ((xs.drop B).take (E - B)) = tyR 24 xs j := by
            obtain ⟨e1, e2⟩ := hBE.out
            unfold bgn at e1
            unfold tyR
            split at e1
            · rename_i h0
              rw [if_pos h0, e1, e2, h0]
              rfl
            · rename_i h0
              rw [if_neg h0]
              unfold tyP
              rw [show tyN 24 = 4 from rfl, show 4 + 2 * j - 2 = B from e1.symm, show E - B = 2 by omega]
          have hyl : ((xs.drop B).take (E - B)).length = E - B := by rw [List.length_take, List.length_drop, HL0.out]; omega
          have hsl := slice_at wr b o 15 c B E hlen2.1 (by have := HC.out; omega)
          have hdec := decimal_any wr (some ⟨b, o + B, none⟩) (c - B) ((xs.drop B).take (E - B)) (byt_sub (byt_below HB.out (HQ.out.symm ▸ hT.out.bel) (by rw [HQ.out]; exact Nat.le_refl _)) |> fun h => byt_up h (by rw [HQ.out]; have := hsz.out; omega)) (by rw [hyl]; exact hlen2.2.2.1)
          rw [hyl, hty] at hdec
          have HP := Lib.hid hlen2.2.2.2
          have hEI : (E : Int) ≤ 14 := by omega
          have HBE2 := Lib.hid (show E = bgn 4 (j + 1) ∧ E + 2 = 4 + 2 * (j + 1) by
            obtain ⟨e1, e2⟩ := hBE.out
            unfold bgn
            rw [if_neg (by omega)]
            omega)
          have hc0 := (hT.out.cur.cell j).trans (tmC_cell 24 xs j hlt)
          have hz0 := hT.out.cur.frozen j
          have HN := Lib.hid (tmC_next 24 xs j hlt)
          generalize hR : tyR 24 xs j = R at *
          have hRR := Lib.hid hR
          have HDEC := Lib.hid hdec
          clear hyl hty hlen2 hBE hdec hR
          by_cases hneg : 0 ≤ R
          · rw [if_pos hneg, decide_eq_true hneg] at HDEC
            have HT1 := Lib.hid (hT.out.store j (.int .i64 R))
            rw [HN.out] at HT1
            have hgo : Hid (∀ k, k < j + 1 → 0 ≤ tyR 24 xs k) := Lib.hid (fun k hk => by
              by_cases e : k = j
              · rw [e, hRR.out]; exact hneg
              · exact hpos.out k (by omega))
            have HS1 := Lib.hid (show q + 1 < (wr.setCell ⟨q + 1, j, none⟩ (.int .i64 R)).heap.size by have := hsz.out; simpa [World.setCell] using this)
            clear hneg hpos HN hT
            go_wp2_with fail
            refine HDEC.out.mono ?_
            rintro e w1 ⟨rfl, hw⟩
            obtain rfl : wr = w1 := hw.symm
            clear hw HDEC
            go_wp2_with fail
            go_roundw
            case rel => exact ⟨j + 1, E, E + 2, hlt, rfl, rfl, rfl, HBE2, hgo, HT1, HS1⟩
            case measure => simp [intOf]; omega
          · rw [if_neg hneg, decide_eq_false hneg] at HDEC
            have HNO := Lib.hid (tyok_neg hlt (by rw [hRR.out]; exact hneg))
            obtain ⟨⟨r0, r1, r2, r3, r4, r5⟩, hr0⟩ := res_cells hT.out.res
            clear hneg hpos HN hc0 hz0
            go_wp2_with fail
            refine HDEC.out.mono ?_
            rintro e w1 ⟨rfl, hw⟩
            obtain rfl : wr = w1 := hw.symm
            clear hw HDEC
            go_wp2_with fail
            exact rt_leave hT.out.res hT.out.bel 0 0 0 0 0 0 _ false rfl rfl rfl (fun hb => time_no HNO.out (by rw [HQ.out]; exact hb))
        · obtain rfl : j = 6 := by omega
          have hcur : Tma w wr q #[.int .i64 (tyR 24 xs 0), .int .i64 (tyR 24 xs 1), .int .i64 (tyR 24 xs 2), .int .i64 (tyR 24 xs 3), .int .i64 (tyR 24 xs 4), .int .i64 (tyR 24 xs 5)] := by
            have := hT.out
            simpa [tmC, tmc] using this
          have HOK := Lib.hid (tyok_eq (tag := 24) HL0.out HZZ.out hpos.out)
          clear hBE hj hlt hjI
          have HT4 := Lib.hid hcur
          have HY0 := Lib.hid (hpos.out 0 (by omega))
          have HS3 := Lib.hid hsz.out
          have HVV := Lib.hid (show tyV 24 xs 0 = tyR 24 xs 0 from rfl)
          clear hcur hpos hT hsz
          generalize tyR 24 xs 0 = Y at *
          go_upto_region 17 with (fail)
          obtain ⟨W3, hW3⟩ : ∃ W3, W3 = wr := ⟨_, rfl⟩
          subst hW3
          have hmo := ismoment_any W3 Y (tyR 24 xs 1) (tyR 24 xs 2) (tyR 24 xs 3) (tyR 24 xs 4) (tyR 24 xs 5) HY0.out
          have hrb : decide (1 ≤ tyR 24 xs 1 ∧ tyR 24 xs 1 ≤ 12 ∧ 1 ≤ tyR 24 xs 2 ∧ tyR 24 xs 2 ≤ dys Y (tyR 24 xs 1) ∧ tyR 24 xs 3 ≤ 23 ∧ tyR 24 xs 4 ≤ 59 ∧ tyR 24 xs 5 ≤ 59) = tyOk 24 xs := by rw [HOK.out, HVV.out]; rfl
          rw [hrb] at hmo
          have hly : tyL 24 xs = [Y, tyR 24 xs 1, tyR 24 xs 2, tyR 24 xs 3, tyR 24 xs 4, tyR 24 xs 5] := by unfold tyL; rw [HVV.out]; rfl
          have HLY := Lib.hid hly
          obtain ⟨⟨k0, k1, k2, k3, k4, k5⟩, hz0⟩ := HT4.out.cells
          have HMO := Lib.hid hmo
          clear hmo hrb hly HVV HOK
          generalize tyR 24 xs 1 = v1 at *
          generalize tyR 24 xs 2 = v2 at *
          generalize tyR 24 xs 3 = v3 at *
          generalize tyR 24 xs 4 = v4 at *
          generalize tyR 24 xs 5 = v5 at *
          obtain ⟨R, hR⟩ : ∃ R, tyOk 24 xs = R := ⟨_, rfl⟩
          rw [hR] at HMO
          have HRR := Lib.hid hR
          clear hR
          go_wp2_with fail
          refine HMO.out.mono ?_
          rintro e W4 ⟨rfl, hB4⟩
          have HT5 := Lib.hid (HT4.out.under hB4 HS3.out)
          clear k0 k1 k2 k3 k4 k5 hz0 HMO hB4 HT4 HS3
          obtain ⟨⟨k0, k1, k2, k3, k4, k5⟩, hz0⟩ := HT5.out.cells
          obtain ⟨⟨r0, r1, r2, r3, r4, r5⟩, hr0⟩ := res_cells HT5.out.res
          cases R with
          | false =>
            go_wp2_with fail
            exact rt_leave HT5.out.res HT5.out.bel 0 0 0 0 0 0 _ false rfl rfl rfl (fun hb => time_no HRR.out (by rw [HQ.out]; exact hb))
          | true =>
            go_wp2_with fail
            exact rt_leave HT5.out.res HT5.out.bel Y v1 v2 v3 v4 v5 _ true rfl rfl rfl (fun hb => ⟨by rw [HRR.out, HLY.out]; rfl, by rw [HQ.out]; exact hb⟩)
    · have hzf : ((z : Int) != 90) = true := bne_iff_ne.2 (by omega)
      have HNO := Lib.hid (tyok_z (tag := 24) (xs := xs) (by rw [show tyN 24 + 10 = 14 from rfl, hz]; exact hz90))
      obtain ⟨⟨r0, r1, r2, r3, r4, r5⟩, hr0⟩ := res_cells HV.out
      clear hz hz90
      go_wp2_with fail
      exact rt_leave HV.out HBL.out 0 0 0 0 0 0 _ false rfl rfl rfl (fun hb => time_no HNO.out (by rw [HQ.out]; exact hb))
  · have hlf : ((L : Int) != 15) = true := bne_iff_ne.2 (by omega)
    have HNO := Lib.hid (tyok_len (tag := 24) (xs := xs) (by rw [HL0.out]; exact hlen))
    obtain ⟨⟨r0, r1, r2, r3, r4, r5⟩, hr0⟩ := res_cells HV.out
    clear hlen
    go_wp2_with fail
    exact rt_leave HV.out HBL.out 0 0 0 0 0 0 _ false rfl rfl rfl (fun hb => time_no HNO.out (by rw [HQ.out]; exact hb))

end Go.Proofs.Ytnegakobammljaa

