/- Arcs: the package's own. -/
import Derived.Test.YtnegakobammljaaTr7
import Derived.Test.YtnegakobammljaaNb
import Derived.Laws.BitsAllLaws
namespace Go.Proofs.Ytnegakobammljaa
open Go.RowKit

/-- 'append' of two numbers, in new memory, to a row of numbers. -/
theorem app64_two (w : World) {v : Value} {n : Nat} {ns : List Nat} (own : w.ownsRow 0 47 1 v n (cells64 ns)) (hn : n ≤ 2199023255552) (x y : Nat) (B : Nat) (hB : B ≤ w.heap.size) (hv : ∀ k, v.ownBlock = some k → B ≤ k) :
    ∀ ty, ∃ v' w', (Builtin.append_ #[32, 32] ty #[v, .slice (some ⟨w.heap.size, 0, none⟩) 2 2]).run Try.prog (w.alloc (.cells #[.int .u64 (x : Int), .int .u64 (y : Int)] 47)) = .ok v' w' ∧
      (w'.ownsRow 0 47 1 v' (n + 2) (cells64 (ns ++ [x, y])) ∧ Below B w w' ∧ B ≤ w'.heap.size ∧ ∀ k, v'.ownBlock = some k → B ≤ k) := fun ty => by
  obtain ⟨i, hi, hz⟩ := Option.map_eq_some_iff.1 info_u64
  simp only [Prod.mk.injEq] at hz
  obtain ⟨hz0, hz1, hz2⟩ := hz
  have own2 := own_fr own ((Fr.refl w (fun _ => False)).alloc (.cells #[.int .u64 (x : Int), .int .u64 (y : Int)] 47)) (fun _ _ h => h)
  have hw := Whole.new w #[.int .u64 (x : Int), .int .u64 (y : Int)] 47
  obtain ⟨v', w', hr, h2, h3, _, h5⟩ := run_append_own_at (P := Try.prog) (w.alloc (.cells #[.int .u64 (x : Int), .int .u64 (y : Int)] 47)) 0 32 ty 47 i (.int .u64 0) 1 8 Try.underlying32 hi hz0 hz1 hz2 rfl (by omega) v n (cells64 ns) own2
    ⟨w.heap.size, 0, none⟩ 2 2 (cells64 [x, y]) rfl (fun j u hu => by
      match j, hu with
      | 0, hu =>
        have : u = .int .u64 (x : Int) := by simpa [cells64] using hu.symm
        subst this
        show (w.alloc _).cell? ⟨w.heap.size, 0, none⟩ = _
        rw [hw.cell]
        rfl
      | 1, hu =>
        have : u = .int .u64 (y : Int) := by simpa [cells64] using hu.symm
        subst this
        show (w.alloc _).cell? ⟨w.heap.size, 1, none⟩ = _
        rw [hw.cell]
        rfl
      | j + 2, hu => simp [cells64] at hu) (fun u hu => by simp [cells64] at hu; rcases hu with rfl | rfl <;> rfl) (by unfold maxLen; omega) (by omega) (Nat.zero_le _)
  refine ⟨v', w', hr, by rw [cells64_append]; exact h2, ?_, ?_, ?_⟩
  · exact ((Below.refl B w).alloc hB _).trans (grew_below h3 (by simp; omega) hv)
  · have := h3.size
    simp at this
    omega
  · intro k hk
    rcases h5 with e | e
    · exact hv k (by rw [← e]; exact hk)
    · rw [hk] at e; simp at e; omega

/-- A number behind an identifier's. -/
def nxA (ns : List Nat) (x : Nat) : List Nat := ns ++ (if ns = [] then arH x else [x])

set_option maxRecDepth 100000 in
set_option maxHeartbeats 1000000 in
theorem apparc_any (w : World) (v : Value) (ns : List Nat) (own : w.ownsRow 0 47 1 v ns.length (cells64 ns)) (hn : ns.length ≤ 2199023255552) (x : Nat) (hx : x < 9223372036854775808) (B : Nat) (hB : B ≤ w.heap.size) (hv : ∀ k, v.ownBlock = some k → B ≤ k) :
    Calls Try.prog 28 #[v, .int .u64 (x : Int)] w fun e w' => ∃ v', e = .returned v' ∧ w'.ownsRow 0 47 1 v' (nxA ns x).length (cells64 (nxA ns x)) ∧ Below B w w' ∧ B ≤ w'.heap.size ∧ ∀ k, v'.ownBlock = some k → B ≤ k := by
  obtain ⟨-, A, c, rfl⟩ := own64_form own
  by_cases h0 : ns = []
  · subst h0
    have h2 := fun (a b : Nat) => app64_two w own hn a b B hB hv
    have H2 := Lib.hid h2
    have hR : ∀ a b : Nat, arH x = [a, b] → nxA [] x = [a, b] := fun a b h => by unfold nxA; rw [if_pos rfl, h]; rfl
    have HRR := Lib.hid hR
    clear own hv h2 hR hn
    show Calls Try.prog 28 #[.slice A 0 c, .int .u64 (x : Int)] w _
    by_cases g4 : x < 40
    · have e1 : (x : Int) / 40 = 0 := by omega
      have HX := Lib.hid (HRR.out 0 x (by unfold arH; rw [if_pos g4]))
      have HH := Lib.hid (H2.out 0 x)
      have hxI : (x : Int) < 40 := by omega
      rw [HX.out]
      clear H2 HRR g4
      go_enter Try.func28, Try.ntmps28
      go_wp2_with (at_builtin; refine wpList_append_run _ rfl (.tmp 16) (.tmp 22) 32 rfl rfl rfl HH.out ?_; rintro v2 w2 a2; have A2 := Lib.hid a2; clear a2 HH)
      go_ret
      exact ⟨_, rfl, A2.out⟩
    · by_cases g5 : x < 80
      · obtain ⟨Z, hZ⟩ : ∃ Z, x - 40 = Z := ⟨_, rfl⟩
        have e1 : (x : Int) / 40 = 1 := by omega
        have e2 : (x : Int) - 40 = (Z : Int) := by omega
        have HX := Lib.hid (HRR.out 1 Z (by unfold arH; rw [if_neg g4, if_pos g5, hZ]))
        have HH := Lib.hid (H2.out 1 Z)
        have hxI : (x : Int) < 80 := by omega
        have hZI : 0 ≤ (Z : Int) := by omega
        rw [HX.out]
        clear H2 HRR g4 g5 hZ
        go_enter Try.func28, Try.ntmps28
        go_wp2_with (at_builtin; refine wpList_append_run _ rfl (.tmp 16) (.tmp 22) 32 rfl rfl rfl HH.out ?_; rintro v2 w2 a2; have A2 := Lib.hid a2; clear a2 HH)
        go_ret
        exact ⟨_, rfl, A2.out⟩
      · obtain ⟨Z, hZ⟩ : ∃ Z, x - 80 = Z := ⟨_, rfl⟩
        obtain ⟨D, hD⟩ : ∃ D, (x : Int) / 40 = D := ⟨_, rfl⟩
        have e2 : (x : Int) - 80 = (Z : Int) := by omega
        have hD2 : 2 ≤ D := by omega
        have HX := Lib.hid (HRR.out 2 Z (by unfold arH; rw [if_neg g4, if_neg g5, hZ]))
        have HH := Lib.hid (H2.out 2 Z)
        have hZI : 0 ≤ (Z : Int) := by omega
        have hZJ : (Z : Int) < 9223372036854775808 := by omega
        rw [HX.out]
        clear H2 HRR g4 g5 hZ
        by_cases hDe : D = 2
        · subst hDe
          go_enter Try.func28, Try.ntmps28
          go_wp2_with (at_builtin; refine wpList_append_run _ rfl (.tmp 16) (.tmp 22) 32 rfl rfl rfl HH.out ?_; rintro v2 w2 a2; have A2 := Lib.hid a2; clear a2 HH)
          go_ret
          exact ⟨_, rfl, A2.out⟩
        · have hDl : 2 < D := by omega
          go_enter Try.func28, Try.ntmps28
          go_wp2_with (at_builtin; refine wpList_append_run _ rfl (.tmp 16) (.tmp 22) 32 rfl rfl rfl HH.out ?_; rintro v2 w2 a2; have A2 := Lib.hid a2; clear a2 HH)
          go_ret
          exact ⟨_, rfl, A2.out⟩
  · have hn0 : 0 < (ns.length : Int) := by have : 0 < ns.length := List.length_pos_iff.2 h0; omega
    have hR : nxA ns x = ns ++ [x] := by unfold nxA; rw [if_neg h0]
    have HA := Lib.hid (app64_one w own hn x B hB hv)
    rw [hR]
    clear own hv h0 hR
    obtain ⟨L, hL⟩ : ∃ L, ns.length = L := ⟨_, rfl⟩
    rw [hL] at HA hn0 hn ⊢
    have HL := Lib.hid hL
    clear hL
    go_enter Try.func28, Try.ntmps28
    go_wp2_with (at_builtin; refine wpList_append_run _ rfl (.tmp 9) (.tmp 11) 32 rfl rfl rfl HA.out ?_; rintro v2 w2 a2; have A2 := Lib.hid a2; clear a2 HA)
    go_ret
    exact ⟨_, rfl, by rw [List.length_append, HL.out]; exact A2.out⟩

theorem or7 (x d : Nat) (hx : x < 72057594037927936) (hd : d < 128) : bits .or .u64 ((x : Int) * 128) (d : Int) = ((128 * x + d : Nat) : Int) := by
  have e : ((x : Int) * 128) = ((x * 128 : Nat) : Int) := by push_cast; rfl
  rw [e, u64_or_nat _ _ (by omega) (by omega), nat_join 7 _ _ (by omega) (by omega)]
  omega

set_option maxRecDepth 100000 in
set_option maxHeartbeats 4000000 in
theorem arcs_any (w : World) (A : Option Addr) (c : Nat) (xs : List UInt8) (hb : Byt w w.heap.size A xs) (hl : xs.length ≤ 1099511627776) :
    Calls Try.prog 14 #[.slice A xs.length c] w fun e w' => ∃ v, e = .returned (.tuple #[v, .int .i64 (arE xs)]) ∧ w'.ownsRow 0 47 1 v (arR xs).length (cells64 (arR xs)) ∧ Below w.heap.size w w' := by
  have hck := isoid_any w A c xs hb (by omega)
  obtain ⟨L, hL⟩ : ∃ L, xs.length = L := ⟨_, rfl⟩
  rw [hL] at hck hl ⊢
  have HL := Lib.hid hL
  have HB := Lib.hid hb
  have HC := Lib.hid hl
  clear hb hL hl
  cases hv : ob xs with
  | false =>
    rw [hv] at hck
    have HE := Lib.hid (show arE xs = 13 by unfold arE; rw [hv]; rfl)
    have HR := Lib.hid (show arR xs = [] by unfold arR; rw [HE.out]; rfl)
    rw [HE.out, HR.out]
    clear hv
    go_enter Try.func14, Try.ntmps14
    go_wp2_with fail
    refine hck.mono ?_
    rintro e w' ⟨rfl, hw⟩
    obtain rfl : w = w' := hw.symm
    clear hw
    go_wp2_with fail
    go_ret2
    exact ⟨_, rfl, ⟨rfl, .inl ⟨rfl, rfl⟩⟩, Below.refl _ _⟩
  | true =>
    rw [hv] at hck
    have HV := Lib.hid hv
    obtain ⟨q, hq⟩ : ∃ q, w.heap.size = q := ⟨_, rfl⟩
    have HQ := Lib.hid hq
    rw [hq]
    clear hv
    go_enter Try.func14, Try.ntmps14
    go_wp2_with fail
    refine hck.mono ?_
    rintro e W ⟨rfl, hw⟩
    obtain rfl : w = W := hw.symm
    have BW := Lib.hid (show Below q w w ∧ q ≤ w.heap.size from ⟨Below.refl _ _, by rw [hq]; exact Nat.le_refl _⟩)
    clear hw hck hq
    go_wp2_with fail
    go_loopw [4, 5, 13] (fun v t i wr => ∃ (j x : Nat) (ns : List Nat), j ≤ L ∧ x < 9223372036854775808 ∧ i = .int .i64 j ∧ t = .int .u64 (x : Int) ∧ Hid (wr.ownsRow 0 47 1 v ns.length (cells64 ns) ∧ ∀ k, v.ownBlock = some k → q ≤ k) ∧ Hid (ns.length ≤ j + 1 ∧ arF 0 [] xs = arF x ns (xs.drop j)) ∧ Hid (Below q w wr ∧ q ≤ wr.heap.size)) (fun _ _ i _ => L - (intOf i).toNat)
    case atStart => exact ⟨0, 0, [], Nat.zero_le _, by omega, rfl, rfl, Lib.hid ⟨⟨rfl, .inl ⟨rfl, rfl⟩⟩, fun k hk => by cases hk⟩, Lib.hid ⟨Nat.zero_le _, rfl⟩, BW⟩
    case round =>
      clear BW
      obtain ⟨j, x, ns, hj, hx, rfl, rfl, hown, hns, hBw⟩ := hrel
      obtain ⟨-, A5, c5, rfl⟩ := own64_form hown.out.1
      have hxI : (x : Int) < 9223372036854775808 := by omega
      have HX := Lib.hid hx
      clear hx
      by_cases hlt : j < L
      · obtain ⟨b, o, rfl, -, -⟩ := HB.out (by rw [HL.out]; omega)
        obtain ⟨y, hy⟩ : ∃ y, xs.getD j 0 = y := ⟨_, rfl⟩
        obtain ⟨d, hd⟩ : ∃ d, y.toNat = d := ⟨_, rfl⟩
        have hd256 : d < 256 := by rw [← hd]; exact y.toNat_lt
        have c1 : wr.cell? ⟨b, o + j, none⟩ = some (.int .u8 (d : Int)) := by
          obtain ⟨b', o', e', hb', hc⟩ := HB.out (by rw [HL.out]; omega)
          cases e'
          rw [hBw.out.1.cell (p := ⟨b, o + j, none⟩) (by show b < q; rw [← HQ.out]; exact hb'), hc j (by rw [HL.out]; exact hlt), hy, hd]
        have hst : arF 0 [] xs = if 72057594037927936 ≤ x then none else if 128 ≤ d then arF (128 * x + d % 128) ns (xs.drop (j + 1)) else arF 0 (nxA ns (128 * x + d % 128)) (xs.drop (j + 1)) := by
          rw [hns.out.2, getD_take_drop (by rw [HL.out]; exact hlt), hy, ← hd]
          rfl
        have HST := Lib.hid hst
        have HNL := Lib.hid hns.out.1
        have hjI : (j : Int) ≤ 1099511627776 := by have := HC.out; omega
        clear hy hd hst hns
        by_cases g1 : 72057594037927936 ≤ x
        · have g1' : 72057594037927935 < (x : Int) := by omega
          have HE := Lib.hid (show arE xs = 3 by unfold arE; rw [HV.out, HST.out, if_pos g1]; rfl)
          have HR := Lib.hid (show arR xs = [] by unfold arR; rw [HE.out]; rfl)
          clear g1
          go_wp2_with fail
          go_ret2
          exact ⟨_, by rw [HE.out]; rfl, by rw [HR.out]; exact ⟨rfl, .inl ⟨rfl, rfl⟩⟩, hBw.out.1⟩
        · have g1' : ¬ 72057594037927935 < (x : Int) := by omega
          have HST1 := Lib.hid (show arF 0 [] xs = if 128 ≤ d then arF (128 * x + d % 128) ns (xs.drop (j + 1)) else arF 0 (nxA ns (128 * x + d % 128)) (xs.drop (j + 1)) by rw [HST.out, if_neg g1])
          obtain ⟨t, ht⟩ : ∃ t, d % 128 = t := ⟨_, rfl⟩
          obtain ⟨Y, hY⟩ : ∃ Y, 128 * x + d % 128 = Y := ⟨_, rfl⟩
          have hYb : Y < 9223372036854775808 := by omega
          have HYB := Lib.hid hYb
          have u1 : IntKind.u64.wrap ((x : Int) * 128) = (x : Int) * 128 := IntWalk.u64_in _ (by omega)
          have u0 : (d : Int) % 128 = (t : Int) := by clear u1; omega
          have u2 : IntKind.u64.wrap (t : Int) = (t : Int) := IntWalk.u64_in _ (by clear u1; omega)
          have u3 : bits .or .u64 ((x : Int) * 128) (t : Int) = (Y : Int) := by
            rw [or7 x t (by clear u1 u0 u2; omega) (by clear u1 u0 u2; omega), ht.symm, hY]
          rw [hY] at HST1
          have HY := Lib.hid hY
          clear g1 hY hYb HST HX hxI ht
          by_cases g2 : 128 ≤ d
          · have g2' : ¬ (d : Int) < 128 := by omega
            have HN := Lib.hid (show arF 0 [] xs = arF Y ns (xs.drop (j + 1)) by rw [HST1.out, if_pos g2])
            clear g2
            go_wp2_with fail
            go_roundw
            case rel => exact ⟨j + 1, Y, ns, hlt, HYB.out, rfl, rfl, hown, Lib.hid ⟨by have := HNL.out; omega, HN.out⟩, hBw⟩
            case measure => simp [intOf]; omega
          · have g2' : (d : Int) < 128 := by omega
            have HN := Lib.hid (show arF 0 [] xs = arF 0 (nxA ns Y) (xs.drop (j + 1)) by rw [HST1.out, if_neg g2])
            have hap := apparc_any wr (.slice A5 ns.length c5) ns hown.out.1 (by have := HNL.out; have := HC.out; omega) Y HYB.out q hBw.out.2 hown.out.2
            have HLN := Lib.hid (show (nxA ns Y).length ≤ j + 1 + 1 by
              unfold nxA
              by_cases h0 : ns = []
              · rw [if_pos h0, h0, List.nil_append]
                unfold arH
                split
                · simp
                · split <;> simp
              · rw [if_neg h0]
                have := HNL.out
                simp
                omega)
            have HAP := Lib.hid hap
            clear g2 HST1 hap
            go_wp2_with fail
            refine HAP.out.mono ?_
            rintro e w2 ⟨v2, rfl, k1, k2, k3, k4⟩
            have K := Lib.hid (And.intro k1 (And.intro k2 (And.intro k3 k4)))
            clear k1 k2 k3 k4 HAP
            go_wp2_with fail
            go_roundw
            case rel => exact ⟨j + 1, 0, nxA ns Y, hlt, by omega, rfl, rfl, Lib.hid ⟨K.out.1, K.out.2.2.2⟩, Lib.hid ⟨HLN.out, HN.out⟩, Lib.hid ⟨hBw.out.1.trans K.out.2.1, K.out.2.2.1⟩⟩
            case measure => simp [intOf]; omega
      · obtain rfl : j = L := by omega
        have hz : arF 0 [] xs = some ns := by rw [hns.out.2, List.drop_of_length_le (by rw [HL.out]; exact Nat.le_refl _)]; rfl
        have HE := Lib.hid (show arE xs = 0 by unfold arE; rw [HV.out, hz]; rfl)
        have HR := Lib.hid (show arR xs = ns by unfold arR; rw [HE.out, hz]; rfl)
        clear hns hz
        go_wp2_with fail
        go_ret2
        exact ⟨_, by rw [HE.out]; rfl, by rw [HR.out]; exact hown.out.1, hBw.out.1⟩
end Go.Proofs.Ytnegakobammljaa

