/- The document's own answers of layer 10: Arcs (of as many bytes as memory may hold the numbers of). -/
import Derived.Test.YtnegakobammljaaTr5
namespace Go.Proofs.Ytnegakobammljaa
open Go.RowKit

/-- The cells of numbers. -/
def cells64 (ns : List Nat) : List Value := ns.map fun (n : Nat) => .int .u64 (n : Int)
theorem cells64_length (ns : List Nat) : (cells64 ns).length = ns.length := by simp [cells64]
theorem cells64_append (ns ms : List Nat) : cells64 (ns ++ ms) = cells64 ns ++ cells64 ms := by simp [cells64]
set_option maxRecDepth 100000 in
theorem info_u64 : (Try.prog.info? 47).map (fun i => (i.zero, i.size, i.bytes)) = some (some (.int .u64 0), 1, 8) := by kernel_rfl
theorem own64_form {w : World} {v : Value} {n : Nat} {ns : List Nat} (h : w.ownsRow 0 47 1 v n (cells64 ns)) : n = ns.length ∧ ∃ A c, v = .slice A n c := by
  have hl := h.1
  rw [cells64_length] at hl
  refine ⟨by omega, ?_⟩
  rcases h.2 with ⟨rfl, rfl⟩ | ⟨g, cap, cur, rfl, _⟩
  · exact ⟨none, 0, rfl⟩
  · exact ⟨_, _, rfl⟩

/-- 'append' of one number, in new memory, to a row of numbers. -/
theorem app64_one (w : World) {v : Value} {n : Nat} {ns : List Nat} (own : w.ownsRow 0 47 1 v n (cells64 ns)) (hn : n ≤ 2199023255552) (x : Nat) (B : Nat) (hB : B ≤ w.heap.size) (hv : ∀ k, v.ownBlock = some k → B ≤ k) :
    ∀ ty, ∃ v' w', (Builtin.append_ #[32, 32] ty #[v, .slice (some ⟨w.heap.size, 0, none⟩) 1 1]).run Try.prog (w.alloc (.cells #[.int .u64 (x : Int)] 47)) = .ok v' w' ∧
      (w'.ownsRow 0 47 1 v' (n + 1) (cells64 (ns ++ [x])) ∧ Below B w w' ∧ B ≤ w'.heap.size ∧ ∀ k, v'.ownBlock = some k → B ≤ k) := fun ty => by
  obtain ⟨i, hi, hz⟩ := Option.map_eq_some_iff.1 info_u64
  simp only [Prod.mk.injEq] at hz
  obtain ⟨hz0, hz1, hz2⟩ := hz
  have own2 := own_fr own ((Fr.refl w (fun _ => False)).alloc (.cells #[.int .u64 (x : Int)] 47)) (fun _ _ h => h)
  have hw := Whole.new w #[.int .u64 (x : Int)] 47
  obtain ⟨v', w', hr, h2, h3, _, h5⟩ := run_append_own_at (P := Try.prog) (w.alloc (.cells #[.int .u64 (x : Int)] 47)) 0 32 ty 47 i (.int .u64 0) 1 8 Try.underlying32 hi hz0 hz1 hz2 rfl (by omega) v n (cells64 ns) own2
    ⟨w.heap.size, 0, none⟩ 1 1 (cells64 [x]) rfl (fun j u hu => by
      match j, hu with
      | 0, hu =>
        have : u = .int .u64 (x : Int) := by simpa [cells64] using hu.symm
        subst this
        show (w.alloc _).cell? ⟨w.heap.size, 0, none⟩ = _
        rw [hw.cell]
        rfl
      | j + 1, hu => simp [cells64] at hu) (fun u hu => by simp [cells64] at hu; subst hu; rfl) (by unfold maxLen; omega) (by omega) (Nat.zero_le _)
  refine ⟨v', w', hr, by rw [cells64_append]; exact h2, ?_, ?_, ?_⟩
  · exact ((Below.refl B w).alloc hB _).trans (grew_below h3 (by simp; omega) hv)
  · have := h3.size
    simp at this
    omega
  · intro k hk
    rcases h5 with e | e
    · exact hv k (by rw [← e]; exact hk)
    · rw [hk] at e; simp at e; omega

set_option maxRecDepth 100000 in
set_option maxHeartbeats 4000000 in
theorem rarcs_any (w : World) (A : Option Addr) (c : Nat) (xs : List UInt8) (hb : Byt w w.heap.size A xs) (hl : xs.length ≤ 1099511627776) :
    Calls Try.prog 15 #[.slice A xs.length c] w fun e w' => ∃ v, e = .returned (.tuple #[v, .int .i64 (arE xs)]) ∧ w'.ownsRow 0 47 1 v (arR xs).length (cells64 (arR xs)) ∧ Below w.heap.size w w' := by
  have hck := rck6 w A c xs hb (by omega)
  obtain ⟨L, hL⟩ : ∃ L, xs.length = L := ⟨_, rfl⟩
  rw [hL] at hck hl ⊢
  have HL := Lib.hid hL
  have HB := Lib.hid hb
  have HC := Lib.hid hl
  clear hb hL hl
  cases hv : ob xs with
  | false =>
    rw [hv] at hck
    have HE := Lib.hid (show arE xs = 13 by unfold arE; rw [hv]; rfl)
    have HR := Lib.hid (show arR xs = [] by unfold arR; rw [HE.out]; rfl)
    rw [HE.out, HR.out]
    clear hv
    go_enter Try.func15, Try.ntmps15
    go_wp2_with fail
    refine hck.mono ?_
    rintro e w' ⟨rfl, hB⟩
    go_wp2_with fail
    go_ret2
    exact ⟨_, rfl, ⟨rfl, .inl ⟨rfl, rfl⟩⟩, hB⟩
  | true =>
    rw [hv] at hck
    have HV := Lib.hid hv
    obtain ⟨q, hq⟩ : ∃ q, w.heap.size = q := ⟨_, rfl⟩
    have HQ := Lib.hid hq
    rw [hq] at hck ⊢
    clear hv
    go_enter Try.func15, Try.ntmps15
    go_wp2_with fail
    refine hck.mono ?_
    rintro e W ⟨rfl, hB⟩
    have BW := Lib.hid (show Below q w W ∧ q ≤ W.heap.size from ⟨hB, by rw [← hq]; exact hB.size⟩)
    clear hB hck hq
    go_wp2_with fail
    go_loopw [5, 6, 7] (fun v t i wr => ∃ (j x : Nat) (ns : List Nat), j ≤ L ∧ x < 9223372036854775808 ∧ i = .int .i64 j ∧ t = .int .u64 (x : Int) ∧ Hid (wr.ownsRow 0 47 1 v ns.length (cells64 ns) ∧ ∀ k, v.ownBlock = some k → q ≤ k) ∧ Hid (ns.length ≤ j + 1 ∧ arF 0 [] xs = arF x ns (xs.drop j)) ∧ Hid (Below q w wr ∧ q ≤ wr.heap.size)) (fun _ _ i _ => L - (intOf i).toNat)
    case atStart => exact ⟨0, 0, [], Nat.zero_le _, by omega, rfl, rfl, Lib.hid ⟨⟨rfl, .inl ⟨rfl, rfl⟩⟩, fun k hk => by cases hk⟩, Lib.hid ⟨Nat.zero_le _, rfl⟩, BW⟩
    case round =>
      clear BW
      obtain ⟨j, x, ns, hj, hx, rfl, rfl, hown, hns, hBw⟩ := hrel
      obtain ⟨-, A5, c5, rfl⟩ := own64_form hown.out.1
      have hxI : (x : Int) < 9223372036854775808 := by omega
      have HX := Lib.hid hx
      clear hx
      by_cases hlt : j < L
      · obtain ⟨b, o, rfl, -, -⟩ := HB.out (by rw [HL.out]; omega)
        obtain ⟨y, hy⟩ : ∃ y, xs.getD j 0 = y := ⟨_, rfl⟩
        obtain ⟨d, hd⟩ : ∃ d, y.toNat = d := ⟨_, rfl⟩
        have hd256 : d < 256 := by rw [← hd]; exact y.toNat_lt
        have c1 : wr.cell? ⟨b, o + j, none⟩ = some (.int .u8 (d : Int)) := by
          obtain ⟨b', o', e', hb', hc⟩ := HB.out (by rw [HL.out]; omega)
          cases e'
          rw [hBw.out.1.cell (p := ⟨b, o + j, none⟩) (by show b < q; rw [← HQ.out]; exact hb'), hc j (by rw [HL.out]; exact hlt), hy, hd]
        have hst : arF 0 [] xs = if 72057594037927936 ≤ x then none else if 128 ≤ d then arF (128 * x + d % 128) ns (xs.drop (j + 1)) else arF 0 (ns ++ (if ns = [] then arH (128 * x + d % 128) else [128 * x + d % 128])) (xs.drop (j + 1)) := by
          rw [hns.out.2, getD_take_drop (by rw [HL.out]; exact hlt), hy, ← hd]
          rfl
        have HST := Lib.hid hst
        have HNL := Lib.hid hns.out.1
        have hjI : (j : Int) ≤ 1099511627776 := by have := HC.out; omega
        clear hy hd hst hns
        by_cases g1 : 72057594037927936 ≤ x
        · have g1' : 72057594037927936 ≤ (x : Int) := by omega
          have HE := Lib.hid (show arE xs = 3 by unfold arE; rw [HV.out, HST.out, if_pos g1]; rfl)
          have HR := Lib.hid (show arR xs = [] by unfold arR; rw [HE.out]; rfl)
          clear g1
          go_wp2_with fail
          go_ret2
          exact ⟨_, by rw [HE.out]; rfl, by rw [HR.out]; exact ⟨rfl, .inl ⟨rfl, rfl⟩⟩, hBw.out.1⟩
        · have g1' : ¬ 72057594037927936 ≤ (x : Int) := by omega
          have HST1 := Lib.hid (show arF 0 [] xs = if 128 ≤ d then arF (128 * x + d % 128) ns (xs.drop (j + 1)) else arF 0 (ns ++ (if ns = [] then arH (128 * x + d % 128) else [128 * x + d % 128])) (xs.drop (j + 1)) by rw [HST.out, if_neg g1])
          obtain ⟨Y, hY⟩ : ∃ Y, 128 * x + d % 128 = Y := ⟨_, rfl⟩
          have hYb : Y < 9223372036854775808 := by omega
          have HYB := Lib.hid hYb
          have u1 : IntKind.u64.wrap ((x : Int) * 128) = (x : Int) * 128 := IntWalk.u64_in _ (by omega)
          have u2 : (x : Int) * 128 + (d : Int) % 128 = (Y : Int) := by clear u1; omega
          rw [hY] at HST1
          have HY := Lib.hid hY
          clear g1 hY hYb HST HX hxI
          by_cases g2 : 128 ≤ d
          · have g2' : 128 ≤ (d : Int) := by omega
            have HN := Lib.hid (show arF 0 [] xs = arF Y ns (xs.drop (j + 1)) by rw [HST1.out, if_pos g2])
            clear g2
            go_wp2_with fail
            go_roundw
            case rel => exact ⟨j + 1, Y, ns, hlt, HYB.out, rfl, rfl, hown, Lib.hid ⟨by have := HNL.out; omega, HN.out⟩, hBw⟩
            case measure => simp [intOf]; omega
          · have g2' : ¬ 128 ≤ (d : Int) := by omega
            by_cases g3 : ns = []
            · subst g3
              by_cases g4 : Y < 40
              · have g4' : (Y : Int) < 40 := by omega
                have HA := Lib.hid (fun ty => app64_one wr hown.out.1 (by have := HNL.out; have := HC.out; omega) 0 q hBw.out.2 hown.out.2 ty)
                have HN := Lib.hid (show arF 0 [] xs = arF 0 [0, Y] (xs.drop (j + 1)) by rw [HST1.out, if_neg g2, if_pos rfl]; unfold arH; rw [if_pos g4]; rfl)
                clear g2 HST1
                go_wp2_with (at_builtin; first | (refine wpList_append_run _ rfl (.tmp 40) (.tmp 41) 32 rfl rfl rfl HA.out ?_; rintro v1 w1 a1; have A1 := Lib.hid a1; clear a1 HA; have HA2 := Lib.hid (fun ty => app64_one w1 A1.out.1 (by simp) Y q A1.out.2.2.1 A1.out.2.2.2 ty)) | (refine wpList_append_run _ rfl (.tmp 55) (.tmp 57) 32 rfl rfl rfl HA2.out ?_; rintro v2 w2 a2; have A2 := Lib.hid a2; clear a2 HA2))
                go_roundw
                case rel => exact ⟨j + 1, 0, [0, Y], hlt, by omega, rfl, rfl, Lib.hid ⟨A2.out.1, A2.out.2.2.2⟩, Lib.hid ⟨by simp, HN.out⟩, Lib.hid ⟨hBw.out.1.trans ((A1.out.2.1).trans A2.out.2.1), A2.out.2.2.1⟩⟩
                case measure => simp [intOf]; omega
              · have g4' : ¬ (Y : Int) < 40 := by omega
                by_cases g5 : Y < 80
                · have g5' : (Y : Int) < 80 := by omega
                  obtain ⟨Z, hZ⟩ : ∃ Z, Y - 40 = Z := ⟨_, rfl⟩
                  have e40 : (Y : Int) - 40 = (Z : Int) := by omega
                  have HZ := Lib.hid hZ
                  have HA := Lib.hid (fun ty => app64_one wr hown.out.1 (by have := HNL.out; have := HC.out; omega) 1 q hBw.out.2 hown.out.2 ty)
                  have HN := Lib.hid (show arF 0 [] xs = arF 0 [1, Z] (xs.drop (j + 1)) by rw [HST1.out, if_neg g2, if_pos rfl]; unfold arH; rw [if_neg g4, if_pos g5, hZ]; rfl)
                  clear g2 HST1 hZ
                  go_wp2_with (at_builtin; first | (refine wpList_append_run _ rfl (.tmp 45) (.tmp 46) 32 rfl rfl rfl HA.out ?_; rintro v1 w1 a1; have A1 := Lib.hid a1; clear a1 HA; have HA2 := Lib.hid (fun ty => app64_one w1 A1.out.1 (by simp) Z q A1.out.2.2.1 A1.out.2.2.2 ty)) | (refine wpList_append_run _ rfl (.tmp 55) (.tmp 57) 32 rfl rfl rfl HA2.out ?_; rintro v2 w2 a2; have A2 := Lib.hid a2; clear a2 HA2))
                  go_roundw
                  case rel => exact ⟨j + 1, 0, [1, Z], hlt, by omega, rfl, rfl, Lib.hid ⟨A2.out.1, A2.out.2.2.2⟩, Lib.hid ⟨by simp, HN.out⟩, Lib.hid ⟨hBw.out.1.trans ((A1.out.2.1).trans A2.out.2.1), A2.out.2.2.1⟩⟩
                  case measure => simp [intOf]; omega
                · have g5' : ¬ (Y : Int) < 80 := by omega
                  obtain ⟨Z, hZ⟩ : ∃ Z, Y - 80 = Z := ⟨_, rfl⟩
                  have e80 : (Y : Int) - 80 = (Z : Int) := by omega
                  have HZ := Lib.hid hZ
                  have HA := Lib.hid (fun ty => app64_one wr hown.out.1 (by have := HNL.out; have := HC.out; omega) 2 q hBw.out.2 hown.out.2 ty)
                  have HN := Lib.hid (show arF 0 [] xs = arF 0 [2, Z] (xs.drop (j + 1)) by rw [HST1.out, if_neg g2, if_pos rfl]; unfold arH; rw [if_neg g4, if_neg g5, hZ]; rfl)
                  clear g2 HST1 hZ
                  go_wp2_with (at_builtin; first | (refine wpList_append_run _ rfl (.tmp 50) (.tmp 51) 32 rfl rfl rfl HA.out ?_; rintro v1 w1 a1; have A1 := Lib.hid a1; clear a1 HA; have HA2 := Lib.hid (fun ty => app64_one w1 A1.out.1 (by simp) Z q A1.out.2.2.1 A1.out.2.2.2 ty)) | (refine wpList_append_run _ rfl (.tmp 55) (.tmp 57) 32 rfl rfl rfl HA2.out ?_; rintro v2 w2 a2; have A2 := Lib.hid a2; clear a2 HA2))
                  go_roundw
                  case rel => exact ⟨j + 1, 0, [2, Z], hlt, by omega, rfl, rfl, Lib.hid ⟨A2.out.1, A2.out.2.2.2⟩, Lib.hid ⟨by simp, HN.out⟩, Lib.hid ⟨hBw.out.1.trans ((A1.out.2.1).trans A2.out.2.1), A2.out.2.2.1⟩⟩
                  case measure => simp [intOf]; omega
            · have hn0 : ((ns.length : Int) == 0) = false := beq_eq_false_iff_ne.2 (by have : 0 < ns.length := List.length_pos_iff.2 g3; omega)
              have HA := Lib.hid (fun ty => app64_one wr hown.out.1 (by have := HNL.out; have := HC.out; omega) Y q hBw.out.2 hown.out.2 ty)
              have HN := Lib.hid (show arF 0 [] xs = arF 0 (ns ++ [Y]) (xs.drop (j + 1)) by rw [HST1.out, if_neg g2, if_neg g3])
              clear g2 HST1 g3
              go_wp2_with (at_builtin; (refine wpList_append_run _ rfl (.tmp 55) (.tmp 57) 32 rfl rfl rfl HA.out ?_; rintro v2 w2 a2; have A2 := Lib.hid a2; clear a2 HA))
              go_roundw
              case rel => exact ⟨j + 1, 0, ns ++ [Y], hlt, by omega, rfl, rfl, Lib.hid (by rw [List.length_append]; exact ⟨A2.out.1, A2.out.2.2.2⟩), Lib.hid ⟨by have := HNL.out; simp; omega, HN.out⟩, Lib.hid ⟨hBw.out.1.trans A2.out.2.1, A2.out.2.2.1⟩⟩
              case measure => simp [intOf]; omega
      · obtain rfl : j = L := by omega
        have hz : arF 0 [] xs = some ns := by rw [hns.out.2, List.drop_of_length_le (by rw [HL.out]; exact Nat.le_refl _)]; rfl
        have HE := Lib.hid (show arE xs = 0 by unfold arE; rw [HV.out, hz]; rfl)
        have HR := Lib.hid (show arR xs = ns by unfold arR; rw [HE.out, hz]; rfl)
        clear hns hz
        go_wp2_with fail
        go_ret2
        exact ⟨_, by rw [HE.out]; rfl, by rw [HR.out]; exact hown.out.1, hBw.out.1⟩
end Go.Proofs.Ytnegakobammljaa

