/- The program's own answers of layer 9: which things there are (the table is gone through), Kind. -/
import Derived.Test.YtbeknillegkidaaDoorRows
import Derived.Test.YtbeknillegkidaaDoorLt9
import Derived.Test.YtbeknillegkidaaDoorDt
import Derived.Lib.Hide
namespace Go.Proofs.YtbeknillegkidaaDoor
open Go.RowKit

set_option maxRecDepth 100000 in
set_option maxHeartbeats 2000000 in
theorem isuni_any (w : World) (hT : Tb w) (z : Int) (b : Bool) : Calls Tryd.prog 20 #[.agg #[.int .i64 z, .bool b]] w fun e w' => e = .returned (.bool (decide ((z, b) ∈ tagTab))) ∧ Below w.heap.size w w' := by
  obtain ⟨q, hq⟩ : ∃ q, w.heap.size = q := ⟨_, rfl⟩
  have hbox := Whole.new w #[.int .i64 z, .bool b] 50
  have hbel := (Below.refl _ w).alloc (Nat.le_refl _) (.cells #[.int .i64 z, .bool b] 50)
  have hix := fun (w : World) (i : Nat) (hi : i < 19) => tab_index w i hi
  obtain ⟨tt, hk⟩ := hT.alloc (.cells #[.int .i64 z, .bool b] 50)
  have hg1 : (w.alloc (.cells #[.int .i64 z, .bool b] 50)).heap[0]? = _ := hk
  have hi38 : (Tryd.prog.info? 52).map (·.size) = some tagCells.toArray.size := by kernel_rfl
  have hq0 : 0 < q := by rw [← hq]; exact hT.lt
  obtain ⟨cs, hcs⟩ : ∃ cs, tagCells.toArray = cs := ⟨_, rfl⟩
  rw [hcs] at hix hg1 hi38
  rw [hq] at hbox hbel ⊢
  clear hcs hT hk
  go_enter Tryd.func20, Tryd.ntmps20
  go_wp2_with (refine wpList_load_row rfl 52 _ rfl 0 rfl tt _ (0, 0) _ hg1 Tryd.underlying52 rfl hi38 ?_)
  clear hg1
  have HBOX := Lib.hid hbox
  have HBEL := Lib.hid hbel
  clear hbox hbel hi38
  go_loopw [6] (fun i wr => ∃ j : Nat, j ≤ 19 ∧ i = .int .i64 j ∧ Hid (∀ k, k < j → tagTab.getD k default ≠ (z, b)) ∧ Hid (Whole wr q #[.int .i64 z, .bool b] 50 ∧ Below q w wr)) (fun i _ => 19 - (intOf i).toNat)
  case atStart => exact ⟨0, Nat.zero_le _, rfl, Lib.hid (fun k hk => absurd hk (Nat.not_lt_zero k)), Lib.hid ⟨HBOX.out, HBEL.out⟩⟩
  case round =>
    obtain ⟨j, hj, rfl, hno, hR⟩ := hrel
    by_cases hlt : j < 19
    · have hix1 := fun W => hix W j hlt
      obtain ⟨⟨z1, b1⟩, hzb⟩ : ∃ x, tagTab.getD j default = x := ⟨_, rfl⟩
      rw [hzb] at hix1
      have hlt' : (j : Int) < 19 := by omega
      have h1 := hR.out.1
      have hs : q < wr.heap.size := h1.lt
      have m0 : ∀ o, (wr.alloc o).cell? ⟨q, 0, none⟩ = some (.int .i64 z) := fun o => (h1.grew (grew_alloc (grew_refl wr none) o) (by simp)).cell 0
      have m1 : ∀ o, (wr.alloc o).cell? ⟨q, 1, none⟩ = some (.bool b) := fun o => (h1.grew (grew_alloc (grew_refl wr none) o) (by simp)).cell 1
      have HZB := Lib.hid hzb
      clear h1 hzb hix
      have hB2 := hR.out.2
      have hal : ∀ o, Hid (Whole (wr.alloc o) q #[.int .i64 z, .bool b] 50 ∧ Below q w (wr.alloc o)) := fun o => Lib.hid ⟨hR.out.1.grew (grew_alloc (grew_refl wr none) o) (by simp), hB2.alloc (by omega) o⟩
      have HAL := Lib.hid hal
      clear hal hB2 hR
      by_cases hz : z1 = z
      · by_cases hbb : b1 = b
        · subst hz hbb
          go_wp2_with fail
          go_ret
          refine ⟨?_, (HAL.out _).out.2⟩
          rw [decide_eq_true]
          · rfl
          · have : tagTab.getD j default ∈ tagTab := by
              rw [List.getD_eq_getElem?_getD, List.getElem?_eq_getElem (show j < tagTab.length from hlt)]
              exact List.getElem_mem _
            rw [HZB.out] at this
            exact this
        · subst hz
          have hbf : (b1 == b) = false := beq_eq_false_iff_ne.2 hbb
          have HBB := Lib.hid hbb
          clear hbb
          go_wp2_with fail
          go_roundw
          case rel =>
            refine ⟨j + 1, hlt, rfl, Lib.hid (fun k hk => ?_), HAL.out _⟩
            rcases Nat.lt_or_ge k j with h | h
            · exact hno.out k h
            · obtain rfl : k = j := by omega
              rw [HZB.out]
              intro e
              exact HBB.out (Prod.ext_iff.1 e).2
          case measure => simp [intOf]; omega
      · have hzf : (z1 == z) = false := beq_eq_false_iff_ne.2 hz
        have HZ := Lib.hid hz
        clear hz
        go_wp2_with fail
        go_roundw
        case rel =>
          refine ⟨j + 1, hlt, rfl, Lib.hid (fun k hk => ?_), HAL.out _⟩
          rcases Nat.lt_or_ge k j with h | h
          · exact hno.out k h
          · obtain rfl : k = j := by omega
            rw [HZB.out]
            intro e
            exact HZ.out (Prod.ext_iff.1 e).1
        case measure => simp [intOf]; omega
    · obtain rfl : j = 19 := by omega
      go_wp2_with fail
      go_ret
      refine ⟨?_, hR.out.2⟩
      rw [decide_eq_false]
      · rfl
      · intro hm
        obtain ⟨k, hk, e⟩ := List.getElem_of_mem hm
        exact hno.out k hk (by rw [List.getD_eq_getElem?_getD, List.getElem?_eq_getElem hk]; exact e)

/-- The table's things are the chapter's. -/
theorem kd_tab (z : Int) (b : Bool) : kd 0 z b = decide ((z, b) ∈ tagTab) := by
  unfold kd tagTab
  rw [if_neg (by decide), if_pos rfl, Bool.eq_iff_iff]
  cases b <;> simp <;> omega

set_option maxRecDepth 100000 in
set_option maxHeartbeats 2000000 in
/-- What Kind answers. -/
theorem kind_any (w : World) (hT : Tb w) (c z : Int) (b : Bool) : Calls Tryd.prog 14 #[.int .i64 c, .int .i64 z, .bool b] w fun e w' => e = .returned (.int .i64 (if kd c z b then 0 else 13)) ∧ Below w.heap.size w w' := by
  by_cases h0 : c = 0
  · subst h0
    have hu := isuni_any w hT z b
    rw [← kd_tab] at hu
    cases hk : kd 0 z b with
    | true =>
      rw [hk] at hu
      clear hk hT
      go_enter Tryd.func14, Tryd.ntmps14
      go_wp2_with fail
      refine hu.mono ?_
      rintro e w' ⟨rfl, hB⟩
      go_wp2_with fail
      go_ret
      exact ⟨rfl, hB⟩
    | false =>
      rw [hk] at hu
      clear hk hT
      go_enter Tryd.func14, Tryd.ntmps14
      go_wp2_with fail
      refine hu.mono ?_
      rintro e w' ⟨rfl, hB⟩
      go_wp2_with fail
      go_ret
      exact ⟨rfl, hB⟩
  · by_cases h2 : c = 2
    · subst h2
      have hk : kd 2 z b = decide (0 ≤ z ∧ z ≤ 30) := by unfold kd; rw [if_pos rfl]
      rw [hk]
      clear hk
      by_cases g1 : 0 ≤ z
      · by_cases g2 : z ≤ 30
        · rw [decide_eq_true (show 0 ≤ z ∧ z ≤ 30 from ⟨g1, g2⟩)]
          go_enter Tryd.func14, Tryd.ntmps14
          go_wp2_with fail
          go_ret
          exact ⟨rfl, Below.refl _ _⟩
        · rw [decide_eq_false (show ¬ (0 ≤ z ∧ z ≤ 30) from fun h => g2 h.2)]
          go_enter Tryd.func14, Tryd.ntmps14
          go_wp2_with fail
          go_ret
          exact ⟨rfl, Below.refl _ _⟩
      · rw [decide_eq_false (show ¬ (0 ≤ z ∧ z ≤ 30) from fun h => g1 h.1)]
        go_enter Tryd.func14, Tryd.ntmps14
        go_wp2_with fail
        go_ret
        exact ⟨rfl, Below.refl _ _⟩
    · have hk : kd c z b = false := by unfold kd; rw [if_neg h2, if_neg h0]
      rw [hk]
      go_enter Tryd.func14, Tryd.ntmps14
      go_wp2_with fail
      go_ret
      exact ⟨rfl, Below.refl _ _⟩
end Go.Proofs.YtbeknillegkidaaDoor

