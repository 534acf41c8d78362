/- Most: the document's answer. -/
import Derived.Test.YtmdmfinpcbedcaaRf
namespace Go.Proofs.Ytmdmfinpcbedcaa
open Go.RowKit Fo

set_option maxRecDepth 100000 in
set_option maxHeartbeats 2000000 in
theorem rmost_any (f : Fo) : ∀ (w : World), f.In w → f.wrg = 0 →
    Calls Try.prog 21 #[f.val] w fun e w' => e = .returned (.int .i64 (f.len true)) ∧ Grew w w' none := by
  induction f using Fo.ind with
  | H k s l h t A c ps ih =>
  intro w hin hr
  obtain ⟨ha, hq, _⟩ := wrg_zero hr
  have key := alone_kind ha
  have HIN := Lib.hid hin
  have IH := Lib.hid ih
  have HQ := Lib.hid hq
  clear hin ih ha hr hq
  change Calls Try.prog 21 #[.agg #[.int .i64 k, .int .i64 s, .int .i64 l, .int .i64 h, .int .i64 t, .slice A ps.length c]] w _
  have HO := Lib.hid (show len true (.mk k s l h t A c ps) = if k = 0 then s else if k = 1 ∨ k = 2 then plus s (if true then h else l) else if k = 3 then lens true 0 ps else if k = 4 then (if true then h else l) else l from by rw [len])
  rw [HO.out]
  clear HO
  rcases key with rfl | rfl | rfl | rfl | rfl | rfl
  case inr.inr.inr.inl =>
    rw [if_neg (by omega), if_neg (by omega), if_pos rfl]
    have HR := Lib.hid (show Grew w (w.alloc (.cells #[.int .i64 3, .int .i64 s, .int .i64 l, .int .i64 h, .int .i64 t, .slice A ps.length c] 31)) none ∧ Whole (w.alloc (.cells #[.int .i64 3, .int .i64 s, .int .i64 l, .int .i64 h, .int .i64 t, .slice A ps.length c] 31)) w.heap.size #[.int .i64 3, .int .i64 s, .int .i64 l, .int .i64 h, .int .i64 t, .slice A ps.length c] 31 ∧ lens true 0 (ps.drop 0) = lens true 0 ps from ⟨grew_alloc (grew_refl _ _) _, Whole.new _ _ _, rfl⟩)
    go_enter Try.func21, Try.ntmps21
    go_wp2_with fail
    generalize w.alloc (.cells #[.int .i64 3, .int .i64 s, .int .i64 l, .int .i64 h, .int .i64 t, .slice A ps.length c] 31) = W0 at *
    have hlz : ps.length ≤ 2199023255552 := by have := HIN.out; cases this; assumption
    have HSZ := Lib.hid (show ∃ q, q = w.heap.size from ⟨_, rfl⟩)
    generalize w.heap.size = q at *
    go_loopw [4, 3] (fun i d wr => ∃ (n : Nat) (x : Int), n ≤ ps.length ∧ i = .int .i64 n ∧ d = .int .i64 x ∧ Hid (Grew w wr none ∧ Whole wr q #[.int .i64 3, .int .i64 s, .int .i64 l, .int .i64 h, .int .i64 t, .slice A ps.length c] 31 ∧ lens true x (ps.drop n) = lens true 0 ps)) (fun i _ _ => ps.length - (intOf i).toNat)
    case atStart => exact ⟨0, 0, Nat.zero_le _, rfl, rfl, HR⟩
    case round =>
      obtain ⟨n, x, hn, rfl, rfl, R⟩ := hrel
      obtain ⟨d0, d1, d2, d3, d4, d5⟩ := R.out.2.1.six
      by_cases hlt : n < ps.length
      · obtain ⟨b, o, p, rfl, hp, hpm, hpi, c0, c1, c2, c3, c4, c5⟩ := (HIN.out.grew R.out.1).at hlt
        have HP := Lib.hid (show ps[n]? = some p ∧ p ∈ ps ∧ In wr p from ⟨hp, hpm, hpi⟩)
        have HP2 := Lib.hid (show wrg p = 0 from HQ.out p (by rw [inn, if_pos (by omega)]; exact hpm))
        clear hp hpm hpi
        go_wp2_with fail
        refine (IH.out p HP.out.2.1 _ HP.out.2.2 HP2.out).mono ?_
        rintro e w2 ⟨rfl, g2⟩
        have HR2 := Lib.hid (show Grew w w2 none ∧ Whole w2 q #[.int .i64 3, .int .i64 s, .int .i64 l, .int .i64 h, .int .i64 t, .slice (some ⟨b, o, none⟩) ps.length c] 31 ∧ lens true (plus x (p.len true)) (ps.drop (n + 1)) = lens true 0 ps from ⟨grew_trans R.out.1 g2, R.out.2.1.grew g2 (by simp), by
          have := R.out.2.2
          rw [drop_at HP.out.1, lens] at this
          exact this⟩)
        clear c0 c1 c2 c3 c4 c5 d0 d1 d2 d3 d4 d5 g2 R
        generalize hy : p.len true = y at *
        have HY := Lib.hid hy
        clear hy
        go_wp2_with fail
        go_roundw
        case rel => exact ⟨n + 1, plus x y, by omega, by go_num, rfl, HR2⟩
        case measure => simp [intOf]; omega
      · have HE := Lib.hid (show x = lens true 0 ps by
          have h3 := R.out.2.2
          have : n = ps.length := by omega
          rw [this, List.drop_length, lens] at h3
          exact h3)
        have HG := Lib.hid R.out.1
        clear R
        go_wp2_with fail
        go_ret
        exact ⟨by rw [← HE.out]; rfl, HG.out⟩
  all_goals
    go_enter Try.func21, Try.ntmps21
    go_wp2_with fail
    go_ret
    exact ⟨rfl, grew_alloc (grew_refl _ _) _⟩

end Go.Proofs.Ytmdmfinpcbedcaa

