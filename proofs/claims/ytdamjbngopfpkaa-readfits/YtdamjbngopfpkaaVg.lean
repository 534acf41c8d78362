/- How many values there are, and bytes in them: the document's Count and Bytes; Great. -/
import Derived.Test.YtdamjbngopfpkaaVm
import Derived.Test.YtdamjbngopfpkaaFd
namespace Go.Proofs.Ytdamjbngopfpkaa
open Go.RowKit Va

set_option maxHeartbeats 1000000 in
theorem vcount_any (v : Va) : ∀ (m : Int) (w : World), 0 ≤ m → m ≤ 1099511627776 → v.In w →
    Calls Try.prog 33 #[v.val, .int .i64 m] w fun e w' => e = .returned (.int .i64 (min (v.cnt : Int) (m + 1))) ∧ Grew w w' none := by
  induction v using Va.ind with
  | H n B d bs A c ls ih =>
  intro m w h0 h1 hin
  have hlist := hin.list
  simp only [Va.A, Va.ls, Va.c] at hlist
  have hz := hlist.2.2
  have IH := Lib.hid ih
  have HL := Lib.hid hlist.1
  have HM := Lib.hid hin.parts
  have HD := Lib.hid (show cnt (.mk n B d bs A c ls) = cnts ls + 1 by rw [cnt])
  generalize cnt (.mk n B d bs A c ls) = D at *
  clear ih hlist hin
  change Hid (∀ p ∈ ls, In w p) at HM
  change Calls Try.prog 33 #[.agg #[.int .u64 n, .slice B bs.length d, .slice A ls.length c], .int .i64 m] w _
  have HR := Lib.hid (show Grew w (w.alloc (.cells #[.int .u64 n, .slice B bs.length d, .slice A ls.length c] 35)) none ∧ Whole (w.alloc (.cells #[.int .u64 n, .slice B bs.length d, .slice A ls.length c] 35)) w.heap.size #[.int .u64 n, .slice B bs.length d, .slice A ls.length c] 35 ∧ (1 : Int) = min (cnts (ls.take 0) + 1 : Int) (m + 1) from ⟨grew_alloc (grew_refl _ _) _, Whole.new _ _ _, by simp [cnts]; omega⟩)
  go_enter Try.func33, Try.ntmps33
  go_wp2_with fail
  generalize w.alloc (.cells #[.int .u64 n, .slice B bs.length d, .slice A ls.length c] 35) = W0 at *
  generalize w.heap.size = q at *
  go_loopw [6, 5] (fun i y wr => ∃ (j : Nat) (x : Int), j ≤ ls.length ∧ i = .int .i64 j ∧ y = .int .i64 x ∧ 1 ≤ x ∧ x ≤ m + 1 ∧ Hid (Grew w wr none ∧ Whole wr q #[.int .u64 n, .slice B bs.length d, .slice A ls.length c] 35 ∧ x = min (cnts (ls.take j) + 1 : Int) (m + 1))) (fun i _ _ => ls.length - (intOf i).toNat)
  case atStart => exact ⟨0, 1, Nat.zero_le _, rfl, rfl, by omega, by omega, HR⟩
  case round =>
    obtain ⟨j, x, hj, rfl, rfl, x0, x1, R⟩ := hrel
    obtain ⟨c0, c1, c2⟩ := R.out.2.1.three
    by_cases hlt : j < ls.length
    · by_cases hm : x ≤ m
      · obtain ⟨b, o, p, rfl, hp, hpm, d0, d1, d2⟩ := (HL.out.grew R.out.1).at hlt
        have HP := Lib.hid (show ls[j]? = some p ∧ p ∈ ls from ⟨hp, hpm⟩)
        clear hp hpm
        go_wp2_with fail
        refine (IH.out p HP.out.2 (m - x) _ (by omega) (by omega) ((HM.out p HP.out.2).grew R.out.1)).mono ?_
        rintro e w2 ⟨rfl, g2⟩
        have hcp := cnt_pos p
        have key := cnts_take HP.out.1
        have hr := R.out.2.2
        have HG := Lib.hid (show Grew w w2 none ∧ Whole w2 q _ _ from ⟨grew_trans R.out.1 g2, R.out.2.1.grew g2 (by simp)⟩)
        generalize hy : min (cnt p : Int) (m - x + 1) = y at *
        clear c0 c1 c2 d0 d1 d2 g2
        have y1 : x + y ≤ m + 1 := by omega
        have y0 : 0 ≤ y := by omega
        have HR2 := Lib.hid (show Grew w w2 none ∧ Whole w2 q #[.int .u64 n, .slice B bs.length d, .slice (some ⟨b, o, none⟩) ls.length c] 35 ∧ x + y = min (cnts (ls.take (j + 1)) + 1 : Int) (m + 1) from ⟨HG.out.1, HG.out.2, by rw [key]; omega⟩)
        clear hy key hr R hcp HG
        go_wp2_with fail
        go_roundw
        case rel => exact ⟨j + 1, x + y, by omega, by go_num, rfl, by omega, by omega, HR2⟩
        case measure => simp [intOf]; omega
      · have HE := Lib.hid (show x = min (D : Int) (m + 1) by
          have h3 := R.out.2.2
          have := HD.out
          have := cnts_take_le ls j
          omega)
        have HG := Lib.hid R.out.1
        clear R
        go_wp2_with fail
        go_ret
        exact ⟨by rw [HE.out]; rfl, HG.out⟩
    · have HE := Lib.hid (show x = min (D : Int) (m + 1) by
        have h3 := R.out.2.2
        have : j = ls.length := by omega
        rw [this, List.take_length] at h3
        have := HD.out
        omega)
      have HG := Lib.hid R.out.1
      clear R
      go_wp2_with fail
      go_ret
      exact ⟨by rw [HE.out]; rfl, HG.out⟩

/-- Some number from 0 on, not too great. -/
def SomeUp (M : Int) (w : World) (e : Ending) (w' : World) : Prop := ∃ r : Int, e = .returned (.int .i64 r) ∧ 0 ≤ r ∧ r ≤ M ∧ Grew w w' none

set_option maxHeartbeats 1000000 in
theorem vbyt_any (v : Va) : ∀ (m : Int) (w : World), 0 ≤ m → m ≤ 1099511627776 → v.In w →
    Calls Try.prog 34 #[v.val, .int .i64 m] w (SomeUp (m + 140737488355328) w) := by
  induction v using Va.ind with
  | H n B d bs A c ls ih =>
  intro m w h0 h1 hin
  have hlist := hin.list
  have hbs := hin.bytes.2.2
  simp only [Va.A, Va.ls, Va.c, Va.bs] at hlist hbs
  have hz := hlist.2.2
  have IH := Lib.hid ih
  have HL := Lib.hid hlist.1
  have HM := Lib.hid hin.parts
  clear ih hlist hin
  change Hid (∀ p ∈ ls, In w p) at HM
  change Calls Try.prog 34 #[.agg #[.int .u64 n, .slice B bs.length d, .slice A ls.length c], .int .i64 m] w _
  have HR := Lib.hid (show Grew w (w.alloc (.cells #[.int .u64 n, .slice B bs.length d, .slice A ls.length c] 35)) none ∧ Whole (w.alloc (.cells #[.int .u64 n, .slice B bs.length d, .slice A ls.length c] 35)) w.heap.size #[.int .u64 n, .slice B bs.length d, .slice A ls.length c] 35 from ⟨grew_alloc (grew_refl _ _) _, Whole.new _ _ _⟩)
  go_enter Try.func34, Try.ntmps34
  go_wp2_with fail
  generalize w.alloc (.cells #[.int .u64 n, .slice B bs.length d, .slice A ls.length c] 35) = W0 at *
  generalize w.heap.size = q at *
  go_loopw [6, 5] (fun i y wr => ∃ (j : Nat) (x : Int), j ≤ ls.length ∧ i = .int .i64 j ∧ y = .int .i64 x ∧ 0 ≤ x ∧ x ≤ m + 140737488355328 ∧ Hid (Grew w wr none ∧ Whole wr q #[.int .u64 n, .slice B bs.length d, .slice A ls.length c] 35)) (fun i _ _ => ls.length - (intOf i).toNat)
  case atStart => exact ⟨0, bs.length, Nat.zero_le _, rfl, rfl, by omega, by omega, HR⟩
  case round =>
    obtain ⟨j, x, hj, rfl, rfl, x0, x1, R⟩ := hrel
    obtain ⟨c0, c1, c2⟩ := R.out.2.three
    by_cases hlt : j < ls.length
    · by_cases hm : x ≤ m
      · obtain ⟨b, o, p, rfl, hp, hpm, d0, d1, d2⟩ := (HL.out.grew R.out.1).at hlt
        have HP := Lib.hid (show ls[j]? = some p ∧ p ∈ ls from ⟨hp, hpm⟩)
        clear hp hpm
        go_wp2_with fail
        refine (IH.out p HP.out.2 (m - x) _ (by omega) (by omega) ((HM.out p HP.out.2).grew R.out.1)).mono ?_
        rintro e w2 ⟨y, rfl, y0, y1, g2⟩
        have HR2 := Lib.hid (show Grew w w2 none ∧ Whole w2 q #[.int .u64 n, .slice B bs.length d, .slice (some ⟨b, o, none⟩) ls.length c] 35 from ⟨grew_trans R.out.1 g2, R.out.2.grew g2 (by simp)⟩)
        clear c0 c1 c2 d0 d1 d2 g2 R
        go_wp2_with fail
        go_roundw
        case rel => exact ⟨j + 1, x + y, by omega, by go_num, rfl, by omega, by omega, HR2⟩
        case measure => simp [intOf]; omega
      · have HG := Lib.hid R.out.1
        clear R
        go_wp2_with fail
        go_ret
        exact ⟨x, rfl, x0, x1, HG.out⟩
    · have HG := Lib.hid R.out.1
      clear R
      go_wp2_with fail
      go_ret
      exact ⟨x, rfl, x0, x1, HG.out⟩

set_option maxHeartbeats 1000000 in
/-- Great: 0 or 1. -/
theorem vgreat_any (w : World) (f : Fo) (A : Option Addr) (c : Nat) (ls : List Va) (hf : f.In w) (hl : Va.Lie w A ls) (hp : ∀ v ∈ ls, v.In w) (hz : ls.length ≤ 2513169434916) :
    Calls Try.prog 22 #[f.val, .slice A ls.length c] w (SomeUp 1 w) := by
  have HF := Lib.hid hf
  have HL := Lib.hid hl
  have HP := Lib.hid hp
  clear hf hl hp
  change Calls Try.prog 22 #[.agg #[.int .i64 f.k, .int .i64 f.s, .int .i64 f.l, .int .i64 f.h, .int .i64 f.t, .slice f.A f.ps.length f.c], .slice A ls.length c] w _
  go_enter Try.func22, Try.ntmps22
  go_wp2_with fail
  refine (count_any f 500 _ (by omega) (by omega) (HF.out.grew (grew_alloc (grew_refl _ _) _))).mono ?_
  rintro e w1 ⟨rfl, g1⟩
  have HG1 := Lib.hid (grew_trans (grew_alloc (grew_refl w none) _) g1)
  clear g1
  have hc0 : (0 : Int) ≤ min (f.cnt : Int) (500 + 1) := by omega
  generalize min (f.cnt : Int) (500 + 1) = C at *
  by_cases hC : 500 < C
  · go_wp2_with fail
    go_ret
    exact ⟨1, rfl, by omega, by omega, HG1.out⟩
  · go_wp2_with fail
    go_loopw [12] (fun i wr => ∃ (j : Nat), j ≤ ls.length ∧ i = .int .i64 j ∧ Hid (Grew w wr none)) (fun i _ => ls.length - (intOf i).toNat)
    case atStart => exact ⟨0, Nat.zero_le _, rfl, HG1⟩
    case round =>
      obtain ⟨j, hj, rfl, R⟩ := hrel
      by_cases hlt : j < ls.length
      · obtain ⟨b, o, v, rfl, hv, hvm, d0, d1, d2⟩ := (HL.out.grew R.out).at hlt
        have HV := Lib.hid (HP.out v hvm)
        clear hv hvm
        go_wp2_with fail
        have hw := Whole.new wr #[.int .u64 v.n, .slice v.B v.bs.length v.d, .slice v.A v.ls.length v.c] 35
        have hg := grew_alloc R.out (.cells #[.int .u64 v.n, .slice v.B v.bs.length v.d, .slice v.A v.ls.length v.c] 35)
        clear d0 d1 d2 R
        generalize wr.alloc (.cells #[.int .u64 v.n, .slice v.B v.bs.length v.d, .slice v.A v.ls.length v.c] 35) = W1 at *
        generalize wr.heap.size = qv at *
        have HW := Lib.hid hw
        have HG := Lib.hid hg
        clear hw hg
        refine (vcount_any v 2000 _ (by omega) (by omega) (HV.out.grew HG.out)).mono ?_
        rintro e w2 ⟨rfl, g2⟩
        have hc1 : (0 : Int) ≤ min (v.cnt : Int) (2000 + 1) := by omega
        obtain ⟨d0, d1, d2⟩ := (HW.out.grew g2 (by simp)).three
        have HG2 := Lib.hid (grew_trans HG.out g2)
        clear g2
        generalize min (v.cnt : Int) (2000 + 1) = D at *
        by_cases hD : 2000 < D
        · go_wp2_with fail
          go_ret
          exact ⟨1, rfl, by omega, by omega, HG2.out⟩
        · go_wp2_with fail
          refine (vbyt_any v 20000 _ (by omega) (by omega) (HV.out.grew HG2.out)).mono ?_
          rintro e w3 ⟨y, rfl, y0, y1, g3⟩
          have HG3 := Lib.hid (grew_trans HG2.out g3)
          clear g3 d0 d1 d2
          by_cases hY : 20000 < y
          · go_wp2_with fail
            go_ret
            exact ⟨1, rfl, by omega, by omega, HG3.out⟩
          · go_wp2_with fail
            go_roundw
            case rel => exact ⟨j + 1, by omega, by go_num, HG3⟩
            case measure => simp [intOf]; omega
      · have HG := Lib.hid R.out
        clear R
        go_wp2_with fail
        go_ret
        exact ⟨0, rfl, by omega, by omega, HG.out⟩
end Go.Proofs.Ytdamjbngopfpkaa

