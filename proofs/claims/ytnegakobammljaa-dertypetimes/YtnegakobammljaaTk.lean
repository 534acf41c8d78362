/- A time's row asks its bytes; Time. -/
import Derived.Test.YtnegakobammljaaTm3
import Derived.Test.YtnegakobammljaaRw5
namespace Go.Proofs.Ytnegakobammljaa
open Go.RowKit

set_option maxRecDepth 100000 in
theorem readtime_any (w : World) (tag : Int) (ht : tag = 23 ∨ tag = 24) (A : Option Addr) (c : Nat) (xs : List UInt8) (hb : Byt w w.heap.size A xs) (hl : xs.length ≤ c) (hm : xs.length ≤ 140737488351232) :
    Calls Try.prog 31 #[.int .i64 (ydg tag), .slice A xs.length c] w (TimePost w tag xs) := by
  rcases ht with rfl | rfl
  · exact readtime23 w A c xs hb hl hm
  · exact readtime24 w A c xs hb hl hm

set_option maxRecDepth 100000 in
set_option maxHeartbeats 1000000 in
theorem asktime_any (w : World) (tag : Int) (ht : tag = 23 ∨ tag = 24) (A : Option Addr) (c : Nat) (xs : List UInt8) (hb : Byt w w.heap.size A xs) (hl : xs.length ≤ c) (hm : xs.length ≤ 140737488351232) (p : Nat) (hp : Whole w p #[.int .i64 (ydg tag)] 3) :
    Calls Try.prog 41 #[.slice A xs.length c, .pointer (some ⟨p, 0, none⟩)] w fun e w' => e = .returned (.bool (tyOk tag xs)) ∧ Below w.heap.size w w' := by
  have hrt := readtime_any w tag ht A c xs hb hl hm
  have c0 : w.cell? ⟨p, 0, none⟩ = some (.int .i64 (ydg tag)) := hp.cell 0
  generalize ydg tag = n at *
  obtain ⟨R, hR⟩ : ∃ R, tyOk tag xs = R := ⟨_, rfl⟩
  have HR := Lib.hid hR
  rw [hR]
  obtain ⟨L, hL⟩ : ∃ L, xs.length = L := ⟨_, rfl⟩
  rw [hL] at hrt ⊢
  have HRT := Lib.hid hrt
  clear hb hl hm hp hL hrt ht hR
  go_enter Try.func41, Try.ntmps41
  go_wp2_with fail
  refine HRT.out.mono ?_
  rintro e w1 ⟨rfl, hB⟩
  obtain ⟨v0, v1, v2, v3, v4, v5, hv⟩ : ∃ v0 v1 v2 v3 v4 v5 : Int, agg6 (if tyOk tag xs then tyL tag xs else [0, 0, 0, 0, 0, 0]) = .agg #[.int .i64 v0, .int .i64 v1, .int .i64 v2, .int .i64 v3, .int .i64 v4, .int .i64 v5] := by
    cases tyOk tag xs
    · exact ⟨0, 0, 0, 0, 0, 0, rfl⟩
    · exact ⟨_, _, _, _, _, _, rfl⟩
  rw [hv]
  have HB := Lib.hid hB
  rw [HR.out]
  clear hv hB c0 HRT
  go_wp2_with fail
  go_ret
  exact ⟨rfl, HB.out.alloc HB.out.size _⟩

set_option maxRecDepth 100000 in
theorem results_tm (tmps : Array Value) (w : World) (q : Nat) (cs : Array Value) (t : TypeId) (hp : tmps.getD 4 undef = .pointer (some ⟨q, 0, none⟩)) (hg : Whole w q cs t) (h6 : cs.size = 6) :
    (results Try.f18 tmps).run Try.prog w = .ok (.tuple #[.agg cs, tmps.getD 5 undef]) w := by
  have hi : (Try.prog.info? 40).map (·.size) = some cs.size := by rw [h6]; kernel_rfl
  have h1 := run_loadVar_row (P := Try.prog) w q t 40 cs _ _ hg Try.underlying40 rfl hi
  rw [results_cell_tmp (fn := Try.f18) rfl tmps Try.prog w, hp]
  simp [asAddr, h1, Result.andThen]
theorem tm_leave {w W : World} {q : Nat} (hres : Whole W q #[.int .i64 0, .int .i64 0, .int .i64 0, .int .i64 0, .int .i64 0, .int .i64 0] 40) (hbel : Below q w W) (z0 z1 z2 z3 z4 z5 b : Int) (a : Act)
    (h4 : a.tmps.getD 4 undef = .pointer (some ⟨q, 0, none⟩)) (h5 : a.tmps.getD 5 undef = .int .i64 b) (hd : a.defers = []) {E : Ending → World → Prop}
    (hE : Below q w (put6i W q z0 z1 z2 z3 z4 z5) → E (.returned (.tuple #[agg6 [z0, z1, z2, z3, z4, z5], .int .i64 b])) (put6i W q z0 z1 z2 z3 z4 z5)) :
    bodyPost Try.prog Try.f18 E Exit.ret a (put6i W q z0 z1 z2 z3 z4 z5) := by
  have hw : Whole (put6i W q z0 z1 z2 z3 z4 z5) q #[.int .i64 z0, .int .i64 z1, .int .i64 z2, .int .i64 z3, .int .i64 z4, .int .i64 z5] 40 := (((((hres.set 0 _).set 1 _).set 2 _).set 3 _).set 4 _).set 5 _
  have hb : Below q w (put6i W q z0 z1 z2 z3 z4 z5) := (((((hbel.setCell (p := ⟨q, 0, none⟩) (Nat.le_refl _) _).setCell (p := ⟨q, 1, none⟩) (Nat.le_refl _) _).setCell (p := ⟨q, 2, none⟩) (Nat.le_refl _) _).setCell (p := ⟨q, 3, none⟩) (Nat.le_refl _) _).setCell (p := ⟨q, 4, none⟩) (Nat.le_refl _) _).setCell (p := ⟨q, 5, none⟩) (Nat.le_refl _) _
  refine bodyPost_ret (results_tm _ _ q _ _ h4 hw rfl) hd ?_
  rw [h5]
  exact hE hb
theorem tgs_out {tag : Int} (h : ¬ (tag = 23 ∨ tag = 24)) : ydg tag = 0 := by
  unfold ydg
  rw [if_neg (fun e => h (.inl e)), if_neg (fun e => h (.inr e))]
theorem RowsM.year {w : World} {q : Nat} (h : RowsM w q) {tag : Int} (hw : -9223372036854775808 ≤ tag ∧ tag ≤ 9223372036854775807) :
    ∃ F, (Instr.lookup 59 (.map (some q)) (.int .i64 tag) false).run Try.prog w = .ok (.agg #[F, .int .i64 (ydg tag)]) w := by
  by_cases ht : tag ∈ tgs
  · obtain ⟨v, _, h2, h3⟩ := h.look ht
    unfold RwOf at h3
    split at h3
    · obtain ⟨p, hv, _⟩ := h3
      exact ⟨_, by rw [h2, hv]⟩
    · rename_i hn
      exact ⟨_, by rw [h2, h3, tgs_out hn]⟩
  · obtain ⟨_, h2⟩ := h.miss ht hw
    have h0 : ydg tag = 0 := tgs_out (fun e => ht (by rcases e with rfl | rfl <;> decide))
    exact ⟨_, by rw [h2, h0]⟩

set_option maxRecDepth 100000 in
theorem field_year (F : Value) (n : Int) (w : World) : (Instr.field 57 (.agg #[F, .int .i64 n]) 1).run Try.prog w = .ok (.int .i64 n) w := by kernel_rfl

/-- What Time answers. -/
def TmPost (w : World) (tag : Int) (xs : List UInt8) (e : Ending) (w' : World) : Prop :=
  e = .returned (.tuple #[agg6 (if (tag = 23 ∨ tag = 24) ∧ tyOk tag xs = true then tyL tag xs else [0, 0, 0, 0, 0, 0]), .int .i64 (if tag = 23 ∨ tag = 24 then (if tyOk tag xs then 0 else 13) else 2)]) ∧ Below w.heap.size w w'
theorem tmpost {w w' : World} {tag : Int} {xs : List UInt8} {zs : List Int} {b : Int} (h1 : (if (tag = 23 ∨ tag = 24) ∧ tyOk tag xs = true then tyL tag xs else [0, 0, 0, 0, 0, 0]) = zs)
    (h2 : (if tag = 23 ∨ tag = 24 then (if tyOk tag xs then (0 : Int) else 13) else 2) = b) (hb : Below w.heap.size w w') : TmPost w tag xs (.returned (.tuple #[agg6 zs, .int .i64 b])) w' := ⟨by rw [h1, h2], hb⟩

set_option maxRecDepth 100000 in
set_option maxHeartbeats 2000000 in
theorem time_any (w : World) (tag : Int) (hw : -9223372036854775808 ≤ tag ∧ tag ≤ 9223372036854775807) (A : Option Addr) (c : Nat) (xs : List UInt8) (hb : Byt w w.heap.size A xs) (hl : xs.length ≤ c) (hm : xs.length ≤ 140737488351232) :
    Calls Try.prog 18 #[.int .i64 tag, .slice A xs.length c] w (TmPost w tag xs) := by
  obtain ⟨L, hL⟩ : ∃ L, xs.length = L := ⟨_, rfl⟩
  have HRT := Lib.hid (fun w' (hB : Byt w' w'.heap.size A xs) (ht : tag = 23 ∨ tag = 24) => readtime_any w' tag ht A c xs hB hl hm)
  rw [hL] at HRT ⊢
  have HB := Lib.hid hb
  have HT := Lib.hid hw
  clear hb hl hm hw hL
  have HV := Lib.hid (show Whole (w.alloc (.cells #[.int .i64 0, .int .i64 0, .int .i64 0, .int .i64 0, .int .i64 0, .int .i64 0] 40)) w.heap.size #[.int .i64 0, .int .i64 0, .int .i64 0, .int .i64 0, .int .i64 0, .int .i64 0] 40 from Whole.new _ _ _)
  have HG := Lib.hid (show Grew w (w.alloc (.cells #[.int .i64 0, .int .i64 0, .int .i64 0, .int .i64 0, .int .i64 0, .int .i64 0] 40)) none from grew_alloc (grew_refl _ _) _)
  have HSZ := Lib.hid (show (w.alloc (.cells #[.int .i64 0, .int .i64 0, .int .i64 0, .int .i64 0, .int .i64 0, .int .i64 0] 40)).heap.size = w.heap.size + 1 by simp)
  go_enter Try.func18, Try.ntmps18
  go_upto_region 1 with (fail)
  generalize w.alloc (.cells #[.int .i64 0, .int .i64 0, .int .i64 0, .int .i64 0, .int .i64 0, .int .i64 0] 40) = W at *
  obtain ⟨q, hq⟩ : ∃ q, w.heap.size = q := ⟨_, rfl⟩
  rw [hq] at HV HSZ ⊢
  have HQ := Lib.hid hq
  clear hq
  go_wp2_with fail
  refine (rows_any W).mono ?_
  rintro e W1 ⟨m, rfl, hM, hG⟩
  have HG1 := Lib.hid (grew_trans HG.out hG)
  have HV1 := Lib.hid (HV.out.grew hG (by simp))
  obtain ⟨F, hlk⟩ := hM.year HT.out
  have HS1 := Lib.hid (show q + 1 ≤ W1.heap.size by have := hG.size; rw [HSZ.out] at this; exact this)
  have HB1 := Lib.hid (HB.out.grew HG1.out (fun _ h => by cases h))
  have HBL := Lib.hid (show Below q w W1 from HQ.out ▸ grew_below HG1.out (Nat.le_refl _) (fun _ h => by cases h))
  clear HV HG hM hG HSZ
  have hfy := field_year F
  by_cases ht : tag = 23 ∨ tag = 24
  · have hne : (ydg tag == 0) = false := by rcases ht with rfl | rfl <;> rfl
    have HRT2 := Lib.hid (HRT.out W1 (byt_up HB1.out (by rw [HQ.out]; have := HS1.out; omega)) ht)
    have HR := Lib.hid (show (if tag = 23 ∨ tag = 24 then (if tyOk tag xs then (0 : Int) else 13) else 2) = (if tyOk tag xs then 0 else 13) from if_pos ht)
    have HR2 := Lib.hid (show (if (tag = 23 ∨ tag = 24) ∧ tyOk tag xs = true then tyL tag xs else [0, 0, 0, 0, 0, 0]) = (if tyOk tag xs = true then tyL tag xs else [0, 0, 0, 0, 0, 0]) by
      cases tyOk tag xs
      · rw [if_neg (fun h => by cases h.2), if_neg (by simp)]
      · rw [if_pos ⟨ht, rfl⟩, if_pos rfl])
    clear HRT ht
    generalize hn : ydg tag = n at *
    clear hn
    go_wp2_with fail
    refine HRT2.out.mono ?_
    rintro e W2 ⟨rfl, hB2⟩
    have HV2 := Lib.hid (show Whole W2 q #[.int .i64 0, .int .i64 0, .int .i64 0, .int .i64 0, .int .i64 0, .int .i64 0] 40 from (hB2.block q (by have := HS1.out; omega)).trans HV1.out)
    have HBL2 := Lib.hid (HBL.out.trans (hB2.mono (by have := HS1.out; omega)))
    have HS2 := Lib.hid (show q + 1 ≤ W2.heap.size from Nat.le_trans HS1.out hB2.size)
    clear hB2 HRT2 hlk
    obtain ⟨R, hR⟩ : ∃ R, tyOk tag xs = R := ⟨_, rfl⟩
    obtain ⟨zs, hzs⟩ : ∃ zs, tyL tag xs = zs := ⟨_, rfl⟩
    obtain ⟨v0, v1, v2, v3, v4, v5, hv⟩ : ∃ v0 v1 v2 v3 v4 v5 : Int, zs = [v0, v1, v2, v3, v4, v5] := ⟨_, _, _, _, _, _, hzs.symm⟩
    subst hv
    rw [hR, hzs]
    have HRR := Lib.hid hR
    have HZS := Lib.hid hzs
    clear hzs hR
    cases R with
    | false =>
      rw [show agg6 (if false = true then [v0, v1, v2, v3, v4, v5] else [0, 0, 0, 0, 0, 0]) = .agg #[.int .i64 0, .int .i64 0, .int .i64 0, .int .i64 0, .int .i64 0, .int .i64 0] from rfl]
      have HV3 := Lib.hid (HV2.out.grew (grew_alloc (grew_refl W2 none) (.cells #[.int .i64 0, .int .i64 0, .int .i64 0, .int .i64 0, .int .i64 0, .int .i64 0] 40)) (by simp))
      have HBL3 := Lib.hid (HBL2.out.alloc (by have := HS2.out; omega) (.cells #[.int .i64 0, .int .i64 0, .int .i64 0, .int .i64 0, .int .i64 0, .int .i64 0] 40))
      go_upto_region 5 with (fail)
      generalize W2.alloc (.cells #[.int .i64 0, .int .i64 0, .int .i64 0, .int .i64 0, .int .i64 0, .int .i64 0] 40) = W3 at *
      obtain ⟨⟨r0, r1, r2, r3, r4, r5⟩, hr0⟩ := res_cells HV3.out
      go_wp2_with fail
      exact tm_leave HV3.out HBL3.out 0 0 0 0 0 0 13 _ rfl rfl rfl (fun hb => tmpost (by rw [HR2.out, HRR.out]; rfl) (by rw [HR.out, HRR.out]; rfl) (by rw [HQ.out]; exact hb))
    | true =>
      rw [show agg6 (if true = true then [v0, v1, v2, v3, v4, v5] else [0, 0, 0, 0, 0, 0]) = .agg #[.int .i64 v0, .int .i64 v1, .int .i64 v2, .int .i64 v3, .int .i64 v4, .int .i64 v5] from rfl]
      have HV3 := Lib.hid (HV2.out.grew (grew_alloc (grew_refl W2 none) (.cells #[.int .i64 v0, .int .i64 v1, .int .i64 v2, .int .i64 v3, .int .i64 v4, .int .i64 v5] 40)) (by simp))
      have HBL3 := Lib.hid (HBL2.out.alloc (by have := HS2.out; omega) (.cells #[.int .i64 v0, .int .i64 v1, .int .i64 v2, .int .i64 v3, .int .i64 v4, .int .i64 v5] 40))
      have HK3 := Lib.hid (Whole.new W2 #[.int .i64 v0, .int .i64 v1, .int .i64 v2, .int .i64 v3, .int .i64 v4, .int .i64 v5] 40)
      go_upto_region 5 with (fail)
      generalize W2.alloc (.cells #[.int .i64 v0, .int .i64 v1, .int .i64 v2, .int .i64 v3, .int .i64 v4, .int .i64 v5] 40) = W3 at *
      generalize W2.heap.size = r at *
      obtain ⟨⟨r0, r1, r2, r3, r4, r5⟩, hr0⟩ := res_cells HV3.out
      have k0 : W3.cell? ⟨r, 0, none⟩ = some (.int .i64 v0) := HK3.out.cell 0
      have k1 : W3.cell? ⟨r, 1, none⟩ = some (.int .i64 v1) := HK3.out.cell 1
      have k2 : W3.cell? ⟨r, 2, none⟩ = some (.int .i64 v2) := HK3.out.cell 2
      have k3 : W3.cell? ⟨r, 3, none⟩ = some (.int .i64 v3) := HK3.out.cell 3
      have k4 : W3.cell? ⟨r, 4, none⟩ = some (.int .i64 v4) := HK3.out.cell 4
      have k5 : W3.cell? ⟨r, 5, none⟩ = some (.int .i64 v5) := HK3.out.cell 5
      go_wp2_with fail
      exact tm_leave HV3.out HBL3.out v0 v1 v2 v3 v4 v5 0 _ rfl rfl rfl (fun hb => tmpost (by rw [HR2.out, HRR.out, HZS.out]; rfl) (by rw [HR.out, HRR.out]; rfl) (by rw [HQ.out]; exact hb))
  · have h0 : ydg tag = 0 := tgs_out ht
    rw [h0] at hlk
    have HR := Lib.hid (show (if tag = 23 ∨ tag = 24 then (if tyOk tag xs then (0 : Int) else 13) else 2) = 2 from if_neg ht)
    have HR2 := Lib.hid (show (if (tag = 23 ∨ tag = 24) ∧ tyOk tag xs = true then tyL tag xs else [0, 0, 0, 0, 0, 0]) = [0, 0, 0, 0, 0, 0] from if_neg (fun h => ht h.1))
    obtain ⟨⟨r0, r1, r2, r3, r4, r5⟩, hr0⟩ := res_cells HV1.out
    clear HRT ht h0
    go_wp2_with fail
    exact tm_leave HV1.out HBL.out 0 0 0 0 0 0 2 _ rfl rfl rfl (fun hb => tmpost HR2.out HR.out (by rw [HQ.out]; exact hb))
end Go.Proofs.Ytnegakobammljaa

