/- Contracts of the law's own functions of layer 2: great, fives, do. -/
import Derived.Test.YtkeiamihgcbcbaaBd4
import Derived.Test.YtkeiamihgcbcbaaActs2
namespace Go.Proofs.Ytkeiamihgcbcbaa
open Go.RowKit

/-- Are acts more than are looked at? -/
def grt (zs : List Ac) : Bool := decide (60 < zs.length) || zs.any fun a => decide (300 < a.bs.length)
theorem grt_false {zs : List Ac} (h : grt zs = false) : zs.length ≤ 60 ∧ ∀ a ∈ zs, a.bs.length ≤ 300 := by
  simp [grt] at h
  exact ⟨by omega, fun a ha => by have := h.2 a ha; omega⟩

/-- The five cells of an act that came in, in a world where nothing old has turned. -/
theorem Acts.cell {w wr : World} {A : Option Addr} {zs : List Ac} (h : Acts w A zs) (g : Grew w wr none) {k : Nat} (hk : k < zs.length) :
    ∃ b o, A = some ⟨b, o, none⟩ ∧ b < w.heap.size ∧ wr.cell? ⟨b, o + k * 5, none⟩ = some (.int .i64 (zs.getD k default).kind) ∧ wr.cell? ⟨b, o + k * 5 + 1, none⟩ = some (.int .i64 (zs.getD k default).size) ∧
      wr.cell? ⟨b, o + k * 5 + 2, none⟩ = some (.int .i64 (zs.getD k default).n) ∧ wr.cell? ⟨b, o + k * 5 + 3, none⟩ = some (.int .u64 (zs.getD k default).x) ∧
      wr.cell? ⟨b, o + k * 5 + 4, none⟩ = some (.slice (zs.getD k default).A (zs.getD k default).bs.length (zs.getD k default).c) := by
  obtain ⟨b, o, rfl, hb, hc⟩ := h (by omega)
  exact ⟨b, o, rfl, hb, g.cell (hc k hk 0 _ rfl) (by simp), g.cell (hc k hk 1 _ rfl) (by simp), g.cell (hc k hk 2 _ rfl) (by simp), g.cell (hc k hk 3 _ rfl) (by simp), g.cell (hc k hk 4 _ rfl) (by simp)⟩

set_option maxHeartbeats 1000000 in
theorem great_any (w : World) (A : Option Addr) (c : Nat) (zs : List Ac) (_ : c ≤ 140737488351232) (_ : zs.length ≤ c) (hz : Acts w A zs) :
    Calls Try.prog 10 #[.slice A zs.length c] w fun e w' => e = .returned (.bool (grt zs)) ∧ Grew w w' none := by
  by_cases hbig : 60 < zs.length
  · have e : grt zs = true := by simp [grt, hbig]
    rw [e]
    clear hz e
    generalize zs.length = n at *
    go_enter Try.func10, Try.ntmps10
    go_wp2
    go_ret
    exact ⟨rfl, grew_refl _ _⟩
  · have HZ := Lib.hid hz
    clear hz
    go_enter Try.func10, Try.ntmps10
    go_wp2_with fail
    go_loopw [10] (fun i wr => ∃ k : Nat, k ≤ zs.length ∧ i = .int .i64 k ∧ Hid (∀ a ∈ zs.take k, a.bs.length ≤ 300) ∧ Hid (Grew w wr none)) (fun i _ => zs.length - (intOf i).toNat)
    case atStart => exact ⟨0, Nat.zero_le _, rfl, Lib.hid (by simp), Lib.hid (grew_refl _ _)⟩
    case round =>
      obtain ⟨k, hk, rfl, R1, R2⟩ := hrel
      by_cases hlt : k < zs.length
      · obtain ⟨b, o, rfl, hb, c0, c1, c2, c3, c4⟩ := HZ.out.cell R2.out hlt
        have hm : zs.getD k default ∈ zs := by
          rw [List.getD, List.getElem?_eq_getElem hlt]
          exact List.getElem_mem hlt
        have htk : zs.take (k + 1) = zs.take k ++ [zs.getD k default] := by
          rw [List.take_succ_eq_append_getElem hlt]
          simp [List.getD, List.getElem?_eq_getElem hlt]
        have HM := Lib.hid hm
        have HTK := Lib.hid htk
        clear hm htk
        generalize zs.getD k default = a at *
        by_cases h3 : 300 < a.bs.length
        · have e : grt zs = true := by
            simp [grt]
            exact .inr ⟨a, HM.out, h3⟩
          have HE := Lib.hid e
          clear e
          obtain ⟨kd, sz, n, x, B, cB, bs⟩ := a
          simp only at c0 c1 c2 c3 c4 h3
          generalize bs.length = lb at *
          go_wp2
          go_ret
          exact ⟨by rw [HE.out]; rfl, grew_alloc R2.out _⟩
        · have h3' : ¬ ((300 : Int) < (a.bs.length : Int)) := by omega
          have HR := Lib.hid (show ∀ a' ∈ zs.take (k + 1), a'.bs.length ≤ 300 from by
            rw [HTK.out]
            intro a' ha'
            rw [List.mem_append, List.mem_singleton] at ha'
            rcases ha' with h | rfl
            · exact R1.out a' h
            · omega)
          clear HM HTK
          obtain ⟨kd, sz, n, x, B, cB, bs⟩ := a
          simp only at c0 c1 c2 c3 c4 h3 h3'
          generalize bs.length = lb at *
          go_wp2
          go_roundw
          case rel => exact ⟨k + 1, by omega, by go_num, HR, Lib.hid (grew_alloc R2.out _)⟩
          case measure => simp [intOf]; omega
      · obtain rfl : k = zs.length := by omega
        have e : grt zs = false := by
          have := R1.out
          rw [List.take_length] at this
          simp [grt]
          exact ⟨by omega, fun a ha => by have := this a ha; omega⟩
        have HE := Lib.hid e
        clear e
        go_wp2
        go_ret
        exact ⟨by rw [HE.out]; rfl, R2.out⟩

/-- How many fives. -/
def fv (n : Int) : Nat := (if (0 : Int) < n then n else 0).toNat % 300
theorem fv_lt (n : Int) : fv n < 300 := Nat.mod_lt _ (by omega)

set_option maxHeartbeats 1000000 in
theorem fives_any (w : World) (n : Int) :
    Calls Try.prog 28 #[.int .i64 n] w fun e w' => e = .returned (.slice (some ⟨w.heap.size, 0, none⟩) (fv n) (fv n)) ∧ ByF w' (fun i => i = w.heap.size) (some ⟨w.heap.size, 0, none⟩) (List.replicate (fv n) 5) ∧ Grew w w' none := by
  obtain ⟨M, hM⟩ : ∃ M : Nat, (if (0 : Int) < n then n else 0) = (M : Int) := by
    by_cases h : (0 : Int) < n
    · exact ⟨n.toNat, by rw [if_pos h]; omega⟩
    · exact ⟨0, by rw [if_neg h]; rfl⟩
  have hf : (M : Int) % 300 = (fv n : Int) := by unfold fv; rw [hM]; omega
  have hlt := fv_lt n
  generalize fv n = f at *
  have hmk := run_make_row' (P := Try.prog) 32 5 (.int .u8 0) 1 Try.underlying32 info_u8 rfl .i64 .i64 f (by omega) (by omega)
  have hW := Whole.new w (madeCells #[.int .u8 0] f) 5
  have hcs : madeCells #[.int .u8 0] f = (cellsOf (List.replicate f 0)).toArray := by
    apply Array.ext'
    rw [toList_madeCells_one]
    simp [cellsOf]
  have HW := Lib.hid (by rw [hcs] at hW; exact hW)
  have HG := Lib.hid (grew_alloc (grew_refl w none) (.cells (madeCells #[.int .u8 0] f) 5))
  rw [hcs] at HG
  have HCS := Lib.hid hcs
  clear hW hcs
  go_enter Try.func28, Try.ntmps28
  go_wp2_with fail
  rw [HCS.out]
  generalize w.alloc (.cells (cellsOf (List.replicate f 0)).toArray 5) = W at *
  generalize hq : w.heap.size = q at *
  have HQ := Lib.hid hq
  clear hq hmk HCS
  go_loopw [11] (fun i wr => ∃ k : Nat, k ≤ f ∧ i = .int .i64 k ∧ Hid (Whole wr q (cellsOf (List.replicate k 5 ++ List.replicate (f - k) 0)).toArray 5) ∧ Hid (Grew w wr none)) (fun i _ => f - (intOf i).toNat)
  case atStart => exact ⟨0, Nat.zero_le _, rfl, by simpa using HW, HG⟩
  case round =>
    obtain ⟨k, hk, rfl, R1, R2⟩ := hrel
    by_cases hltk : k < f
    · have hc := R1.out.cell k
      have hfz := R1.out.frozen k
      have hc' : (cellsOf (List.replicate k 5 ++ List.replicate (f - k) 0)).toArray[k]? = some (.int .u8 0) := by
        rw [List.getElem?_toArray, cellsOf_at _ _ (by simp; omega)]
        simp [List.getD, show 0 < f - k from by omega]
      rw [hc'] at hc
      have hset := R1.out.set k (.int .u8 5)
      have e2 : (cellsOf (List.replicate k 5 ++ List.replicate (f - k) 0)).toArray.setIfInBounds k (.int .u8 5) = (cellsOf (List.replicate (k + 1) 5 ++ List.replicate (f - (k + 1)) 0)).toArray := by
        apply Array.ext'
        have e3 : f - k = (f - (k + 1)) + 1 := by omega
        rw [e3, List.replicate_succ, List.replicate_succ' (n := k)]
        simp [cellsOf]
      rw [e2] at hset
      have HS := Lib.hid hset
      have HG2 := Lib.hid (grew_own R2.out (grew_set (p := q) (grew_refl wr _) k none (.int .u8 5)) (Nat.le_of_eq HQ.out))
      clear hc' hset e2
      go_wp2
      go_roundw
      case rel => exact ⟨k + 1, by omega, by go_num, HS, HG2⟩
      case measure => simp [intOf]; omega
    · obtain rfl : k = f := by omega
      go_wp2
      go_ret
      rw [HQ.out]
      refine ⟨rfl, ?_, R2.out⟩
      have := ByF.of_whole (k := 0) R1.out (ys := List.replicate k 5) (by simp)
      simpa using this

/-- What an act tells; the bytes and the parts then. -/
def doE (most : Nat) (xs : List UInt8) (ps : List (Nat × Nat)) (a : Ac) : Int :=
  if a.kind = 0 then nbE most xs.length a.size a.x else if a.kind = 1 then adE most xs.length a.bs.length else if a.kind = 2 then opE most xs.length a.size else if a.kind = 3 then clE xs.length ps else if a.kind = 4 then adE most xs.length (fv a.n) else 0
def doX (most : Nat) (xs : List UInt8) (ps : List (Nat × Nat)) (a : Ac) : List UInt8 :=
  if a.kind = 0 then nbX most xs a.size a.x else if a.kind = 1 then adX most xs a.bs else if a.kind = 2 then opX most xs a.size else if a.kind = 3 then clX xs ps else if a.kind = 4 then adX most xs (List.replicate (fv a.n) 5) else xs
def doP (most : Nat) (xs : List UInt8) (ps : List (Nat × Nat)) (a : Ac) : List (Nat × Nat) :=
  if a.kind = 2 then opP most xs.length ps a.size else if a.kind = 3 then clP xs.length ps else ps

set_option maxHeartbeats 4000000 in
theorem do_any (w : World) (F : Nat → Prop) (p most : Nat) (xs : List UInt8) (ps : List (Nat × Nat)) (h : Bd w F p most xs ps) (a : Ac) (hx : a.x < 18446744073709551616) (B : Nat) (hb : Byt w B a.A a.bs) :
    Calls Try.prog 13 #[.pointer (some ⟨p, 0, none⟩), .agg a.cells] w fun e w' => e = .returned (.int .i64 (doE most xs ps a)) ∧ BdOut w w' F p most (doX most xs ps a) (doP most xs ps a) := by
  obtain ⟨kd, sz, n, x, A, c, bs⟩ := a
  simp only [doE, doX, doP, Ac.cells] at hx hb ⊢
  have hF : Fr w (w.alloc (.cells #[.int .i64 kd, .int .i64 sz, .int .i64 n, .int .u64 x, .slice A bs.length c] 34)) (fun _ => False) := (Fr.refl _ _).alloc _
  have h1 := h.fr hF (fun _ _ h => h)
  have hb1 := (hb.byf).fr hF (fun _ _ h => h)
  have HF := Lib.hid hF
  have H1 := Lib.hid h1
  have HB := Lib.hid hb1
  have H0 := Lib.hid h
  have hp := h.lt
  clear h h1 hb hb1 hF
  by_cases k0 : kd = 0
  · subst k0
    simp only [if_true, show ¬ ((0 : Int) = 2) from by decide, show ¬ ((0 : Int) = 3) from by decide, if_false]
    go_enter Try.func13, Try.ntmps13
    go_wp2_with fail
    refine (bnumber_any _ F p most xs ps H1.out sz x hx).mono ?_
    rintro e w2 ⟨rfl, h2⟩
    have H2 := Lib.hid h2
    clear h2
    go_wp2_with fail
    go_ret
    exact ⟨rfl, H2.out.ahead HF.out⟩
  have k0' : (kd == 0) = false := by simpa using k0
  by_cases k1 : kd = 1
  · subst k1
    simp only [show ¬ ((1 : Int) = 0) from by decide, if_true, show ¬ ((1 : Int) = 2) from by decide, show ¬ ((1 : Int) = 3) from by decide, if_false]
    go_enter Try.func13, Try.ntmps13
    go_wp2_with fail
    refine (bbytes_any _ F p most xs ps H1.out _ A bs c HB.out).mono ?_
    rintro e w2 ⟨rfl, h2⟩
    have H2 := Lib.hid h2
    clear h2
    go_wp2_with fail
    go_ret
    exact ⟨rfl, H2.out.ahead HF.out⟩
  have k1' : (kd == 1) = false := by simpa using k1
  by_cases k2 : kd = 2
  · subst k2
    simp only [show ¬ ((2 : Int) = 0) from by decide, show ¬ ((2 : Int) = 1) from by decide, if_true, if_false]
    go_enter Try.func13, Try.ntmps13
    go_wp2_with fail
    refine (bopen_any _ F p most xs ps H1.out sz).mono ?_
    rintro e w2 ⟨rfl, h2⟩
    have H2 := Lib.hid h2
    clear h2
    go_wp2_with fail
    go_ret
    exact ⟨rfl, H2.out.ahead HF.out⟩
  have k2' : (kd == 2) = false := by simpa using k2
  by_cases k3 : kd = 3
  · subst k3
    simp only [show ¬ ((3 : Int) = 0) from by decide, show ¬ ((3 : Int) = 1) from by decide, show ¬ ((3 : Int) = 2) from by decide, if_true, if_false]
    go_enter Try.func13, Try.ntmps13
    go_wp2_with fail
    refine (bclose_any _ F p most xs ps H1.out).mono ?_
    rintro e w2 ⟨rfl, h2⟩
    have H2 := Lib.hid h2
    clear h2
    go_wp2_with fail
    go_ret
    exact ⟨rfl, H2.out.ahead HF.out⟩
  have k3' : (kd == 3) = false := by simpa using k3
  by_cases k4 : kd = 4
  · subst k4
    simp only [show ¬ ((4 : Int) = 0) from by decide, show ¬ ((4 : Int) = 1) from by decide, show ¬ ((4 : Int) = 2) from by decide, show ¬ ((4 : Int) = 3) from by decide, if_true, if_false]
    go_enter Try.func13, Try.ntmps13
    go_wp2_with fail
    generalize w.alloc (.cells #[.int .i64 4, .int .i64 sz, .int .i64 n, .int .u64 x, .slice A bs.length c] 34) = W1 at *
    refine (fives_any _ n).mono ?_
    rintro e w2 ⟨rfl, b2, g2⟩
    generalize W1.heap.size = z at *
    have hc := bbytes_any w2 F p most xs ps (H1.out.fr (Fr.of_grew g2) (fun _ _ h => by cases h)) _ _ _ (fv n) b2
    rw [List.length_replicate] at hc
    have HC := Lib.hid hc
    have HF2 := Lib.hid (HF.out.trans (Fr.of_grew g2) (fun _ _ h => by cases h))
    clear hc b2 g2
    go_wp2_with fail
    with_reducible refine HC.out.mono ?_
    rintro e w3 ⟨rfl, h3⟩
    have H3 := Lib.hid h3
    clear h3
    go_wp2_with fail
    go_ret
    exact ⟨rfl, H3.out.ahead HF2.out⟩
  have k4' : (kd == 4) = false := by simpa using k4
  simp only [if_neg k0, if_neg k1, if_neg k2, if_neg k3, if_neg k4]
  clear k0 k1 k2 k3 k4
  go_enter Try.func13, Try.ntmps13
  go_wp2_with fail
  go_ret
  exact ⟨rfl, F, H1.out, HF.out.mono (fun _ _ h => h.elim), fun _ h => .inl h⟩

end Go.Proofs.Ytkeiamihgcbcbaa

