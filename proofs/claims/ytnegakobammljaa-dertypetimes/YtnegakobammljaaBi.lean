/- Bits: the package's own. -/
import Derived.Test.YtnegakobammljaaNb
import Derived.Test.YtnegakobammljaaNu
import Derived.Test.YtnegakobammljaaLw10
import Derived.Deep.RegionHeld3
namespace Go.Proofs.Ytnegakobammljaa
open Go.RowKit

set_option maxRecDepth 100000 in
theorem bclone_own (w : World) (A : Option Addr) (c : Nat) (xs : List UInt8) (hl : Byt w w.heap.size A xs) (hm : xs.length ≤ 140737488355328) :
    Calls Try.prog 30 #[.slice A xs.length c] w fun e w' => ∃ A' c', e = .returned (.slice A' xs.length c') ∧ w'.ownsRow 0 5 1 (.slice A' xs.length c') xs.length (cellsOf xs) ∧ Grew w w' none := by
  have HL := Lib.hid hl
  have HM := Lib.hid hm
  cases A with
  | none =>
    have e0 : xs = [] := by
      rcases Nat.eq_zero_or_pos xs.length with h | h
      · exact List.eq_nil_of_length_eq_zero h
      · obtain ⟨_, _, h, _⟩ := hl h
        cases h
    subst e0
    clear hl hm
    have he : ∀ w : World, (binOp .eql 22 (.slice none 0 c) (.slice none 0 0)).run Try.prog w = .ok (.bool true) w := fun _ => by kernel_rfl
    go_enter Try.func30, Try.ntmps30
    go_wp2_with fail
    go_ret
    exact ⟨none, 0, rfl, World.ownsRow_nil _ _ _ _, grew_refl _ _⟩
  | some a =>
    clear hl hm
    have he : ∀ w : World, (binOp .eql 22 (.slice (some a) xs.length c) (.slice none 0 0)).run Try.prog w = .ok (.bool false) w := fun _ => by kernel_rfl
    go_enter Try.func30, Try.ntmps30
    have HA := Lib.hid (fun ty => append_bytes (P := Try.prog) (w := w.alloc (.cells #[] 5)) 22 ty 5 Try.underlying22 (by kernel_rfl) (xs := []) (v := .slice (some ⟨w.heap.size, 0, none⟩) 0 0) (n := 0) ⟨rfl, .inr ⟨w.heap.size, 0, #[], rfl, Nat.zero_le _, Whole.new _ _ _, Nat.le_refl _, by unfold maxLen; omega, rfl, rfl⟩⟩ (F := (· < w.heap.size)) ((HL.out.grew (grew_alloc (grew_refl _ none) _) (fun _ h => by cases h)).byf) c (by have := HM.out; omega))
    go_wp2_with (at_builtin; refine wpList_append_run _ rfl (.tmp 5) (.tmp 6) 22 rfl rfl rfl HA.out ?_; rintro v' w1 ⟨a1, a2, a3⟩; have A1 := Lib.hid a1; have A2 := Lib.hid a2; have A3 := Lib.hid a3; clear a1 a2 a3)
    go_ret
    have h1 := A1.out
    rw [Nat.zero_add] at h1
    obtain ⟨A', c', rfl, _⟩ := byt_owned h1
    exact ⟨A', c', rfl, h1, grew_own (grew_alloc (grew_refl _ none) _) A2.out (Nat.le_refl _)⟩


/-- What Bits answers. -/
def BiPost (w : World) (xs : List UInt8) (e : Ending) (w' : World) : Prop := ∃ (A' : Option Addr) (c' : Nat) (ys : List UInt8), ys = (if bt xs then xs.tail else []) ∧
      e = .returned (.tuple #[.slice A' ys.length c', .int .i64 (if bt xs then ((xs.getD 0 0).toNat : Int) else 0), .int .i64 (if bt xs then 0 else 13)]) ∧
      ys.length ≤ c' ∧ Byt w' w'.heap.size A' ys ∧ Below w.heap.size w w'
theorem bi_no {w : World} {xs : List UInt8} (h : bt xs = false) : BiPost w xs (.returned (.tuple #[.slice none 0 0, .int .i64 0, .int .i64 13])) w :=
  ⟨none, 0, [], by rw [h]; rfl, by rw [h]; rfl, Nat.le_refl _, fun h => by simp at h, Below.refl _ _⟩
theorem bi_yes {w w' : World} {xs : List UInt8} {A' : Option Addr} {M c' d : Nat} (h : bt xs = true) (hl : xs.tail.length = M) (hd : (xs.getD 0 0).toNat = d) (ho : w'.ownsRow 0 5 1 (.slice A' M c') M (cellsOf xs.tail)) (hB : Below w.heap.size w w') :
    BiPost w xs (.returned (.tuple #[.slice A' M c', .int .i64 (d : Int), .int .i64 0])) w' := by
  subst hl
  subst hd
  obtain ⟨A2, c2, e, h1, h2, _⟩ := byt_owned ho
  injection e with e1 _ e2
  subst e1
  subst e2
  exact ⟨A', c', xs.tail, by rw [h]; rfl, by rw [h]; rfl, h1, h2, hB⟩

set_option maxRecDepth 100000 in
set_option maxHeartbeats 2000000 in
theorem bits_any (w : World) (A : Option Addr) (c : Nat) (xs : List UInt8) (hb : Byt w w.heap.size A xs) (hl : xs.length ≤ c) (hm : xs.length ≤ 140737488351232) :
    Calls Try.prog 17 #[.slice A xs.length c] w (BiPost w xs) := by
  have hck := isbits_any w A c xs hb hm
  cases hv : bt xs with
  | false =>
    rw [hv] at hck
    obtain ⟨L, hL⟩ : ∃ L, xs.length = L := ⟨_, rfl⟩
    rw [hL] at hck ⊢
    have HV := Lib.hid hv
    clear hb hl hm hL hv
    go_enter Try.func17, Try.ntmps17
    go_wp2_with fail
    refine hck.mono ?_
    rintro e w' ⟨rfl, hw⟩
    obtain rfl : w = w' := hw.symm
    clear hw
    go_wp2_with fail
    refine bodyPost_ret (results_tmp3 rfl _ _ _) rfl (bi_no HV.out)
  | true =>
    rw [hv] at hck
    obtain ⟨M, hL⟩ : ∃ M, xs.length = M + 1 := by
      cases xs with
      | nil => cases hv
      | cons x r => exact ⟨r.length, rfl⟩
    obtain ⟨b, o, rfl, hbb, hc⟩ := hb (by omega)
    obtain ⟨d, hd⟩ : ∃ d, (xs.getD 0 0).toNat = d := ⟨_, rfl⟩
    have hd256 : d < 256 := by rw [← hd]; exact UInt8.toNat_lt _
    have c0 : w.cell? ⟨b, o, none⟩ = some (.int .u8 (d : Int)) := by have := hc 0 (by omega); rw [hd] at this; exact this
    rw [hL] at hck hl ⊢
    obtain ⟨A', hsl, hA'⟩ := slice_rest' b o M c hl
    have htl : xs.tail.length = M := by rw [List.length_tail, hL]; rfl
    have hbt : Byt w.drew w.drew.heap.size A' xs.tail := by
      intro hn
      rw [htl] at hn
      refine ⟨b, o + 1, hA' hn, hbb, fun i hi => ?_⟩
      rw [htl] at hi
      have := hc (i + 1) (by omega)
      rw [show o + 1 + i = o + (i + 1) by omega]
      rw [show xs.tail.getD i 0 = xs.getD (i + 1) 0 by simp [List.getD_eq_getElem?_getD]]
      exact this
    have hcl := bclone_own w.drew A' (c - 1) xs.tail hbt (by omega)
    rw [htl] at hcl
    have f1 : IntKind.i64.wrap (d : Int) = d := by rw [IntWalk.i64_left, IntWalk.wrap64_in _ (by omega)]
    have HCL := Lib.hid hcl
    have HTL := Lib.hid htl
    have HD := Lib.hid hd
    have HV := Lib.hid hv
    have hl1 : (1 : Int) ≤ (M : Int) + 1 := by omega
    clear hb hm hbb hc hd hL hbt hcl htl hv hA'
    go_enter Try.func17, Try.ntmps17
    go_wp2_with fail
    refine hck.mono ?_
    rintro e w' ⟨rfl, hw⟩
    obtain rfl : w = w' := hw.symm
    clear hw hck
    go_upto_region 3 with (fail)
    have k0 : w.drew.cell? ⟨b, o, none⟩ = some (.int .u8 (d : Int)) := c0
    have kk : ∀ w2, Grew w.drew w2 none → w2.cell? ⟨b, o, none⟩ = some (.int .u8 (d : Int)) := fun w2 g => g.cell k0 (by simp)
    go_region_held3 (fun w' => w'.cell? ⟨b, o, none⟩ = some (.int .u8 (d : Int))) (first | exact k0 | exact kk _ (Hid.out (by assumption))) ((go_at_call 30; refine HCL.out.mono ?_; rintro e w2 ⟨B2, c2, rfl, h1, h2⟩; have K1 := Lib.hid h1; have K2 := Lib.hid h2; clear h1 h2))
    go_wp2_with fail
    refine bodyPost_ret (results_tmp3 rfl _ _ _) rfl (bi_yes HV.out HTL.out HD.out K1.out ?_)
    exact grew_below (grew_trans (grew_drew (grew_refl w none)) K2.out) (Nat.le_refl _) (fun _ h => by cases h)
end Go.Proofs.Ytnegakobammljaa

