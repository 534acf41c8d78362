/- The statements' own examples, what is too great, a base that may be. -/
import Derived.Test.YtdamjbngopfpkaaRx14
import Derived.Test.YtdamjbngopfpkaaVg
import Derived.Laws.Strings
namespace Go.Proofs.Ytdamjbngopfpkaa
open Go.RowKit Va

theorem nf_parts {v u : Va} (h : v.nf = u) : v.n = u.n ∧ v.bs = u.bs ∧ nfs v.ls = u.ls := by
  subst h
  cases v
  rw [nf]
  exact ⟨rfl, rfl, rfl⟩

/-- Great of a form alone. -/
theorem gr0_any (w : World) (f : Fo) (hf : f.In w) :
    Calls Try.prog 22 #[f.val, .slice none 0 0] w fun e w' => e = .returned (.int .i64 (if 500 < f.cnt then 1 else 0)) ∧ Grew w w' none := by
  have HF := Lib.hid hf
  clear hf
  rw [val_eq]
  have hd : ∀ r : Int, r = (if 500 < f.cnt then (1 : Int) else 0) → r = (if 500 < f.cnt then (1 : Int) else 0) := fun _ h => h
  generalize hR : (if 500 < f.cnt then (1 : Int) else 0) = R at *
  have HR := Lib.hid hR
  clear hd hR
  go_enter Try.func22, Try.ntmps22
  go_wp2_with fail
  refine (count_any f 500 _ (by omega) (by omega) (HF.out.grew (grew_alloc (grew_refl _ _) _))).mono ?_
  rintro e w1 ⟨rfl, g1⟩
  have HG1 := Lib.hid (grew_trans (grew_alloc (grew_refl w none) _) g1)
  clear g1
  generalize hC : min (f.cnt : Int) (500 + 1) = C at *
  have HC := Lib.hid hC
  clear hC
  by_cases hC : 500 < C
  · have e : R = 1 := by rw [← HR.out, if_pos (by have := HC.out; omega)]
    subst e
    go_wp2_with fail
    go_ret
    exact ⟨rfl, HG1.out⟩
  · have e : R = 0 := by rw [← HR.out, if_neg (by have := HC.out; omega)]
    subst e
    go_wp2_with fail
    go_loopw [12] (fun i wr => i = .int .i64 0 ∧ Hid (Grew w wr none)) (fun _ _ => 0)
    case atStart => exact ⟨rfl, HG1⟩
    case round =>
      obtain ⟨rfl, R⟩ := hrel
      go_wp2_with fail
      go_ret
      exact ⟨rfl, R.out⟩

theorem great6_any (w : World) (f : Fo) (hf : f.In w) (A : Option Addr) (c : Nat) (n : Nat) :
    Calls Try.prog 9 #[f.val, .slice A n c] w fun e w' => e = .returned (.bool (decide (500 < f.cnt ∨ 2000 < n))) ∧ Grew w w' none := by
  have HF := Lib.hid hf
  clear hf
  rw [val_eq]
  by_cases h1 : 500 < f.cnt
  · have e : decide (500 < f.cnt ∨ 2000 < n) = true := by simp [h1]
    rw [e]
    have HE := Lib.hid (show (if 500 < f.cnt then (1 : Int) else 0) = 1 from if_pos h1)
    go_enter Try.func9, Try.ntmps9
    go_wp2_with fail
    refine (gr0_any _ f (HF.out.grew (grew_alloc (grew_refl _ _) _))).mono ?_
    rintro e w1 ⟨rfl, g1⟩
    rw [HE.out]
    go_wp2_with fail
    go_ret
    exact ⟨rfl, grew_trans (grew_alloc (grew_refl w none) _) g1⟩
  · have HE := Lib.hid (show (if 500 < f.cnt then (1 : Int) else 0) = 0 from if_neg h1)
    have e : decide (500 < f.cnt ∨ 2000 < n) = decide (2000 < n) := by simp [h1]
    rw [e]
    clear e
    go_enter Try.func9, Try.ntmps9
    go_wp2_with fail
    refine (gr0_any _ f (HF.out.grew (grew_alloc (grew_refl _ _) _))).mono ?_
    rintro e w1 ⟨rfl, g1⟩
    rw [HE.out]
    go_wp2_with fail
    go_ret
    exact ⟨by simp; omega, grew_trans (grew_alloc (grew_refl w none) _) g1⟩

def plc (a : Int) : Int := (IntKind.u64.wrap a).tmod 1099511627776
theorem plc_bd (a : Int) : 0 ≤ plc a ∧ plc a < 1099511627776 := by
  have h0 : 0 ≤ IntKind.u64.wrap a := by rw [IntKind.wrap_u64]; omega
  unfold plc
  rw [Int.tmod_eq_emod_of_nonneg h0]
  omega
set_option maxHeartbeats 400000 in
theorem place6_any (w : World) (a : Int) : Calls Try.prog 20 #[.int .i64 a] w fun e w' => e = .returned (.int .i64 (plc a)) ∧ w = w' := by
  have hb := plc_bd a
  have he : (IntKind.u64.wrap a).tmod 1099511627776 = plc a := rfl
  generalize plc a = q at *
  go_enter Try.func20, Try.ntmps20
  go_wp2
  go_ret
  exact ⟨rfl, rfl⟩

/-- The examples' form. -/
def f0 (A : Option Addr) : Fo := .mk 3 0 0 0 0 A 2 [.mk 0 1 0 0 0 none 0 [], .mk 1 1 1 3 1 none 0 []]
theorem ex1 (A : Option Addr) : rdAll (f0 A) [7, 2, 8, 9] = ⟨0, 4, vL [vN 7, vB [8, 9]], 3⟩ := by kernel_rfl
theorem ex2 (A : Option Addr) : rdAll (f0 A) [7, 4, 8] = ⟨5, 1, v0, 3⟩ := by kernel_rfl
theorem ex3 (A : Option Addr) : rdAll (f0 A) [7, 2, 8] = ⟨4, 3, v0, 3⟩ := by kernel_rfl
theorem ex4 (A : Option Addr) : rdAll (f0 A) [7, 1, 8, 9] = ⟨6, 3, v0, 3⟩ := by kernel_rfl
end Go.Proofs.Ytdamjbngopfpkaa

