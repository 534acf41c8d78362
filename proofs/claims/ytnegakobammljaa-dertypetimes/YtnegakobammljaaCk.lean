/- Check: the package's own. -/
import Derived.Test.YtnegakobammljaaTk
import Derived.Test.YtnegakobammljaaNb
import Derived.Test.YtnegakobammljaaNu
namespace Go.Proofs.Ytnegakobammljaa
open Go.RowKit

/-- May they be its bytes? -/
def ckB (tag : Int) (xs : List UInt8) : Bool := ckE tag xs == 0
theorem ck_in {tag : Int} (h : tag ∈ tgs) (xs : List UInt8) : ckE tag xs = if ckB tag xs then 0 else 13 := by
  have key : ckE tag xs = 0 ∨ ckE tag xs = 13 := by
    obtain ⟨j, hj, rfl⟩ := tgA_mem h
    have k : ∀ b : Bool, (if b then (0 : Int) else 13) = 0 ∨ (if b then (0 : Int) else 13) = 13 := by decide
    have h17 : j = 0 ∨ j = 1 ∨ j = 2 ∨ j = 3 ∨ j = 4 ∨ j = 5 ∨ j = 6 ∨ j = 7 ∨ j = 8 ∨ j = 9 ∨ j = 10 ∨ j = 11 ∨ j = 12 ∨ j = 13 ∨ j = 14 ∨ j = 15 ∨ j = 16 := by omega
    rcases h17 with rfl | rfl | rfl | rfl | rfl | rfl | rfl | rfl | rfl | rfl | rfl | rfl | rfl | rfl | rfl | rfl | rfl <;> first | exact k _ | exact .inl rfl
  unfold ckB
  rcases key with h | h <;> rw [h] <;> rfl
theorem ck_out {tag : Int} (h : tag ∉ tgs) (xs : List UInt8) : ckE tag xs = 2 := by
  have n : ∀ t, t ∈ tgs → tag ≠ t := fun t ht e => h (e ▸ ht)
  unfold ckE
  rw [if_neg (n 1 (by decide)), if_neg (fun e => e.elim (n 2 (by decide)) (n 10 (by decide))), if_neg (n 3 (by decide)), if_neg (n 5 (by decide)), if_neg (n 6 (by decide)), if_neg (fun e => e.elim (n 23 (by decide)) (n 24 (by decide)))]
  refine if_neg ?_
  rintro (e | e | e | e | e | e | e | e | e)
  · exact n 4 (by decide) e
  · exact n 12 (by decide) e
  · exact n 18 (by decide) e
  · exact n 19 (by decide) e
  · exact n 20 (by decide) e
  · exact n 22 (by decide) e
  · exact n 26 (by decide) e
  · exact n 28 (by decide) e
  · exact n 30 (by decide) e

/-- What a row's function answers. -/
theorem ask_any {w : World} {tag : Int} (h : tag ∈ tgs) (hn : ¬ (tag = 23 ∨ tag = 24)) (A : Option Addr) (c : Nat) (xs : List UInt8) (hb : Byt w w.heap.size A xs) (hm : xs.length ≤ 140737488351232) :
    (Calls Try.prog (rwFn tag) #[.slice A xs.length c] w fun e w' => e = .returned (.bool (ckB tag xs)) ∧ w' = w) ∧ ∀ args w, (callFunc (rwFn tag) args).run Try.prog w = .ok (.enter (rwFn tag) args) w := by
  have hi : ∀ b : Bool, ((if b then (0 : Int) else 13) == 0) = b := by decide
  have e1 : ∀ args w, (callFunc 35 args).run Try.prog w = .ok (.enter 35 args) w := fun _ _ => by kernel_rfl
  have e2 : ∀ args w, (callFunc 26 args).run Try.prog w = .ok (.enter 26 args) w := fun _ _ => by kernel_rfl
  have e3 : ∀ args w, (callFunc 29 args).run Try.prog w = .ok (.enter 29 args) w := fun _ _ => by kernel_rfl
  have e4 : ∀ args w, (callFunc 36 args).run Try.prog w = .ok (.enter 36 args) w := fun _ _ => by kernel_rfl
  have e5 : ∀ args w, (callFunc 27 args).run Try.prog w = .ok (.enter 27 args) w := fun _ _ => by kernel_rfl
  have e6 : ∀ args w, (callFunc 34 args).run Try.prog w = .ok (.enter 34 args) w := fun _ _ => by kernel_rfl
  obtain ⟨j, hj, rfl⟩ := tgA_mem h
  have h17 : j = 0 ∨ j = 1 ∨ j = 2 ∨ j = 3 ∨ j = 4 ∨ j = 5 ∨ j = 6 ∨ j = 7 ∨ j = 8 ∨ j = 9 ∨ j = 10 ∨ j = 11 ∨ j = 12 ∨ j = 13 ∨ j = 14 ∨ j = 15 ∨ j = 16 := by omega
  have any : ∀ t : Int, ckB t xs = true → Calls Try.prog 34 #[.slice A xs.length c] w fun e w' => e = .returned (.bool (ckB t xs)) ∧ w' = w := fun t ht => by rw [ht]; exact isany_any w A c xs.length
  rcases h17 with rfl | rfl | rfl | rfl | rfl | rfl | rfl | rfl | rfl | rfl | rfl | rfl | rfl | rfl | rfl | rfl | rfl
  · exact ⟨(isbool_any w A c xs hb).mono fun _ _ h => ⟨h.1.trans (by rw [← hi (_ && _)]; rfl), h.2⟩, e1⟩
  · exact ⟨(isnum_any w A c xs hb).mono fun _ _ h => ⟨h.1.trans (by rw [← hi (nmB xs)]; rfl), h.2⟩, e2⟩
  · exact ⟨(isbits_any w A c xs hb hm).mono fun _ _ h => ⟨h.1.trans (by rw [← hi (bt xs)]; rfl), h.2⟩, e3⟩
  · exact ⟨any 4 rfl, e6⟩
  · exact ⟨(isnull_any w A c xs.length).mono fun _ _ h => ⟨h.1.trans (by rw [← hi (xs.length == 0)]; rfl), h.2⟩, e4⟩
  · exact ⟨(isoid_any w A c xs hb hm).mono fun _ _ h => ⟨h.1.trans (by rw [← hi (ob xs)]; rfl), h.2⟩, e5⟩
  · exact ⟨(isnum_any w A c xs hb).mono fun _ _ h => ⟨h.1.trans (by rw [← hi (nmB xs)]; rfl), h.2⟩, e2⟩
  · exact ⟨any 12 rfl, e6⟩
  · exact ⟨any 18 rfl, e6⟩
  · exact ⟨any 19 rfl, e6⟩
  · exact ⟨any 20 rfl, e6⟩
  · exact ⟨any 22 rfl, e6⟩
  · exact absurd (.inl rfl) hn
  · exact absurd (.inr rfl) hn
  · exact ⟨any 26 rfl, e6⟩
  · exact ⟨any 28 rfl, e6⟩
  · exact ⟨any 30 rfl, e6⟩

set_option maxRecDepth 100000 in
set_option maxHeartbeats 2000000 in
theorem check_any (w : World) (tag : Int) (hw : -9223372036854775808 ≤ tag ∧ tag ≤ 9223372036854775807) (A : Option Addr) (c : Nat) (xs : List UInt8) (hb : Byt w w.heap.size A xs) (hl : xs.length ≤ c) (hm : xs.length ≤ 140737488351232) :
    Calls Try.prog 10 #[.int .i64 tag, .slice A xs.length c] w fun e w' => e = .returned (.int .i64 (ckE tag xs)) ∧ Below w.heap.size w w' := by
  by_cases ht : tag ∈ tgs
  · have hE := ck_in ht xs
    obtain ⟨R, hR⟩ : ∃ R, ckB tag xs = R := ⟨_, rfl⟩
    obtain ⟨E, hEE⟩ : ∃ E, ckE tag xs = E := ⟨_, rfl⟩
    rw [hR, hEE] at hE
    rw [hEE]
    by_cases hn : tag = 23 ∨ tag = 24
    · have HAS := Lib.hid (fun w' (hB : Byt w' w'.heap.size A xs) p hp => asktime_any w' tag hn A c xs hB hl hm p hp)
      have hRR : tyOk tag xs = R := by
        rw [← hR]
        have hi : ∀ b : Bool, ((if b then (0 : Int) else 13) == 0) = b := by decide
        rcases hn with rfl | rfl <;> exact (hi _).symm
      rw [hRR] at HAS
      obtain ⟨L, hL⟩ : ∃ L, xs.length = L := ⟨_, rfl⟩
      rw [hL] at HAS ⊢
      have HB := Lib.hid hb
      have HE := Lib.hid hE
      have HT := Lib.hid (And.intro ht hn)
      clear hb hl hm hw hL hR hEE hE hRR ht hn
      go_enter Try.func10, Try.ntmps10
      go_wp2_with fail
      refine (rows_any w).mono ?_
      rintro e W1 ⟨m, rfl, hM, hG⟩
      obtain ⟨v, hlk, -, hrow⟩ := hM.look HT.out.1
      unfold RwOf at hrow
      rw [if_pos HT.out.2] at hrow
      obtain ⟨p, rfl, hp⟩ := hrow
      have HP := Lib.hid hp
      have HG := Lib.hid hG
      clear hM hG hp
      generalize hyd : ydg tag = n at *
      clear hyd
      have HK := Lib.hid (Whole.new W1 #[.func (.func 41) #[] #[.pointer (some ⟨p, 0, none⟩)], .int .i64 n] 57)
      have HP2 := Lib.hid (HP.out.grew (grew_alloc (grew_refl W1 none) (.cells #[.func (.func 41) #[] #[.pointer (some ⟨p, 0, none⟩)], .int .i64 n] 57)) (by simp))
      have HG2 := Lib.hid (grew_alloc HG.out (.cells #[.func (.func 41) #[] #[.pointer (some ⟨p, 0, none⟩)], .int .i64 n] 57))
      go_upto_region 2 with (fail)
      generalize W1.alloc (.cells #[.func (.func 41) #[] #[.pointer (some ⟨p, 0, none⟩)], .int .i64 n] 57) = W2 at *
      generalize W1.heap.size = r at *
      have c0 : W2.cell? ⟨r, 0, none⟩ = some (.func (.func 41) #[] #[.pointer (some ⟨p, 0, none⟩)]) := HK.out.cell 0
      have hcall := HAS.out W2 (byt_up (HB.out.grew HG2.out (fun _ h => by cases h)) HG2.out.size) p HP2.out
      have HC := Lib.hid hcall
      clear hlk HAS HK hcall
      go_wp2_with fail
      refine HC.out.mono ?_
      rintro e W3 ⟨rfl, hB3⟩
      have HB3 := Lib.hid ((grew_below HG2.out (Nat.le_refl _) (fun _ h => by cases h)).trans (hB3.mono HG2.out.size))
      clear hB3 HC
      obtain rfl := HE.out
      cases R
      all_goals
        go_wp2_with fail
        go_ret
        exact ⟨rfl, HB3.out⟩
    · have HAS := Lib.hid (fun w' (hB : Byt w' w'.heap.size A xs) => (ask_any (w := w') ht hn A c xs hB hm).1)
      have hEN := (ask_any (w := w) ht hn A c xs hb hm).2
      rw [hR] at HAS
      obtain ⟨L, hL⟩ : ∃ L, xs.length = L := ⟨_, rfl⟩
      rw [hL] at HAS ⊢
      have HB := Lib.hid hb
      have HE := Lib.hid hE
      have HT := Lib.hid (And.intro ht hn)
      clear hb hl hm hw hL hR hEE hE ht hn
      go_enter Try.func10, Try.ntmps10
      go_wp2_with fail
      refine (rows_any w).mono ?_
      rintro e W1 ⟨m, rfl, hM, hG⟩
      obtain ⟨v, hlk, -, hrow⟩ := hM.look HT.out.1
      unfold RwOf at hrow
      rw [if_neg HT.out.2] at hrow
      subst hrow
      have HG := Lib.hid hG
      clear hM hG HT
      generalize rwFn tag = G at *
      have HK := Lib.hid (Whole.new W1 #[.func (.func G) #[] #[], .int .i64 0] 57)
      have HG2 := Lib.hid (grew_alloc HG.out (.cells #[.func (.func G) #[] #[], .int .i64 0] 57))
      go_upto_region 2 with (fail)
      generalize W1.alloc (.cells #[.func (.func G) #[] #[], .int .i64 0] 57) = W2 at *
      generalize W1.heap.size = r at *
      have c0 : W2.cell? ⟨r, 0, none⟩ = some (.func (.func G) #[] #[]) := HK.out.cell 0
      have hcall := HAS.out W2 (byt_up (HB.out.grew HG2.out (fun _ h => by cases h)) HG2.out.size)
      have HC := Lib.hid hcall
      clear hlk HAS HK hcall
      go_wp2_with fail
      refine HC.out.mono ?_
      rintro e W3 ⟨rfl, hB3⟩
      obtain rfl : W2 = W3 := hB3.symm
      have HB3 := Lib.hid (grew_below HG2.out (Nat.le_refl _) (fun _ h => by cases h))
      clear hB3 HC
      obtain rfl := HE.out
      cases R
      all_goals
        go_wp2_with fail
        go_ret
        exact ⟨rfl, HB3.out⟩
  · rw [ck_out ht xs]
    obtain ⟨L, hL⟩ : ∃ L, xs.length = L := ⟨_, rfl⟩
    rw [hL]
    have HT := Lib.hid (And.intro ht hw)
    clear hb hl hm hw hL ht
    go_enter Try.func10, Try.ntmps10
    go_wp2_with fail
    refine (rows_any w).mono ?_
    rintro e W1 ⟨m, rfl, hM, hG⟩
    obtain ⟨hlk, -⟩ := hM.miss HT.out.1 HT.out.2
    have HG2 := Lib.hid (grew_alloc hG (.cells #[.nilFunc, .int .i64 0] 57))
    clear hM hG HT
    go_wp2_with fail
    go_ret
    exact ⟨rfl, grew_below HG2.out (Nat.le_refl _) (fun _ h => by cases h)⟩
end Go.Proofs.Ytnegakobammljaa

