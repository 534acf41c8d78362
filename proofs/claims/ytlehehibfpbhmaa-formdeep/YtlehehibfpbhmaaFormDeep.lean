/- Rows in rows are right up to the greatest depth, and no deeper: for every two numbers the law returns true. No condition. -/
import Derived.Test.YtlehehibfpbhmaaFc
import Derived.Test.YtlehehibfpbhmaaOpen
namespace Go.Proofs.Ytlehehibfpbhmaa
open Go.ChangeShapes Go.WideShapes Go.ChangeAt Go.RowKit Fo

/-- What holds of what is made, round by round. -/
def Good (f : Fo) (i : Nat) : Prop := f.dep = i + 1 ∧ f.wrg = 0 ∧ f.opn = false ∧ f.len false = 2
theorem good_number : Good (.mk 0 2 0 0 0 none 0 []) 0 := ⟨by simp [dep], by simp [wrg, alone, mis], by simp [opn], by simp [len]⟩
theorem good_row {f : Fo} {i : Nat} (h : Good f i) (A : Option Addr) (c : Nat) : Good (.mk 3 0 0 0 0 A c [f]) (i + 1) := by
  obtain ⟨h1, h2, h3, h4⟩ := h
  refine ⟨by simp [dep, deps, h1], by simp [wrg, wrgs, alone, mis, h2], by simp [opn, opnL, h3], ?_⟩
  simp [len, lens, h4, plus, wrap64]
theorem good_list {f : Fo} {i : Nat} (h : Good f i) (A : Option Addr) (c : Nat) : Good (.mk 2 2 0 9 1 A c [f]) (i + 1) := by
  obtain ⟨h1, h2, h3, h4⟩ := h
  refine ⟨by simp [dep, deps, h1], by simp [wrg, wrgs, alone, mis, h2, h3, h4], by simp [opn], ?_⟩
  simp [len, plus, wrap64]

/-- What holds ahead of each round. -/
def DeepRel (w wr : World) (q i : Nat) : Prop := ∃ f : Fo, Good f i ∧ f.In wr ∧ f.Off (· = q) ∧ Whole wr q f.cells 24 ∧ w.heap.size ≤ q ∧ Grew w wr none

/-- Behind a form that was made of the last one, and put in its place. -/
theorem DeepRel.put {w wr w2 : World} {q i : Nat} {k s l h t : Int} {A : Option Addr} {c : Nat} {f : Fo} (h2 : In w2 (.mk k s l h t A c [f])) (hg : Good (.mk k s l h t A c [f]) i) (ho : f.Off (· = q)) (hW : Whole wr q f.cells 24) (hq : w.heap.size ≤ q) (g0 : Grew w wr none) (g1 : Grew wr w2 none)
    (hf : ∀ a, A = some a → wr.heap.size ≤ a.block) :
    DeepRel w (put6 w2 q (.int .i64 k) (.int .i64 s) (.int .i64 l) (.int .i64 h) (.int .i64 t) (.slice A 1 c)) q i := by
  have hlt := hW.lt
  have off : Off (· = q) (.mk k s l h t A c [f]) := .mk (fun a ha e => by have := hf a ha; omega) (fun p hp => by rw [List.mem_singleton] at hp; subst hp; exact ho)
  exact ⟨_, hg, h2.fr (fr_put6 _ _ _ _ _ _ _ _) off, off, (hW.grew g1 (by simp)).put6 _ _ _ _ _ _, hq, grew_put6 (grew_trans g0 g1) hq _ _ _ _ _ _⟩

set_option maxRecDepth 100000 in
set_option maxHeartbeats 2000000 in
theorem formDeep_walk (w : World) (n : Int) (_ : (Lit.int .i64 n).wf = true) (z : Int) (_ : (Lit.int .i64 z).wf = true) :
    Calls Try.prog 6 #[.int .i64 n, .int .i64 z] w fun e w' => e = .returned (.bool true) ∧ Below w.heap.size w w' := by
  obtain ⟨m, hm, hm0⟩ : ∃ m : Int, (if (0 : Int) < n then n else 0) = m ∧ 0 ≤ m := ⟨_, rfl, by split <;> omega⟩
  obtain ⟨K, hK, hK20⟩ : ∃ K : Nat, m % 20 = K ∧ K < 20 := ⟨(m % 20).toNat, by omega, by omega⟩
  go_enter Try.func6, Try.ntmps6
  go_wp2_with fail
  refine (number_any w 2).mono ?_
  rintro e w1 ⟨rfl, g1⟩
  rw [val_eq]
  simp only [Fo.k, Fo.s, Fo.l, Fo.h, Fo.t, Fo.A, Fo.c, Fo.ps, List.length_nil]
  have HR := Lib.hid (show DeepRel w (w1.alloc (.cells #[.int .i64 0, .int .i64 2, .int .i64 0, .int .i64 0, .int .i64 0, .slice none 0 0] 24)) w1.heap.size 0 from
    ⟨_, good_number, plain_in _ _ _ _ _ _, .mk (fun _ h => by cases h) (fun p hp => by simp at hp), Whole.new _ _ _, g1.size, grew_alloc g1 _⟩)
  clear g1 hm hm0
  go_wp2_with fail
  generalize w1.alloc (.cells #[.int .i64 0, .int .i64 2, .int .i64 0, .int .i64 0, .int .i64 0, .slice none 0 0] 24) = W0 at *
  generalize w1.heap.size = q at *
  go_loopw [14] (fun i wr => ∃ x : Nat, x ≤ K ∧ i = .int .i64 x ∧ Hid (DeepRel w wr q x)) (fun i _ => K - (intOf i).toNat)
  case atStart => exact ⟨0, Nat.zero_le _, rfl, HR⟩
  case round =>
    obtain ⟨x, hx, rfl, R⟩ := hrel
    obtain ⟨f, r1, r2, ro, r3, r4, r5⟩ := R.out
    obtain ⟨c0, c1, c2, c3, c4, c5⟩ := r3.six
    have R1 := Lib.hid r1
    have R2 := Lib.hid r2
    have RO := Lib.hid ro
    have R3 := Lib.hid r3
    have R4 := Lib.hid r4
    have R5 := Lib.hid r5
    clear r1 r2 ro r3 r4 r5 R
    by_cases hlt : x < K
    · go_wp2_with fail
      · refine (row_any _ _ 1 [f] (Lie.whole (Whole.new wr f.cells 24) rfl) (fun p hp => by rw [List.mem_singleton] at hp; subst hp; exact R2.out.grew (grew_alloc (grew_refl _ _) _)) (by simp)).mono ?_
        rintro e w2 ⟨A, c, rfl, h2, g2, hf⟩
        have hw2 := (R3.out.grew (grew_trans (grew_alloc (grew_refl wr none) _) g2) (by simp))
        have hz := hw2.frozen
        obtain ⟨d0, d1, d2, d3, d4, d5⟩ := hw2.six
        have HR2 := Lib.hid (DeepRel.put h2 (good_row R1.out A c) RO.out R3.out R4.out R5.out (grew_trans (grew_alloc (grew_refl wr none) _) g2) (fun a ha => by have := hf a ha; simp at this; omega))
        clear h2 g2 hf hw2 c0 c1 c2 c3 c4 c5
        rw [val_eq]
        simp only [Fo.k, Fo.s, Fo.l, Fo.h, Fo.t, Fo.A, Fo.c, Fo.ps, List.length_singleton]
        go_wp2_with fail
        go_roundw
        case rel => exact ⟨x + 1, by omega, by go_num, HR2⟩
        case measure => simp [intOf]; omega
      · refine (list_any _ 2 0 9 1 f R2.out).mono ?_
        rintro e w2 ⟨A, c, rfl, h2, g2, hf⟩
        have hw2 := (R3.out.grew g2 (by simp))
        have hz := hw2.frozen
        obtain ⟨d0, d1, d2, d3, d4, d5⟩ := hw2.six
        have HR2 := Lib.hid (DeepRel.put h2 (good_list R1.out A c) RO.out R3.out R4.out R5.out g2 hf)
        clear h2 g2 hf hw2 c0 c1 c2 c3 c4 c5
        rw [val_eq]
        simp only [Fo.k, Fo.s, Fo.l, Fo.h, Fo.t, Fo.A, Fo.c, Fo.ps, List.length_singleton]
        go_wp2_with fail
        go_roundw
        case rel => exact ⟨x + 1, by omega, by go_num, HR2⟩
        case measure => simp [intOf]; omega
    · have hxK : x = K := by omega
      subst hxK
      have HC := Lib.hid (show f.chk = if 8 < x + 1 then 14 else 0 by unfold chk; rw [R1.out.1, R1.out.2.1])
      by_cases h8 : 8 < x + 1
      · rw [if_pos h8] at HC
        go_wp2_with fail
        refine (alive4_any _).mono ?_
        rintro e w2 ⟨rfl, g2⟩
        obtain ⟨d0, d1, d2, d3, d4, d5⟩ := (R3.out.grew g2 (by simp)).six
        have R22 := Lib.hid (R2.out.grew g2)
        have G2 := Lib.hid (grew_trans R5.out g2)
        clear g2 c0 c1 c2 c3 c4 c5
        go_wp2_with fail
        refine (check_any _ f R22.out).mono ?_
        rintro e w3 ⟨rfl, g3⟩
        rw [HC.out]
        have G3 := Lib.hid (grew_trans G2.out g3)
        clear g3
        go_wp2_with fail
        go_ret
        exact ⟨rfl, grew_below G3.out (Nat.le_refl _) (fun _ h => by cases h)⟩
      · rw [if_neg h8] at HC
        go_wp2_with fail
        refine (alive4_any _).mono ?_
        rintro e w2 ⟨rfl, g2⟩
        obtain ⟨d0, d1, d2, d3, d4, d5⟩ := (R3.out.grew g2 (by simp)).six
        have R22 := Lib.hid (R2.out.grew g2)
        have G2 := Lib.hid (grew_trans R5.out g2)
        clear g2 c0 c1 c2 c3 c4 c5
        go_wp2_with fail
        refine (check_any _ f R22.out).mono ?_
        rintro e w3 ⟨rfl, g3⟩
        rw [HC.out]
        have G3 := Lib.hid (grew_trans G2.out g3)
        clear g3
        go_wp2_with fail
        go_ret
        exact ⟨rfl, grew_below G3.out (Nat.le_refl _) (fun _ h => by cases h)⟩

set_option maxRecDepth 100000 in
theorem formDeep_lifted (os : Os) (started : os.Started) (H : Type) (enc : TypeId × Value → H) :
    ReturnsInHanded {} Try.checked os 6 .any (Rows.formDeepSpec.pre6 enc Try.prog Try.f6 Rows.formDeepRow.domain false) (Rows.formDeepSpec.post enc Try.prog Try.f6 false true false false) := by
  refine returnsInHanded_of_change_sized (C := Try.checked) own started (by kernel_rfl) Try.func6
    (ChangeSpec.witness6 (enc := enc) (C := Try.checked) false ⟨#[], #[.int .i64 0, .int .i64 0], []⟩ 8 (by kernel_rfl) (by kernel_rfl) (by kernel_rfl) (by kernel_rfl)) ?_
  intro W base args ds gs before hval0 hW hcnd hsz0 _
  have hval : ∀ (j : Nat) t v, Try.f6.params[j]? = some t → args[j]? = some v → Value.okWide Try.prog W .any base t v := hval0
  have hsz : (DataW.weightsEach Try.prog (Try.f6.params.toList ++ Rows.formDeepSpec.plain.varTypes Try.prog) (ds ++ gs)).all (· ≤ reachBytes) = true := hsz0
  have hW' := hW
  obtain ⟨p, q, hA0, hV, rfl, hfz, hnd⟩ := hW
  have hA : DataW.TrodAll enc Try.prog W 0 (fun _ => true) true Try.f6.params.toList args.toList ds p := hA0
  rw [Try.params6] at hA hval hsz
  obtain ⟨v0, vs0, d0, ds0, p0, q0, hargs, rfl, rfl, h0, r0⟩ := trodAll_cons hA
  obtain ⟨v1, vs1, d1, ds1, p1, q1, rfl, rfl, rfl, h1, r1⟩ := trodAll_cons r0
  obtain ⟨rfl, rfl, rfl⟩ := trodAll_nil r1
  obtain rfl : args = #[v0, v1] := by cases args; simp_all
  obtain ⟨rfl, rfl⟩ := trodVars_none hV
  obtain ⟨a0, rfl, rfl, rfl, w0⟩ := open_int Try.underlying3 (hval 0 3 v0 rfl rfl) h0
  obtain ⟨a1, rfl, rfl, rfl, w1⟩ := open_int Try.underlying3 (hval 1 3 v1 rfl rfl) h1
  clear hA0 hval0 hsz0
  refine (formDeep_walk W a0 w0 a1 w1).mono fun e W' ⟨he, bel⟩ => ?_
  subst he
  exact ⟨_, rfl, _, _, _, [], _, [], hW', trodAll_mk1 (shut_bool Try.underlying4 _), (trodAll_cons_mk (shut_int Try.underlying3 w0) (trodAll_cons_mk (shut_int Try.underlying3 w1) trodAll_mk0)), rfl, bel.frame _, fun h => by cases h⟩

theorem formDeep_over : Rows.formDeepRow.holds Try.pinned (OpenSpec.ofChange Rows.formDeepSpec) :=
  OpenClaim.holds_of_wide 6 Try.f6 rfl rfl rfl rfl rfl rfl rfl ⟨rfl, rfl, rfl, rfl, rfl⟩ rfl rfl rfl rfl rfl (by kernel_rfl) Try.func6 (by kernel_rfl)
    (of_decide_eq_true (by kernel_rfl)) (by unfold Func.isWrapper; first | (rw [if_pos (by decide +kernel)]; kernel_rfl) | (rw [if_neg (by decide +kernel)]; exact ⟨rfl, rfl⟩))
    (fun os started H enc _ => formDeep_lifted os started H enc)

theorem formDeep_holds : Rows.FormDeepSaid := formDeep_over
#print axioms formDeep_holds
end Go.Proofs.Ytlehehibfpbhmaa

