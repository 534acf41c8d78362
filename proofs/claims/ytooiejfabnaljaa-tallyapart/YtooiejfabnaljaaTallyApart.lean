/- Two tallies count apart, and two things are made apart: for every bytes the law returns true, and they read as they did. No condition. -/
import Derived.Test.YtooiejfabnaljaaTwo3
import Derived.Test.YtooiejfabnaljaaLazS
import Derived.Test.YtooiejfabnaljaaOpen
namespace Go.Proofs.Ytooiejfabnaljaa
open Go.ChangeShapes Go.WideShapes Go.ChangeAt Go.RowKit

theorem low_bit : ∀ k : Fin 100, bits .and .i64 (k.val : Int) 1 = ((k.val % 2 : Nat) : Int) := by decide

/-- The two ways to make it. -/
theorem make_x (w : World) : Calls Try.prog 25 #[] w (Ans (fun x : ByteArray => .string x) fun x w2 => Fr w w2 (fun _ => False) ∧ x = ⟨#[120]⟩) := by
  go_enter Try.func25, Try.ntmps25
  go_wp2_with fail
  go_ret
  exact ⟨_, rfl, Fr.refl _ _, rfl⟩
theorem make_y (w : World) : Calls Try.prog 26 #[] w (Ans (fun x : ByteArray => .string x) fun x w2 => Fr w w2 (fun _ => False) ∧ x = ⟨#[121]⟩) := by
  go_enter Try.func26, Try.ntmps26
  go_wp2_with fail
  go_ret
  exact ⟨_, rfl, Fr.refl _ _, rfl⟩

/-- Behind the first Get of such a one nothing turned but itself. -/
theorem getS_alone (w : World) (p : Nat) (G : FuncId) (t : ByteArray) (hin : ∀ args w, (callFunc G args).run Try.prog w = .ok (.enter G args) w) (h : LazS w p (.func (.func G) #[] #[]))
    (H : ∀ w1, Calls Try.prog G #[] w1 (Ans (fun x : ByteArray => .string x) fun x w2 => Fr w1 w2 (fun _ => False) ∧ x = t)) :
    Calls Try.prog 19 #[.pointer (some ⟨p, 0, none⟩)] w fun e w' => e = .returned (.string t) ∧ LmdS w' p (.string t) ∧ Grew w w' (some p) := by
  refine (getS_first w p _ h (fun _ => False) (fun h => h) (fun x _ => x = t) (fun w1 _ => answerS_some w1 G #[] hin _ (H w1))).mono ?_
  rintro e w' ⟨x, w2, rfl, rfl, f2, f3, k⟩
  refine ⟨rfl, k, ?_⟩
  have f4 := (f2.mono (G := fun i => i = p) (fun i _ h => by rcases h with h | h; exact h; exact h.elim))
  have f5 := fr_then f4 f3
  exact ⟨f5.os, f5.tape, f5.output, f5.size, fun i hi hn => f5.block i hi (fun e => hn (by rw [e]))⟩

/-- Two tallies; one thing made, one not; all apart. -/
structure ApRel (w wr : World) (p q u v : Nat) (d e : Int) : Prop where
  two : TwoRel w wr p q 1048576 d e
  made : LmdS wr u (.string ⟨#[120]⟩)
  later : LazS wr v (.func (.func 26) #[] #[])
  apart : u ≠ p ∧ u ≠ q ∧ v ≠ p ∧ v ≠ q ∧ u ≠ v ∧ w.heap.size ≤ u ∧ w.heap.size ≤ v

theorem ApRel.one {w wr : World} {p q u v : Nat} {d e : Int} (h : ApRel w wr p q u v d e) (n : Int) (h0 : 0 ≤ n) (hn : d + n ≤ 1048576) :
    Calls Try.prog 11 #[.pointer (some ⟨p, 0, none⟩), .int .i64 n] wr fun a w' => a = .returned (.int .i64 0) ∧ ApRel w w' p q u v (d + n) e := by
  obtain ⟨⟨h1, h2, h3, h4, h5, h6⟩, m, l, a⟩ := h
  have b := h1.least
  refine (tspend_any wr p _ d h1 n (by omega)).mono ?_
  rintro x w' ⟨rfl, k1, k2⟩
  rw [spC_ok h0 (by omega)] at k1
  rw [spE_ok h0 (by omega)]
  exact ⟨rfl, ⟨k1, h2.grew k2 (by simp; omega), h3, h4, h5, grew_own h6 k2 h4⟩, m.grew k2 (by simp; omega), l.grew k2 (by simp; omega), a⟩
theorem ApRel.other {w wr : World} {p q u v : Nat} {d e : Int} (h : ApRel w wr p q u v d e) (n : Int) (h0 : 0 ≤ n) (hn : e + n ≤ 1048576) :
    Calls Try.prog 11 #[.pointer (some ⟨q, 0, none⟩), .int .i64 n] wr fun a w' => a = .returned (.int .i64 0) ∧ ApRel w w' p q u v d (e + n) := by
  obtain ⟨⟨h1, h2, h3, h4, h5, h6⟩, m, l, a⟩ := h
  have b := h2.least
  refine (tspend_any wr q _ e h2 n (by omega)).mono ?_
  rintro x w' ⟨rfl, k1, k2⟩
  rw [spC_ok h0 (by omega)] at k1
  rw [spE_ok h0 (by omega)]
  exact ⟨rfl, ⟨h1.grew k2 (by simp; omega), k1, h3, h4, h5, grew_own h6 k2 h5⟩, m.grew k2 (by simp; omega), l.grew k2 (by simp; omega), a⟩

set_option maxRecDepth 100000 in
set_option maxHeartbeats 4000000 in
theorem tallyApart_walk (w : World) (A : Option Addr) (c : Nat) (xs : List UInt8) (hl : xs.length ≤ c) (_ : c ≤ 140737488351232) (hb : Byt w w.heap.size A xs) :
    Calls Try.prog 7 #[.slice A xs.length c] w fun e w' => e = .returned (.bool true) ∧ Below w.heap.size w w' := by
  have HB := Lib.hid hb
  clear hb
  obtain ⟨L, hL, hLl⟩ : ∃ L : Nat, L = min xs.length 100 ∧ L ≤ xs.length := ⟨_, rfl, Nat.min_le_left _ _⟩
  have hif : (if (100 : Int) < (xs.length : Int) then (100 : Int) else (xs.length : Int)) = (L : Int) := by split <;> omega
  have hL2 : L ≤ 100 := by omega
  clear hL
  have hnot : ∀ (x : Bool) (w : World), (Op.unary .not (.bool x)).run Try.prog w = .ok (.bool (!x)) w := fun _ _ => rfl
  go_enter Try.func7, Try.ntmps7
  go_wp2_with fail
  clear hif
  refine (tnew_ok w 1048576 (by omega) (by omega)).mono ?_
  rintro e w1 ⟨rfl, h1, g1⟩
  have H1 := Lib.hid h1
  clear h1
  go_wp2_with fail
  refine (tnew_ok w1 1048576 (by omega) (by omega)).mono ?_
  rintro e w2 ⟨rfl, h2, g2⟩
  have H2 := Lib.hid h2
  clear h2
  go_wp2_with fail
  refine (laterS_some w2 25 #[]).mono ?_
  rintro e w3 ⟨rfl, h3, g3⟩
  have H3 := Lib.hid h3
  clear h3
  go_wp2_with fail
  refine (laterS_some w3 26 #[]).mono ?_
  rintro e w4 ⟨rfl, h4, g4⟩
  have H4 := Lib.hid h4
  clear h4
  go_wp2_with fail
  refine (alive3_any w4).mono ?_
  rintro e w5 ⟨rfl, g5⟩
  have hl1 := H1.out.lt
  have hl2 := H2.out.lt
  have hl3 := H3.out.lt
  have hs1 := g1.size
  have hs2 := g2.size
  have hs3 := g3.size
  have hs4 := g4.size
  have hs5 := g5.size
  have T1 := Lib.hid (((((H1.out.grew g2 (by simp)).grew g3 (by simp)).grew g4 (by simp)).grew g5 (by simp)))
  have T2 := Lib.hid ((((H2.out.grew g3 (by simp)).grew g4 (by simp)).grew g5 (by simp)))
  have T3 := Lib.hid (((H3.out.grew g4 (by simp)).grew g5 (by simp)))
  have T4 := Lib.hid ((H4.out.grew g5 (by simp)))
  have G5 := Lib.hid (grew_trans (grew_trans (grew_trans (grew_trans g1 g2) g3) g4) g5)
  clear H1 H2 H3 H4 g1 g2 g3 g4 g5
  generalize hp : w.heap.size = p at *
  have HP := Lib.hid hp
  clear hp
  generalize w1.heap.size = q at *
  generalize w2.heap.size = u at *
  generalize w3.heap.size = v at *
  have hget := getS_alone w5 u 25 ⟨#[120]⟩ (fun _ _ => rfl) T3.out make_x
  have HGET := Lib.hid hget
  clear hget
  go_wp2_with fail
  refine HGET.out.mono ?_
  rintro e w6 ⟨rfl, h6, g6⟩
  have HR := Lib.hid (show ApRel w w6 p q u v 0 0 from ⟨⟨T1.out.grew g6 (by simp; omega), T2.out.grew g6 (by simp; omega), by omega, by have := HP.out; omega, by have := HP.out; omega, grew_own G5.out g6 (by have := HP.out; omega)⟩,
    h6, T4.out.grew g6 (by simp; omega), by have := HP.out; refine ⟨?_, ?_, ?_, ?_, ?_, ?_, ?_⟩ <;> omega⟩)
  clear h6 g6 T1 T2 T3 T4 G5 HGET hl1 hl2 hl3 hs1 hs2 hs3 hs4 hs5
  go_wp2_with fail
  refine (madeS_no w6 v _ HR.out.later).mono ?_
  rintro e w7 ⟨rfl, rfl⟩
  go_wp2_with fail
  go_loopw [9, 10, 66] (fun x y i wr => ∃ k d e : Nat, k ≤ L ∧ d + e ≤ 255 * k ∧ i = .int .i64 k ∧ x = .int .i64 d ∧ y = .int .i64 e ∧ Hid (ApRel w wr p q u v d e)) (fun _ _ i _ => L - (intOf i).toNat)
  case atStart => exact ⟨0, 0, 0, Nat.zero_le _, Nat.zero_le _, rfl, rfl, rfl, HR⟩
  case round =>
    obtain ⟨k, d, e, hk, hde, rfl, rfl, rfl, R⟩ := hrel
    by_cases hlt : k < L
    · obtain ⟨b, o, rfl, _, hcell⟩ := HB.out (by omega)
      have hck := R.out.two.2.2.2.2.2.cell (hcell k (by omega)) (by simp)
      have hx := (xs.getD k 0).toNat_lt
      have hbit := low_bit ⟨k, by omega⟩
      simp only at hbit
      clear hcell
      generalize (xs.getD k 0).toNat = x at *
      rcases Nat.mod_two_eq_zero_or_one k with hev | hod
      · rw [hev] at hbit
        have HEV := Lib.hid hev
        clear hev
        go_wp2_with fail
        refine (R.out.one x (by omega) (by omega)).mono ?_
        rintro a w7 ⟨rfl, r7⟩
        have R7 := Lib.hid r7
        clear r7 hbit
        go_wp2_with fail
        go_roundw
        case rel => exact ⟨k + 1, d + x, e, by omega, by omega, by go_num, by go_num, rfl, by simpa using R7⟩
        case measure => simp [intOf]; omega
      · rw [hod] at hbit
        have HOD := Lib.hid hod
        clear hod
        go_wp2_with fail
        refine (R.out.other x (by omega) (by omega)).mono ?_
        rintro a w7 ⟨rfl, r7⟩
        have R7 := Lib.hid r7
        clear r7 hbit
        go_wp2_with fail
        go_roundw
        case rel => exact ⟨k + 1, d, e + x, by omega, by omega, by go_num, rfl, by go_num, by simpa using R7⟩
        case measure => simp [intOf]; omega
    · have hget := getS_alone wr v 26 ⟨#[121]⟩ (fun _ _ => rfl) R.out.later make_y
      have HGET := Lib.hid hget
      clear hget
      go_wp2_with fail
      refine (tcount_any wr p _ d R.out.two.1).mono ?_
      rintro a w7 ⟨rfl, rfl⟩
      go_wp2_with fail
      refine (tcount_any wr q _ e R.out.two.2.1).mono ?_
      rintro a w7 ⟨rfl, rfl⟩
      go_wp2_with fail
      refine HGET.out.mono ?_
      rintro a w7 ⟨rfl, h7, g7⟩
      obtain ⟨a1, a2, a3, a4, a5, a6, a7⟩ := R.out.apart
      have M7 := Lib.hid (R.out.made.grew g7 (by simp; omega))
      have G7 := Lib.hid (grew_own R.out.two.2.2.2.2.2 g7 a7)
      clear h7 g7
      go_wp2_with fail
      refine (getS_again w7 u ⟨#[120]⟩ M7.out).mono ?_
      rintro a w8 ⟨rfl, rfl⟩
      go_wp2_with fail
      go_ret
      exact ⟨rfl, grew_below G7.out (Nat.le_refl _) (fun _ h => by cases h)⟩

set_option maxRecDepth 100000 in
theorem tallyApart_lifted (os : Os) (started : os.Started) (H : Type) (enc : TypeId × Value → H) :
    ReturnsInHanded {} Try.checked os 7 .any (Rows.tallyApartSpec.pre6 enc Try.prog Try.f7 Rows.tallyApartRow.domain false) (Rows.tallyApartSpec.post enc Try.prog Try.f7 false true false false) := by
  refine returnsInHanded_of_change_sized (C := Try.checked) own started (by kernel_rfl) Try.func7
    (ChangeSpec.witness6 (enc := enc) (C := Try.checked) false ⟨#[], #[.slice none 0 0], []⟩ 8 (by kernel_rfl) (by kernel_rfl) (by kernel_rfl) (by kernel_rfl)) ?_
  intro W base args ds gs before hval0 hW hcnd hsz0 _
  have hval : ∀ (j : Nat) t v, Try.f7.params[j]? = some t → args[j]? = some v → Value.okWide Try.prog W .any base t v := hval0
  have hsz : (DataW.weightsEach Try.prog (Try.f7.params.toList ++ Rows.tallyApartSpec.plain.varTypes Try.prog) (ds ++ gs)).all (· ≤ reachBytes) = true := hsz0
  have hW' := hW
  obtain ⟨p, q, hA0, hV, rfl, hfz, hnd⟩ := hW
  have hA : DataW.TrodAll enc Try.prog W 0 (fun _ => true) true Try.f7.params.toList args.toList ds p := hA0
  rw [Try.params7] at hA hval hsz
  obtain ⟨v0, vs0, d0, ds0, p0, q0, hargs, rfl, rfl, h0, r0⟩ := trodAll_cons hA
  obtain ⟨rfl, rfl, rfl⟩ := trodAll_nil r0
  obtain rfl : args = #[v0] := by cases args; simp_all
  obtain ⟨rfl, rfl⟩ := trodVars_none hV
  have k0 := h0
  have lt0 : ∀ x ∈ p0, x.block < W.heap.size := by obtain ⟨m, hm⟩ := k0; exact DataW.trod_lt m _ _ _ hm
  obtain ⟨A0, c0, x0, rfl, l0, m0, b0⟩ := arg_bytes (hval 0 35 v0 rfl rfl) h0 hsz (j := 0) rfl rfl
  clear hA0 hval0 hsz0
  refine (tallyApart_walk W A0 c0 x0 l0 m0 b0).mono fun e W' ⟨he, bel⟩ => ?_
  subst he
  exact ⟨_, rfl, _, _, _, [], _, [], hW', trodAll_mk1 (shut_bool Try.underlying4 _), (trodAll_cons_mk (Below.trod laidOut (by kernel_rfl) (of_decide_eq_true (by kernel_rfl)) k0 bel lt0) trodAll_mk0), rfl, bel.frame _, fun h => by cases h⟩

theorem tallyApart_over : Rows.tallyApartRow.holds Try.pinned (OpenSpec.ofChange Rows.tallyApartSpec) :=
  OpenClaim.holds_of_wide 7 Try.f7 rfl rfl rfl rfl rfl rfl rfl ⟨rfl, rfl, rfl, rfl, rfl⟩ rfl rfl rfl rfl rfl (by kernel_rfl) Try.func7 (by kernel_rfl)
    (of_decide_eq_true (by kernel_rfl)) (by unfold Func.isWrapper; first | (rw [if_pos (by decide +kernel)]; kernel_rfl) | (rw [if_neg (by decide +kernel)]; exact ⟨rfl, rfl⟩))
    (fun os started H enc _ => tallyApart_lifted os started H enc)

theorem tallyApart_holds : Rows.TallyApartSaid := tallyApart_over
#print axioms tallyApart_holds
end Go.Proofs.Ytooiejfabnaljaa

