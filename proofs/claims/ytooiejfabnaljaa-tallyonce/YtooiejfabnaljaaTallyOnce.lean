/- What is made when it is asked for first is made just once, however often it is asked for, and is the same each time: for every two numbers the law returns true, and they read as they did. No condition. -/
import Derived.Test.YtooiejfabnaljaaTwo3
import Derived.Test.YtooiejfabnaljaaLazL
import Derived.Test.YtooiejfabnaljaaOpen
namespace Go.Proofs.Ytooiejfabnaljaa
open Go.ChangeShapes Go.WideShapes Go.ChangeAt Go.RowKit

/-- The way to make it: what it counts in vm, what it holds in vx. -/
abbrev onceFn (vm vx : Nat) : Value := .func (.func 16) #[] #[.pointer (some ⟨vm, 0, none⟩), .pointer (some ⟨vx, 0, none⟩)]

/-- Not asked for yet. -/
structure Onc0 (w wr : World) (p vx vm : Nat) (x : Int) : Prop where
  lazy : LazL wr p (onceFn vm vx)
  count : Whole wr vm #[.int .i64 0] 3
  held : Whole wr vx #[.int .i64 x] 3
  apart : p ≠ vm ∧ p ≠ vx ∧ vm ≠ vx ∧ w.heap.size ≤ p ∧ w.heap.size ≤ vm ∧ w.heap.size ≤ vx
  grew : Grew w wr none
/-- Made: in g. -/
structure Onc1 (w wr : World) (p vx vm : Nat) (x : Int) (g : Nat) : Prop where
  lazy : LmdL wr p (.slice (some ⟨g, 0, none⟩) 2 2)
  count : Whole wr vm #[.int .i64 1] 3
  held : Whole wr vx #[.int .i64 x] 3
  thing : Whole wr g #[.int .i64 x, .int .i64 1] 3
  grew : Grew w wr none

theorem Onc1.drewN {w wr : World} {p vx vm : Nat} {x : Int} {g : Nat} (h : Onc1 w wr p vx vm x g) (n : Nat) : Onc1 w (wr.drewN n) p vx vm x g :=
  have f := grew_drewN (grew_refl wr none) n
  ⟨h.lazy.grew f (by simp), h.count.grew f (by simp), h.held.grew f (by simp), h.thing.grew f (by simp), grew_drewN h.grew n⟩

set_option maxHeartbeats 800000 in
theorem once_make (w : World) (vm vx : Nat) (x : Int) (h : Whole w vm #[.int .i64 0] 3) (k : Whole w vx #[.int .i64 x] 3) (hne : vm ≠ vx) :
    Calls Try.prog 16 #[.pointer (some ⟨vm, 0, none⟩), .pointer (some ⟨vx, 0, none⟩)] w
      (Ans (fun x : Option Addr × Nat × Nat => .slice x.1 x.2.1 x.2.2) fun y w2 => Fr w w2 (fun i => i = vm) ∧ y = (some ⟨w.heap.size, 0, none⟩, 2, 2) ∧ Whole w2 w.heap.size #[.int .i64 x, .int .i64 1] 3 ∧ Whole w2 vm #[.int .i64 1] 3) := by
  have c0 : w.cell? ⟨vm, 0, none⟩ = some (.int .i64 0) := h.cell 0
  have z0 : w.frozen? ⟨vm, 0, none⟩ = false := h.frozen 0
  have hs := h.set 0 (.int .i64 1)
  simp at hs
  have c1 : (w.setCell ⟨vm, 0, none⟩ (.int .i64 1)).cell? ⟨vm, 0, none⟩ = some (.int .i64 1) := hs.cell 0
  have kx := k.fr (fr_set w vm 0 (.int .i64 1)) (fun e => hne e.symm)
  have c2 : (w.setCell ⟨vm, 0, none⟩ (.int .i64 1)).cell? ⟨vx, 0, none⟩ = some (.int .i64 x) := kx.cell 0
  have HS := Lib.hid hs
  clear hs h k kx
  go_enter Try.func16, Try.ntmps16
  go_wp2_with fail
  go_ret
  have hz : (w.setCell ⟨vm, 0, none⟩ (.int .i64 1)).heap.size = w.heap.size := by simp [World.setCell]
  refine ⟨_, rfl, (fr_set _ _ _ _).alloc _, rfl, ?_, HS.out.grew (grew_alloc (grew_refl _ none) _) (by simp)⟩
  have := Whole.new (w.setCell ⟨vm, 0, none⟩ (.int .i64 1)) #[.int .i64 x, .int .i64 1] 3
  rw [hz] at this
  exact this

/-- The first Get. -/
theorem Onc0.get {w wr : World} {p vx vm : Nat} {x : Int} (h : Onc0 w wr p vx vm x) :
    Calls Try.prog 18 #[.pointer (some ⟨p, 0, none⟩)] wr fun e w' => ∃ g, e = .returned (.slice (some ⟨g, 0, none⟩) 2 2) ∧ Onc1 w w' p vx vm x g := by
  obtain ⟨a1, a2, a3, a4, a5, a6⟩ := h.apart
  refine (getL_first wr p _ h.lazy (fun i => i = vm) a1
    (fun y w2 => ∃ g, y = (some ⟨g, 0, none⟩, 2, 2) ∧ wr.heap.size ≤ g ∧ Whole w2 g #[.int .i64 x, .int .i64 1] 3 ∧ Whole w2 vm #[.int .i64 1] 3) (fun w1 f1 => ?_)).mono ?_
  · refine answerL_some w1 _ _ (fun _ _ => rfl) _ ((once_make w1 vm vx x (h.count.fr f1 (fun e => a1 e.symm)) (h.held.fr f1 (fun e => a2 e.symm)) a3).mono ?_)
    rintro e w2 ⟨y, rfl, f2, rfl, k1, k2⟩
    exact ⟨_, rfl, f2, _, rfl, f1.size, k1, k2⟩
  · rintro e w' ⟨y, w2, rfl, ⟨g, rfl, hg, k1, k2⟩, f2, f3, k3⟩
    have hlt := h.lazy.lt
    refine ⟨g, rfl, k3, k2.fr f3 (fun e => a1 e.symm), (h.held.fr f2 (fun e => by rcases e with e | e; exact a2 e.symm; exact a3 e.symm)).fr f3 (fun e => a2 e.symm), k1.fr f3 (fun e => by omega), ?_⟩
    exact grew_fr (grew_fr h.grew f2 (fun i hi => by rcases hi with e | e <;> omega)) f3 (fun i hi => by omega)

/-- Get again. -/
theorem Onc1.get {w wr : World} {p vx vm : Nat} {x : Int} {g : Nat} (h : Onc1 w wr p vx vm x g) :
    Calls Try.prog 18 #[.pointer (some ⟨p, 0, none⟩)] wr fun e w' => ∃ g, e = .returned (.slice (some ⟨g, 0, none⟩) 2 2) ∧ Onc1 w w' p vx vm x g := by
  refine (getL_again wr p (some ⟨g, 0, none⟩) 2 2 h.lazy).mono ?_
  rintro e w' ⟨rfl, rfl⟩
  exact ⟨g, rfl, h⟩

def OnceRel (w wr : World) (p vx vm : Nat) (x : Int) (k : Nat) : Prop := (k = 0 ∧ Onc0 w wr p vx vm x) ∨ (0 < k ∧ ∃ g, Onc1 w wr p vx vm x g)
theorem OnceRel.get {w wr : World} {p vx vm : Nat} {x : Int} {k : Nat} (h : OnceRel w wr p vx vm x k) :
    Calls Try.prog 18 #[.pointer (some ⟨p, 0, none⟩)] wr fun e w' => ∃ g, e = .returned (.slice (some ⟨g, 0, none⟩) 2 2) ∧ Onc1 w w' p vx vm x g := by
  rcases h with ⟨_, h⟩ | ⟨_, g, h⟩
  · exact h.get
  · exact h.get

set_option maxRecDepth 100000 in
set_option maxHeartbeats 4000000 in
theorem tallyOnce_at (w : World) (x a : Int) (M n : Nat) (hM : (if (0 : Int) < a then a else 0) = (M : Int)) (hn : (M : Int) % 50 = (n : Int)) :
    Calls Try.prog 5 #[.int .i64 x, .int .i64 a] w fun e w' => e = .returned (.bool true) ∧ Below w.heap.size w w' := by
  have hn2 : n < 50 := by omega
  have hnot : ∀ (x : Bool) (w : World), (Op.unary .not (.bool x)).run Try.prog w = .ok (.bool (!x)) w := fun _ _ => rfl
  have hmf : ∀ (fn : Fn) (first cap : Array Value) (w : World), (Instr.makeFunc fn first cap).run Try.prog w = .ok (.func fn first cap) w := fun _ _ _ _ => rfl
  go_enter Try.func5, Try.ntmps5
  go_wp2_with fail
  clear hM
  have k1 : Whole ((w.alloc (.cells #[.int .i64 x] 3)).alloc (.cells #[.int .i64 0] 3)) (w.heap.size + 1) #[.int .i64 0] 3 := by
    have := Whole.new (w.alloc (.cells #[.int .i64 x] 3)) #[.int .i64 0] 3
    simpa using this
  have k2 : Whole ((w.alloc (.cells #[.int .i64 x] 3)).alloc (.cells #[.int .i64 0] 3)) w.heap.size #[.int .i64 x] 3 := (Whole.new w _ _).grew (grew_alloc (grew_refl _ none) _) (by simp)
  have g0 : Grew w ((w.alloc (.cells #[.int .i64 x] 3)).alloc (.cells #[.int .i64 0] 3)) none := grew_alloc (grew_alloc (grew_refl _ _) _) _
  have K1 := Lib.hid k1
  have K2 := Lib.hid k2
  have G0 := Lib.hid g0
  clear k1 k2 g0
  generalize (w.alloc (.cells #[.int .i64 x] 3)).alloc (.cells #[.int .i64 0] 3) = w0 at *
  generalize hvm : w.heap.size + 1 = vm at *
  generalize hvx : w.heap.size = vx at *
  have HVM := Lib.hid hvm
  have HVX := Lib.hid hvx
  clear hvm hvx
  refine (laterL_some w0 16 #[.pointer (some ⟨vm, 0, none⟩), .pointer (some ⟨vx, 0, none⟩)]).mono ?_
  rintro e w1 ⟨rfl, h1, g1⟩
  have hlm := K1.out.lt
  have hlx := K2.out.lt
  have H1 := Lib.hid h1
  have G1 := Lib.hid g1
  clear h1 g1
  generalize hp : w0.heap.size = p at *
  have HP := Lib.hid hp
  clear hp
  go_wp2_with fail
  clear hn
  refine (alive3_any w1).mono ?_
  rintro e w2 ⟨rfl, g2⟩
  have g3 := grew_trans G1.out g2
  have R0 := Lib.hid (show Onc0 w w2 p vx vm x from ⟨H1.out.grew g2 (by simp), K1.out.grew g3 (by simp), K2.out.grew g3 (by simp),
    by have := HVM.out; have := HVX.out; refine ⟨?_, ?_, ?_, ?_, ?_, ?_⟩ <;> omega, grew_trans G0.out g3⟩)
  have hcm : w2.cell? ⟨vm, 0, none⟩ = some (.int .i64 0) := R0.out.count.cell 0
  clear g2 g3 H1 G1 K1 K2 G0
  go_wp2_with fail
  refine (madeL_no w2 p _ R0.out.lazy).mono ?_
  rintro e w3 ⟨rfl, rfl⟩
  go_wp2_with fail
  clear hcm
  go_loopw [29] (fun i wr => ∃ k : Nat, k ≤ n ∧ i = .int .i64 k ∧ Hid (OnceRel w wr p vx vm x k)) (fun i _ => n - (intOf i).toNat)
  case atStart => exact ⟨0, Nat.zero_le _, rfl, Lib.hid (.inl ⟨rfl, R0.out⟩)⟩
  case round =>
    obtain ⟨k, hk, rfl, R⟩ := hrel
    by_cases hlt : k < n
    · go_wp2_with fail
      refine R.out.get.mono ?_
      rintro e w4 ⟨g, rfl, r4⟩
      have R4 := Lib.hid r4
      have c0 : w4.cell? ⟨g, 0, none⟩ = some (.int .i64 x) := r4.thing.cell 0
      have c1 : w4.cell? ⟨g, 1, none⟩ = some (.int .i64 1) := r4.thing.cell 1
      have c2 : w4.cell? ⟨vx, 0, none⟩ = some (.int .i64 x) := r4.held.cell 0
      clear r4
      go_wp2_with fail
      go_quiet (fail)
      clear c0 c1 c2
      go_wp2_with fail
      go_roundw
      case rel => exact ⟨k + 1, by omega, by go_num, Lib.hid (.inr ⟨by omega, g, R4.out.drewN _⟩)⟩
      case measure => simp [intOf]; omega
    · obtain rfl : k = n := by omega
      by_cases h0 : k = 0
      · subst h0
        have r0 : Onc0 w wr p vx vm x := by
          rcases R.out with ⟨_, h⟩ | ⟨h, _⟩
          · exact h
          · omega
        have RR := Lib.hid r0
        have hcm : wr.cell? ⟨vm, 0, none⟩ = some (.int .i64 0) := r0.count.cell 0
        clear r0 R
        go_wp2_with fail
        refine (madeL_no wr p _ RR.out.lazy).mono ?_
        rintro e w3 ⟨rfl, rfl⟩
        go_wp2_with fail
        go_ret
        exact ⟨rfl, grew_below RR.out.grew (by have := HVX.out; omega) (fun _ h => by cases h)⟩
      · obtain ⟨g, r0⟩ : ∃ g, Onc1 w wr p vx vm x g := by
          rcases R.out with ⟨h, _⟩ | ⟨_, h⟩
          · omega
          · exact h
        have RR := Lib.hid r0
        have hcm : wr.cell? ⟨vm, 0, none⟩ = some (.int .i64 1) := r0.count.cell 0
        have hk0 : ((k : Int) == 0) = false := by simpa using h0
        clear r0 R
        go_wp2_with fail
        refine (madeL_yes wr p _ RR.out.lazy).mono ?_
        rintro e w3 ⟨rfl, rfl⟩
        go_wp2_with fail
        go_ret
        exact ⟨rfl, grew_below RR.out.grew (by have := HVX.out; omega) (fun _ h => by cases h)⟩

theorem tallyOnce_walk (w : World) (x : Int) (_ : (Lit.int .i64 x).wf = true) (a : Int) (_ : (Lit.int .i64 a).wf = true) :
    Calls Try.prog 5 #[.int .i64 x, .int .i64 a] w fun e w' => e = .returned (.bool true) ∧ Below w.heap.size w w' := by
  obtain ⟨M, hM⟩ := max_nat a
  exact tallyOnce_at w x a M (M % 50) hM (by omega)

set_option maxRecDepth 100000 in
theorem tallyOnce_lifted (os : Os) (started : os.Started) (H : Type) (enc : TypeId × Value → H) :
    ReturnsInHanded {} Try.checked os 5 .any (Rows.tallyOnceSpec.pre6 enc Try.prog Try.f5 Rows.tallyOnceRow.domain false) (Rows.tallyOnceSpec.post enc Try.prog Try.f5 false true false false) := by
  refine returnsInHanded_of_change_sized (C := Try.checked) own started (by kernel_rfl) Try.func5
    (ChangeSpec.witness6 (enc := enc) (C := Try.checked) false ⟨#[], #[.int .i64 0, .int .i64 0], []⟩ 8 (by kernel_rfl) (by kernel_rfl) (by kernel_rfl) (by kernel_rfl)) ?_
  intro W base args ds gs before hval0 hW hcnd hsz0 _
  have hval : ∀ (j : Nat) t v, Try.f5.params[j]? = some t → args[j]? = some v → Value.okWide Try.prog W .any base t v := hval0
  have hsz : (DataW.weightsEach Try.prog (Try.f5.params.toList ++ Rows.tallyOnceSpec.plain.varTypes Try.prog) (ds ++ gs)).all (· ≤ reachBytes) = true := hsz0
  have hW' := hW
  obtain ⟨p, q, hA0, hV, rfl, hfz, hnd⟩ := hW
  have hA : DataW.TrodAll enc Try.prog W 0 (fun _ => true) true Try.f5.params.toList args.toList ds p := hA0
  rw [Try.params5] at hA hval hsz
  obtain ⟨v0, vs0, d0, ds0, p0, q0, hargs, rfl, rfl, h0, r0⟩ := trodAll_cons hA
  obtain ⟨v1, vs1, d1, ds1, p1, q1, rfl, rfl, rfl, h1, r1⟩ := trodAll_cons r0
  obtain ⟨rfl, rfl, rfl⟩ := trodAll_nil r1
  obtain rfl : args = #[v0, v1] := by cases args; simp_all
  obtain ⟨rfl, rfl⟩ := trodVars_none hV
  obtain ⟨a0, rfl, rfl, rfl, w0⟩ := open_int Try.underlying3 (hval 0 3 v0 rfl rfl) h0
  obtain ⟨a1, rfl, rfl, rfl, w1⟩ := open_int Try.underlying3 (hval 1 3 v1 rfl rfl) h1
  clear hA0 hval0 hsz0
  refine (tallyOnce_walk W a0 w0 a1 w1).mono fun e W' ⟨he, bel⟩ => ?_
  subst he
  exact ⟨_, rfl, _, _, _, [], _, [], hW', trodAll_mk1 (shut_bool Try.underlying4 _), (trodAll_cons_mk (shut_int Try.underlying3 w0) (trodAll_cons_mk (shut_int Try.underlying3 w1) trodAll_mk0)), rfl, bel.frame _, fun h => by cases h⟩

theorem tallyOnce_over : Rows.tallyOnceRow.holds Try.pinned (OpenSpec.ofChange Rows.tallyOnceSpec) :=
  OpenClaim.holds_of_wide 5 Try.f5 rfl rfl rfl rfl rfl rfl rfl ⟨rfl, rfl, rfl, rfl, rfl⟩ rfl rfl rfl rfl rfl (by kernel_rfl) Try.func5 (by kernel_rfl)
    (of_decide_eq_true (by kernel_rfl)) (by unfold Func.isWrapper; first | (rw [if_pos (by decide +kernel)]; kernel_rfl) | (rw [if_neg (by decide +kernel)]; exact ⟨rfl, rfl⟩))
    (fun os started H enc _ => tallyOnce_lifted os started H enc)

theorem tallyOnce_holds : Rows.TallyOnceSaid := tallyOnce_over
#print axioms tallyOnce_holds
end Go.Proofs.Ytooiejfabnaljaa

