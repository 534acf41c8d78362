/- Contracts of a Lazy of the kind string: Later, Get (the first time; again), Made; of none. (Laid by tools/laz.py out of Laz.tpl.) -/
import Derived.Test.YtooiejfabnaljaaLazGen
namespace Go.Proofs.Ytooiejfabnaljaa
open Go.RowKit

/-- Not made yet; made. -/
abbrev LazS (w : World) (p : Nat) (fn : Value) : Prop := Whole w p #[.int .u32 0, .int .i32 0, .int .u32 0, fn, .string ⟨#[]⟩, .int .u32 0] 73
abbrev LmdS (w : World) (p : Nat) (v : Value) : Prop := Whole w p #[.int .u32 1, .int .i32 0, .int .u32 0, .nilFunc, v, .int .u32 1] 73

theorem laterS_nil (w : World) :
    Calls Try.prog 24 #[.nilFunc] w fun e w' => e = .returned (.pointer (some ⟨w.heap.size, 0, none⟩)) ∧ LazS w' w.heap.size .nilFunc ∧ Grew w w' none := by
  go_enter Try.func24, Try.ntmps24
  go_wp2_with fail
  go_ret
  exact ⟨rfl, Whole.new _ _ _, grew_alloc (grew_refl _ _) _⟩
theorem laterS_some (w : World) (G : FuncId) (cap : Array Value) :
    Calls Try.prog 24 #[.func (.func G) #[] cap] w fun e w' => e = .returned (.pointer (some ⟨w.heap.size, 0, none⟩)) ∧ LazS w' w.heap.size (.func (.func G) #[] cap) ∧ Grew w w' none := by
  go_enter Try.func24, Try.ntmps24
  go_wp2_with fail
  go_ret
  exact ⟨rfl, Whole.new _ _ _, grew_alloc (grew_refl _ _) _⟩

theorem madeS_nil (w : World) :
    Calls Try.prog 20 #[.pointer none] w fun e w' => e = .returned (.bool false) ∧ w = w' := by
  go_enter Try.func20, Try.ntmps20
  go_wp2_with fail
  go_ret
  exact ⟨rfl, rfl⟩
theorem madeS_no (w : World) (p : Nat) (fn : Value) (h : LazS w p fn) :
    Calls Try.prog 20 #[.pointer (some ⟨p, 0, none⟩)] w fun e w' => e = .returned (.bool false) ∧ w = w' := by
  have H := Lib.hid (h.cell 5)
  clear h
  go_enter Try.func20, Try.ntmps20
  go_wp2_with fail
  refine (flag_no w p 5 H.out).mono ?_
  rintro e w1 ⟨rfl, rfl⟩
  go_wp2_with fail
  go_ret
  exact ⟨rfl, rfl⟩
theorem madeS_yes (w : World) (p : Nat) (v : Value) (h : LmdS w p v) :
    Calls Try.prog 20 #[.pointer (some ⟨p, 0, none⟩)] w fun e w' => e = .returned (.bool true) ∧ w = w' := by
  have H := Lib.hid (h.cell 5)
  clear h
  go_enter Try.func20, Try.ntmps20
  go_wp2_with fail
  refine (flag_yes w p 5 H.out).mono ?_
  rintro e w1 ⟨rfl, rfl⟩
  go_wp2_with fail
  go_ret
  exact ⟨rfl, rfl⟩

theorem getS_nil (w : World) :
    Calls Try.prog 19 #[.pointer none] w fun e w' => e = .returned (.string ⟨#[]⟩) ∧ w = w' := by
  go_enter Try.func19, Try.ntmps19
  go_wp2_with fail
  go_ret
  exact ⟨rfl, rfl⟩

/-- The deferred recover of a frame that returns. -/
theorem catchS_idle (w : World) :
    CallsD Try.prog 47 #[] .returning w fun e u' w' => e = .returned (.tuple #[]) ∧ u' = .returning ∧ w' = w := by
  refine callsD_of_wpS Try.func47 rfl fun c₀ cs hu => ?_
  apply wpS_region
  simp [wpOpsS, go_sem, recoverD, hu, Try.ntmps47, bodyPostS, results, Try.results47]
  cases c₀
  simp_all

theorem eqS_nil (w : World) : (binOp .eql 43 .nilFunc .nilFunc).run Try.prog w = .ok (.bool true) w := by kernel_rfl
theorem eqS_some (w : World) (G : FuncId) (cap : Array Value) : (binOp .eql 43 (.func (.func G) #[] cap) .nilFunc).run Try.prog w = .ok (.bool false) w := by kernel_rfl

set_option maxRecDepth 100000 in
set_option maxHeartbeats 800000 in
theorem answerS_nil (w : World) :
    Calls Try.prog 40 #[.nilFunc] w fun e w' => e = .returned (.string ⟨#[]⟩) ∧ w = w' := by
  have q1 := eqS_nil
  have q2 := eqS_some
  go_enter_defers Try.func40, Try.ntmps40
  go_wp2_with fail
  exact ⟨_, results_tmp rfl _ _ _, rfl, rfl⟩

set_option maxRecDepth 100000 in
set_option maxHeartbeats 800000 in
theorem answerS_some (w : World) (G : FuncId) (cap : Array Value) (hin : ∀ args w, (callFunc G args).run Try.prog w = .ok (.enter G args) w) (Post : ByteArray → World → Prop)
    (H : Calls Try.prog G cap w (Ans (fun x => .string x) Post)) :
    Calls Try.prog 40 #[.func (.func G) #[] cap] w (Ans (fun x => .string x) Post) := by
  have HH := Lib.hid H
  clear H
  have q1 := eqS_nil
  have q2 := eqS_some
  go_enter_defers Try.func40, Try.ntmps40
  go_wp2_with fail
  refine HH.out.mono ?_
  rintro e w1 ⟨x, rfl, r1⟩
  have R1 := Lib.hid r1
  clear r1
  go_wp2_with fail
  refine leaves_cons (f := 47) (args := #[]) (by simp) (by simp [go_sem]) ?_
  refine (catchS_idle _).mono ?_
  rintro e u' w'' ⟨rfl, rfl, rfl⟩
  simp only [Leaves, settle]
  exact ⟨_, results_tmp rfl _ _ _, _, rfl, R1.out⟩

set_option maxRecDepth 100000 in
set_option maxHeartbeats 1600000 in
theorem fillS_any (w : World) (p : Nat) (d s z fn : Value) (h : Whole w p #[d, s, z, fn, .string ⟨#[]⟩, .int .u32 0] 73) (F : Nat → Prop) (hF : ¬ F p) (Post : ByteArray → World → Prop)
    (H : ∀ w1, Fr w w1 (fun i => i = p) → Calls Try.prog 40 #[fn] w1 (Ans (fun x => .string x) fun x w2 => Fr w1 w2 F ∧ Post x w2)) :
    Calls Try.prog 32 #[.pointer (some ⟨p, 0, none⟩)] w fun e w' => e = .returned (.tuple #[]) ∧ Filled 73 (fun x => .string x) F Post p d s z w w' := by
  have h3 : w.cell? ⟨p, 3, none⟩ = some fn := h.cell 3
  have z3 : w.frozen? ⟨p, 3, none⟩ = false := h.frozen 3
  have HW := Lib.hid h
  have HH := Lib.hid H
  have HF := Lib.hid hF
  clear h H hF
  go_enter_defers Try.func32, Try.ntmps32
  go_wp2_with fail
  have hw1 := HW.out.set 3 .nilFunc
  simp at hw1
  have f1 : Fr w (w.setCell ⟨p, 3, none⟩ .nilFunc) (fun i => i = p) := fr_set _ _ _ _
  have HW1 := Lib.hid hw1
  have F1 := Lib.hid f1
  clear h3 z3 hw1 f1
  generalize w.setCell ⟨p, 3, none⟩ .nilFunc = w1 at *
  refine (HH.out w1 F1.out).mono ?_
  rintro e w2 ⟨x, rfl, f2, r2⟩
  have hw2 := HW1.out.fr f2 HF.out
  have F2 := Lib.hid (fr_both F1.out f2)
  have z4 : w2.frozen? ⟨p, 4, none⟩ = false := hw2.frozen 4
  have c4 : w2.cell? ⟨p, 4, none⟩ = some (.string ⟨#[]⟩) := hw2.cell 4
  have HW2 := Lib.hid hw2
  have R2 := Lib.hid r2
  clear f2 r2 hw2 HW HH HF HW1 F1
  go_wp2_with fail
  clear z4 c4
  have hw3 := HW2.out.set 4 ((fun x => .string x) x)
  simp at hw3
  refine leaves_cons (f := 38) (args := #[.pointer (some ⟨p, 5, none⟩), .bool true]) (by simp) (by simp [go_sem]) ?_
  refine (store_deferred p 5 (.int .u32 0) .returning _ (hw3.cell 5) (hw3.frozen 5)).mono ?_
  rintro e u' w'' ⟨rfl, rfl, rfl⟩
  have hw4 := (hw3.set 5 (.int .u32 1)).fr (F := fun _ => False) ((Fr.refl _ _).drew) (fun h => h)
  simp at hw4
  simp only [Leaves, settle]
  exact ⟨_, by simp [results, Try.results32], rfl, x, w2, R2.out, F2.out, (fr_then (fr_set _ _ _ _) (fr_set _ _ _ _)).drew, hw4⟩

set_option maxRecDepth 100000 in
set_option maxHeartbeats 1600000 in
/-- The first Get. -/
theorem getS_first (w : World) (p : Nat) (fn : Value) (h : LazS w p fn) (F : Nat → Prop) (hF : ¬ F p) (Post : ByteArray → World → Prop)
    (H : ∀ w1, Fr w w1 (fun i => i = p) → Calls Try.prog 40 #[fn] w1 (Ans (fun x => .string x) fun x w2 => Fr w1 w2 F ∧ Post x w2)) :
    Calls Try.prog 19 #[.pointer (some ⟨p, 0, none⟩)] w (Got 73 (fun x => .string x) F Post p w) := by
  have hmf : ∀ (fn : Fn) (first cap : Array Value) (w : World), (Instr.makeFunc fn first cap).run Try.prog w = .ok (.func fn first cap) w := fun _ _ _ _ => rfl
  have hwA := h.set 1 (.int .i32 1)
  simp at hwA
  have hfill := fillS_any _ p _ _ _ _ hwA F hF Post (fun w1 f1 => H w1 (fr_then (fr_set _ _ _ _) f1))
  have hdo := do_first w p 32 _ (fun _ _ => rfl) (h.cell 0) (h.cell 1) (h.frozen 1) hfill (fun w' ⟨x, w2, _, _, _, hw⟩ => ⟨hw.cell 0, hw.cell 1, hw.frozen 0, hw.frozen 1⟩)
  have HDO := Lib.hid hdo
  clear hdo hfill hwA h H
  go_enter Try.func19, Try.ntmps19
  go_wp2_with fail
  refine HDO.out.mono ?_
  rintro e w' ⟨rfl, w1, ⟨x, w2, r2, f2, f3, hw1⟩, rfl⟩
  have hw3 := (hw1.set 0 (.int .u32 1)).fr (F := fun _ => False) ((Fr.refl _ _).drew) (fun h => h)
  have hw4 := hw3.set 1 (.int .i32 0)
  simp at hw4
  have f4 : Fr w2 ((w1.setCell ⟨p, 0, none⟩ (.int .u32 1)).drew.setCell ⟨p, 1, none⟩ (.int .i32 0)) (fun i => i = p) := fr_then (fr_then f3 (fr_set _ _ _ _).drew) (fr_set _ _ _ _)
  have f5 : Fr w w2 (fun i => i = p ∨ F i) := (fr_set w p 1 (.int .i32 1)).mono (G := fun i => i = p ∨ F i) (fun _ _ h => .inl h) |>.trans f2 (fun _ _ h => h)
  generalize (w1.setCell ⟨p, 0, none⟩ (.int .u32 1)).drew.setCell ⟨p, 1, none⟩ (.int .i32 0) = w4 at *
  have c4 : w4.cell? ⟨p, 4, none⟩ = some ((fun x => .string x) x) := hw4.cell 4
  have HW4 := Lib.hid hw4
  have F4 := Lib.hid f4
  have F5 := Lib.hid f5
  have R2 := Lib.hid r2
  clear hw3 hw4 f4 f5 r2 f2 f3 hw1
  go_wp2_with fail
  go_ret
  exact ⟨x, w2, rfl, R2.out, F5.out, F4.out, HW4.out⟩

set_option maxHeartbeats 800000 in
/-- Get, made already. -/
theorem getS_again (w : World) (p : Nat) (x : ByteArray) (h : LmdS w p ((fun x => .string x) x)) :
    Calls Try.prog 19 #[.pointer (some ⟨p, 0, none⟩)] w fun e w' => e = .returned ((fun x => .string x) x) ∧ w = w' := by
  have hmf : ∀ (fn : Fn) (first cap : Array Value) (w : World), (Instr.makeFunc fn first cap).run Try.prog w = .ok (.func fn first cap) w := fun _ _ _ _ => rfl
  have c4 : w.cell? ⟨p, 4, none⟩ = some ((fun x => .string x) x) := h.cell 4
  have c0 : w.cell? ⟨p, 0, none⟩ = some (.int .u32 1) := h.cell 0
  have C0 := Lib.hid c0
  clear h c0
  go_enter Try.func19, Try.ntmps19
  go_wp2_with fail
  refine (do_done w p _ C0.out).mono ?_
  rintro e w1 ⟨rfl, rfl⟩
  go_wp2_with fail
  go_ret
  exact ⟨rfl, rfl⟩

end Go.Proofs.Ytooiejfabnaljaa

