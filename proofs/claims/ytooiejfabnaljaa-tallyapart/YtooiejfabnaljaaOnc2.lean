/- The library's Once, one goroutine: Do, not yet done (its function by a contract), and done already. -/
import Derived.Test.YtooiejfabnaljaaOnc
namespace Go.Proofs.Ytooiejfabnaljaa
open Go.RowKit

/-- Behind the first Do: what its function left, the flag set, the lock let go. -/
def Done (R : World → Prop) (p : Nat) (w' : World) : Prop := ∃ w1, R w1 ∧ w' = (w1.setCell ⟨p, 0, none⟩ (.int .u32 1)).drew.setCell ⟨p, 1, none⟩ (.int .i32 0)

set_option maxRecDepth 100000 in
set_option maxHeartbeats 1600000 in
theorem slow_any (w : World) (p : Nat) (G : FuncId) (R : World → Prop) (hin : ∀ args w, (callFunc G args).run Try.prog w = .ok (.enter G args) w)
    (h0 : w.cell? ⟨p, 0, none⟩ = some (.int .u32 0)) (h1 : w.cell? ⟨p, 1, none⟩ = some (.int .i32 0)) (f1 : w.frozen? ⟨p, 1, none⟩ = false)
    (H : Calls Try.prog G #[.pointer (some ⟨p, 0, none⟩)] (w.setCell ⟨p, 1, none⟩ (.int .i32 1)) fun e w' => e = .returned (.tuple #[]) ∧ R w')
    (hR : ∀ w', R w' → w'.cell? ⟨p, 0, none⟩ = some (.int .u32 0) ∧ w'.cell? ⟨p, 1, none⟩ = some (.int .i32 1) ∧ w'.frozen? ⟨p, 0, none⟩ = false ∧ w'.frozen? ⟨p, 1, none⟩ = false) :
    Calls Try.prog 37 #[.pointer (some ⟨p, 0, none⟩), .func (.func G) #[.pointer (some ⟨p, 0, none⟩)] #[]] w fun e w' => e = .returned (.tuple #[]) ∧ Done R p w' := by
  have HR := Lib.hid hR
  have HH := Lib.hid H
  have H1 := Lib.hid h1
  have h01 : (w.setCell ⟨p, 1, none⟩ (.int .i32 1)).cell? ⟨p, 0, none⟩ = some (.int .u32 0) := (World.cell?_setCell_other _ ⟨p, 1, none⟩ ⟨p, 0, none⟩ _ (by simp)).trans h0
  have H01 := Lib.hid h01
  clear hR H h1 h0 h01
  have hnot : ∀ (x : Bool) (w : World), (Op.unary .not (.bool x)).run Try.prog w = .ok (.bool (!x)) w := fun _ _ => rfl
  go_enter_defers Try.func37, Try.ntmps37
  go_wp2_with fail
  refine (lock_free p 1 w H1.out f1).mono ?_
  rintro e w1 ⟨rfl, rfl⟩
  go_wp2_with fail
  refine (flag_no _ p 0 H01.out).mono ?_
  rintro e w1 ⟨rfl, rfl⟩
  go_wp2_with fail
  refine HH.out.mono ?_
  rintro e w2 ⟨rfl, r2⟩
  have R2 := Lib.hid r2
  clear r2
  go_wp2_with fail
  obtain ⟨c0, c1, z0, z1⟩ := HR.out w2 R2.out
  refine leaves_cons (f := 38) (args := #[.pointer (some ⟨p, 0, none⟩), .bool true]) (by simp) (by simp [go_sem]) ?_
  refine (store_deferred p 0 (.int .u32 0) .returning _ c0 z0).mono ?_
  rintro e u' w'' ⟨rfl, rfl, rfl⟩
  refine leaves_cons (f := 43) (args := #[.pointer (some ⟨p, 1, none⟩)]) (by simp [settle]) (by simp [go_sem]) ?_
  refine (unlock_deferred p 1 _ _ ?_ ?_).mono ?_
  · rw [World.cell?_drew]
    exact (World.cell?_setCell_other _ ⟨p, 0, none⟩ ⟨p, 1, none⟩ _ (by simp)).trans c1
  · simp [z1]
  rintro e u' w'' ⟨rfl, rfl, rfl⟩
  simp only [Leaves, settle]
  exact ⟨_, by simp [results, Try.results37], rfl, w2, R2.out, rfl⟩

set_option maxHeartbeats 800000 in
theorem do_first (w : World) (p : Nat) (G : FuncId) (R : World → Prop) (hin : ∀ args w, (callFunc G args).run Try.prog w = .ok (.enter G args) w)
    (h0 : w.cell? ⟨p, 0, none⟩ = some (.int .u32 0)) (h1 : w.cell? ⟨p, 1, none⟩ = some (.int .i32 0)) (f1 : w.frozen? ⟨p, 1, none⟩ = false)
    (H : Calls Try.prog G #[.pointer (some ⟨p, 0, none⟩)] (w.setCell ⟨p, 1, none⟩ (.int .i32 1)) fun e w' => e = .returned (.tuple #[]) ∧ R w')
    (hR : ∀ w', R w' → w'.cell? ⟨p, 0, none⟩ = some (.int .u32 0) ∧ w'.cell? ⟨p, 1, none⟩ = some (.int .i32 1) ∧ w'.frozen? ⟨p, 0, none⟩ = false ∧ w'.frozen? ⟨p, 1, none⟩ = false) :
    Calls Try.prog 30 #[.pointer (some ⟨p, 0, none⟩), .func (.func G) #[.pointer (some ⟨p, 0, none⟩)] #[]] w fun e w' => e = .returned (.tuple #[]) ∧ Done R p w' := by
  have HS := Lib.hid (slow_any w p G R hin h0 h1 f1 H hR)
  have H0 := Lib.hid h0
  clear hin h1 f1 H hR h0
  have hnot : ∀ (x : Bool) (w : World), (Op.unary .not (.bool x)).run Try.prog w = .ok (.bool (!x)) w := fun _ _ => rfl
  go_enter Try.func30, Try.ntmps30
  go_wp2_with fail
  refine (flag_no w p 0 H0.out).mono ?_
  rintro e w1 ⟨rfl, rfl⟩
  go_wp2_with fail
  refine HS.out.mono ?_
  rintro e w1 ⟨rfl, r1⟩
  have R1 := Lib.hid r1
  clear r1
  go_wp2_with fail
  go_end0
  exact ⟨rfl, R1.out⟩

set_option maxHeartbeats 800000 in
theorem do_done (w : World) (p : Nat) (fv : Value) (h0 : w.cell? ⟨p, 0, none⟩ = some (.int .u32 1)) :
    Calls Try.prog 30 #[.pointer (some ⟨p, 0, none⟩), fv] w fun e w' => e = .returned (.tuple #[]) ∧ w = w' := by
  have H0 := Lib.hid h0
  clear h0
  have hnot : ∀ (x : Bool) (w : World), (Op.unary .not (.bool x)).run Try.prog w = .ok (.bool (!x)) w := fun _ _ => rfl
  go_enter Try.func30, Try.ntmps30
  go_wp2_with fail
  refine (flag_yes w p 0 H0.out).mono ?_
  rintro e w1 ⟨rfl, rfl⟩
  go_wp2_with fail
  go_end0
  exact ⟨rfl, rfl⟩

end Go.Proofs.Ytooiejfabnaljaa

