/- Moments that are compared. -/
import Derived.Test.YtnegakobammljaaCc
namespace Go.Proofs.Ytnegakobammljaa
open Go.RowKit

/-- A moment. -/
abbrev mo6 (v0 v1 v2 v3 v4 v5 : Int) : Value := .agg #[.int .i64 v0, .int .i64 v1, .int .i64 v2, .int .i64 v3, .int .i64 v4, .int .i64 v5]
set_option maxRecDepth 100000 in
theorem eq6 (v0 v1 v2 v3 v4 v5 : Int) (w : World) : (binOp .eql 40 (mo6 v0 v1 v2 v3 v4 v5) (mo6 v0 v1 v2 v3 v4 v5)).run Try.prog w = .ok (.bool true) w := by
  have hs : (Go.sizeOf 3).run Try.prog w = .ok 1 w := by kernel_rfl
  rw [run_eql_struct]
  show ((Op.equalIn (9999 + 1) 40 _ _).run Try.prog w).andThen _ = _
  unfold Op.equalIn
  simp [run_underlying Try.underlying40, hs, Std.Legacy.Range.forIn_eq_forIn_range', Std.Legacy.Range.size, List.range', go_sem]
set_option maxRecDepth 100000 in
theorem neq6 (v0 v1 v2 v3 v4 v5 : Int) (w : World) : (binOp .neq 40 (mo6 v0 v1 v2 v3 v4 v5) (mo6 v0 v1 v2 v3 v4 v5)).run Try.prog w = .ok (.bool false) w := by
  have h := eq6 v0 v1 v2 v3 v4 v5 w
  rw [run_eql_struct] at h
  rw [run_neq_struct]
  cases hr : (Op.equalIn 10000 40 (mo6 v0 v1 v2 v3 v4 v5) (mo6 v0 v1 v2 v3 v4 v5)).run Try.prog w with
  | ok b w' =>
    rw [hr] at h
    simp only [Result.andThen_ok] at h
    injection h with h1 h2
    injection h1 with h1
    subst h1
    subst h2
    rfl
  | halt x w' => rw [hr] at h; simp [Result.andThen] at h
theorem guard6 : Try.prog.eqGuardType Try.prog.depth 40 = false := by kernel_rfl
theorem agg6_form (zs : List Int) (h : zs.length = 6) : ∃ v0 v1 v2 v3 v4 v5 : Int, zs = [v0, v1, v2, v3, v4, v5] := by
  match zs, h with
  | [a, b, c, d, e, f], _ => exact ⟨a, b, c, d, e, f, rfl⟩
end Go.Proofs.Ytnegakobammljaa

