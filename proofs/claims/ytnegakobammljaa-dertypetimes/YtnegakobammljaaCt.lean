/- What the package's functions are to answer, as premises of the laws' walks: the chapter's words (Ty). -/
import Derived.Test.YtnegakobammljaaTl3
import Derived.Test.YtnegakobammljaaLp2
import Derived.Test.YtnegakobammljaaLp3
import Derived.Test.YtnegakobammljaaTr5
import Derived.Test.YtnegakobammljaaTr6
namespace Go.Proofs.Ytnegakobammljaa
open Go.RowKit

/-- The longest list of bytes. -/
abbrev mxB : Nat := 140737488351232
def AliveC : Prop := ∀ w : World, Calls Try.prog 9 #[] w fun e w' => e = .returned (.bool true) ∧ Below w.heap.size w w'
def CheckC : Prop := ∀ (w : World) (tag : Int) (A : Option Addr) (c : Nat) (xs : List UInt8), -9223372036854775808 ≤ tag ∧ tag ≤ 9223372036854775807 → Byt w w.heap.size A xs → xs.length ≤ c → xs.length ≤ mxB →
  Calls Try.prog 10 #[.int .i64 tag, .slice A xs.length c] w fun e w' => e = .returned (.int .i64 (ckE tag xs)) ∧ Below w.heap.size w w'
def NumberC : Prop := ∀ (w : World) (A : Option Addr) (c : Nat) (xs : List UInt8), Byt w w.heap.size A xs → xs.length ≤ c → xs.length ≤ mxB →
  Calls Try.prog 12 #[.slice A xs.length c] w fun e w' => e = .returned (.tuple #[.int .i64 (nmR xs), .int .i64 (nmE xs)]) ∧ Below w.heap.size w w'
def ArcsC : Prop := ∀ (w : World) (A : Option Addr) (c : Nat) (xs : List UInt8), Byt w w.heap.size A xs → xs.length ≤ c → xs.length ≤ 1099511627776 →
  Calls Try.prog 14 #[.slice A xs.length c] w fun e w' => ∃ (A' : Option Addr) (c' : Nat), e = .returned (.tuple #[.slice A' (arR xs).length c', .int .i64 (arE xs)]) ∧ R64 w' w'.heap.size A' (arR xs) ∧ Below w.heap.size w w'
def BitsC : Prop := ∀ (w : World) (A : Option Addr) (c : Nat) (xs : List UInt8), Byt w w.heap.size A xs → xs.length ≤ c → xs.length ≤ mxB →
  Calls Try.prog 17 #[.slice A xs.length c] w fun e w' => ∃ (A' : Option Addr) (c' : Nat) (ys : List UInt8), ys = (if bt xs then xs.tail else []) ∧
    e = .returned (.tuple #[.slice A' ys.length c', .int .i64 (if bt xs then ((xs.getD 0 0).toNat : Int) else 0), .int .i64 (if bt xs then 0 else 13)]) ∧
    ys.length ≤ c' ∧ Byt w' w'.heap.size A' ys ∧ Below w.heap.size w w'
def TimeC : Prop := ∀ (w : World) (tag : Int) (A : Option Addr) (c : Nat) (xs : List UInt8), -9223372036854775808 ≤ tag ∧ tag ≤ 9223372036854775807 → Byt w w.heap.size A xs → xs.length ≤ c → xs.length ≤ mxB →
  Calls Try.prog 18 #[.int .i64 tag, .slice A xs.length c] w fun e w' =>
    e = .returned (.tuple #[agg6 (if (tag = 23 ∨ tag = 24) ∧ tyOk tag xs = true then tyL tag xs else [0, 0, 0, 0, 0, 0]), .int .i64 (if tag = 23 ∨ tag = 24 then (if tyOk tag xs then 0 else 13) else 2)]) ∧ Below w.heap.size w w'
theorem wf_range {n : Int} (h : (Lit.int .i64 n).wf = true) : -9223372036854775808 ≤ n ∧ n ≤ 9223372036854775807 := by
  simp [Lit.wf, IntKind.min, IntKind.max, IntKind.signed, IntKind.bits] at h
  omega
end Go.Proofs.Ytnegakobammljaa

