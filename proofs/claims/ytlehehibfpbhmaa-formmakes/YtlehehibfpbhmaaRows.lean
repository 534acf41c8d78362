/-
  NARROWER THAN 'FOR EVERY INPUT', by the rows' own cells (each row's printed sentence says how): FormSames: loops · FormMakes: loops · FormRows: loops.
  DERIVED. THE GIVEN ROWS OF THIS SEAT. 5 by the template 'for every input the law returns true; each argument reads behind the call as it read before'; 0 by the template 'total and deterministic' (their statements: YtlehehibfpbhmaaTotals.lean).
  GIVEN WITH THE SEED: the statements are not yours to turn. If you find one false, say at which input.
  Laid BY PROGRAM, IN A SANDBOX (cutbox-rows.mjs): the forced cells as the released guide's own fill.sh prints them over the translation 98c252b742c97fcd… (all of the seat's roots in one cut). By AI agents, Wed Nov 11 2026. No macro, syntax, notation, axiom, sorry.
-/
import Derived.Test.YtlehehibfpbhmaaChecked
import GoSem.Claim
import GoSem.ClaimJoined
import GoSem.ClaimMapViews
import Derived.JoinedTies
import Derived.KernelRfl
namespace Go.Proofs.Ytlehehibfpbhmaa
/- THE CELL 'sum', in the pinned program and in every row, IS THE sha256 OF THE DUMP (.gsa) THAT YtlehehibfpbhmaaProg.lean LOADS. Nothing in Lean hashes anything: it is a label: what it is worth is what the hold of that sum in a sandbox is worth. -/
noncomputable def Try.pinned : Pinned := { name := "ytlehehibfpbhmaa", sum := "98c252b742c97fcd93f97273b43f2f64351982ba35b09dcf1e05599db9320660", checked := Try.checked }
namespace Rows
def none {H : Type} : Left H := { results := [], args := [] }

/-- 'passepartoutlaw04.FormSames': WHATEVER THE INPUT: true; the input reads as it did. -/
def formSamesSpec : ChangeSpec := { name := "formSames", fn := fun _ => fun
  | [d1, d2] => { results := [.lit (.bool true)], args := [d1, d2] }
  | _ => none }
def formSamesRow : OpenClaim := { program := "ytlehehibfpbhmaa", sum := "98c252b742c97fcd93f97273b43f2f64351982ba35b09dcf1e05599db9320660", func := "passepartout/passepartoutlaw04.FormSames", spec := "formSames", unfollowed := true, recurses := true, loops := true, plainKeys := false, apart := false }
def FormSamesSaid : Prop := formSamesRow.holds Try.pinned (OpenSpec.ofChange formSamesSpec)

/-- ITS FALSE NEIGHBOUR: 'it returns false'. Refute it at one input. -/
def formSamesWrong : ChangeSpec := { name := "formSames", fn := fun _ => fun
  | [d1, d2] => { results := [.lit (.bool false)], args := [d1, d2] }
  | _ => none }
def FormSamesWrongFalsely : Prop := formSamesRow.holds Try.pinned (OpenSpec.ofChange formSamesWrong)

/-- 'passepartoutlaw04.FormMakes': WHATEVER THE INPUT: true; the input reads as it did. -/
def formMakesSpec : ChangeSpec := { name := "formMakes", fn := fun _ => fun
  | [d1, d2, d3] => { results := [.lit (.bool true)], args := [d1, d2, d3] }
  | _ => none }
def formMakesRow : OpenClaim := { program := "ytlehehibfpbhmaa", sum := "98c252b742c97fcd93f97273b43f2f64351982ba35b09dcf1e05599db9320660", func := "passepartout/passepartoutlaw04.FormMakes", spec := "formMakes", unfollowed := true, recurses := true, loops := true, plainKeys := false, apart := false }
def FormMakesSaid : Prop := formMakesRow.holds Try.pinned (OpenSpec.ofChange formMakesSpec)

/-- ITS FALSE NEIGHBOUR: 'it returns false'. Refute it at one input. -/
def formMakesWrong : ChangeSpec := { name := "formMakes", fn := fun _ => fun
  | [d1, d2, d3] => { results := [.lit (.bool false)], args := [d1, d2, d3] }
  | _ => none }
def FormMakesWrongFalsely : Prop := formMakesRow.holds Try.pinned (OpenSpec.ofChange formMakesWrong)

/-- 'passepartoutlaw04.FormRows': WHATEVER THE INPUT: true; the input reads as it did. -/
def formRowsSpec : ChangeSpec := { name := "formRows", fn := fun _ => fun
  | [d] => { results := [.lit (.bool true)], args := [d] }
  | _ => none }
def formRowsRow : OpenClaim := { program := "ytlehehibfpbhmaa", sum := "98c252b742c97fcd93f97273b43f2f64351982ba35b09dcf1e05599db9320660", func := "passepartout/passepartoutlaw04.FormRows", spec := "formRows", unfollowed := true, recurses := true, loops := true, plainKeys := false, apart := false }
def FormRowsSaid : Prop := formRowsRow.holds Try.pinned (OpenSpec.ofChange formRowsSpec)

/-- ITS FALSE NEIGHBOUR: 'it returns false'. Refute it at one input. -/
def formRowsWrong : ChangeSpec := { name := "formRows", fn := fun _ => fun
  | [d] => { results := [.lit (.bool false)], args := [d] }
  | _ => none }
def FormRowsWrongFalsely : Prop := formRowsRow.holds Try.pinned (OpenSpec.ofChange formRowsWrong)

/-- 'passepartoutlaw04.FormDeep': WHATEVER THE INPUT: true; the input reads as it did. -/
def formDeepSpec : ChangeSpec := { name := "formDeep", fn := fun _ => fun
  | [d1, d2] => { results := [.lit (.bool true)], args := [d1, d2] }
  | _ => none }
def formDeepRow : OpenClaim := { program := "ytlehehibfpbhmaa", sum := "98c252b742c97fcd93f97273b43f2f64351982ba35b09dcf1e05599db9320660", func := "passepartout/passepartoutlaw04.FormDeep", spec := "formDeep", unfollowed := true, recurses := true, plainKeys := false, apart := false }
def FormDeepSaid : Prop := formDeepRow.holds Try.pinned (OpenSpec.ofChange formDeepSpec)

/-- ITS FALSE NEIGHBOUR: 'it returns false'. Refute it at one input. -/
def formDeepWrong : ChangeSpec := { name := "formDeep", fn := fun _ => fun
  | [d1, d2] => { results := [.lit (.bool false)], args := [d1, d2] }
  | _ => none }
def FormDeepWrongFalsely : Prop := formDeepRow.holds Try.pinned (OpenSpec.ofChange formDeepWrong)

/-- 'passepartoutlaw04.FormLengths': WHATEVER THE INPUT: true; the input reads as it did. -/
def formLengthsSpec : ChangeSpec := { name := "formLengths", fn := fun _ => fun
  | [d] => { results := [.lit (.bool true)], args := [d] }
  | _ => none }
def formLengthsRow : OpenClaim := { program := "ytlehehibfpbhmaa", sum := "98c252b742c97fcd93f97273b43f2f64351982ba35b09dcf1e05599db9320660", func := "passepartout/passepartoutlaw04.FormLengths", spec := "formLengths", unfollowed := true, recurses := true, plainKeys := false, apart := false }
def FormLengthsSaid : Prop := formLengthsRow.holds Try.pinned (OpenSpec.ofChange formLengthsSpec)

/-- ITS FALSE NEIGHBOUR: 'it returns false'. Refute it at one input. -/
def formLengthsWrong : ChangeSpec := { name := "formLengths", fn := fun _ => fun
  | [d] => { results := [.lit (.bool false)], args := [d] }
  | _ => none }
def FormLengthsWrongFalsely : Prop := formLengthsRow.holds Try.pinned (OpenSpec.ofChange formLengthsWrong)

/- THE SECOND FORM. 'bulk': how many values and letters a reading holds, each counted each time it is reached (what is shared counts as often as it is met; a slice's spare places count too). A statement '..UptoSaid' is the law's where the arguments, and the package variables that the reading takes, are together of bulk at most 1048576: NARROWER than '..Said'. Prove '..Said' where nothing that the law and all that it calls make is longer than what came in: it says more and counts as full. Else prove '..UptoSaid'. A law counts once. -/
mutual
def uptoBulk {H : Type} : DataW H → Nat
  | .lit (.string bytes) => bytes.length + 1
  | .lit _ => 1
  | .nil => 1
  | .ptr d => uptoBulk d + 1
  | .slice elems spare => uptoBulkAll elems + uptoBulkAll spare + 1
  | .agg parts => uptoBulkAll parts + 1
  | .iface _ d => uptoBulk d + 1
  | .map entries => uptoBulkEntries entries + 1
  | .held _ => 1
def uptoBulkAll {H : Type} : List (DataW H) → Nat
  | [] => 0
  | d :: r => uptoBulk d + uptoBulkAll r
def uptoBulkEntries {H : Type} : List (Lit × DataW H) → Nat
  | [] => 0
  | x :: r => uptoBulkEntry x + uptoBulkEntries r
def uptoBulkEntry {H : Type} : Lit × DataW H → Nat
  | (.string bytes, d) => bytes.length + uptoBulk d + 1
  | (_, d) => uptoBulk d + 1
 end
def uptoSmall : (H : Type) → List (DataW H) → Bool := fun _ ds => decide (uptoBulkAll ds ≤ 1048576)
def OpenSpec.upto (s : _root_.Go.ChangeSpec) : _root_.Go.OpenSpec := { _root_.Go.OpenSpec.ofChange s with cond := some uptoSmall }

/-- 'passepartoutlaw04.FormSames', WHERE WHAT IT READS IS OF BULK AT MOST 1048576: true; the input reads as it did. -/
def formSamesUptoRow : OpenClaim := { program := "ytlehehibfpbhmaa", sum := "98c252b742c97fcd93f97273b43f2f64351982ba35b09dcf1e05599db9320660", func := "passepartout/passepartoutlaw04.FormSames", spec := "formSames", unfollowed := true, recurses := true, loops := true, plainKeys := false, apart := false, narrowed := true }
def FormSamesUptoSaid : Prop := formSamesUptoRow.holds Try.pinned (OpenSpec.upto formSamesSpec)

/-- 'passepartoutlaw04.FormMakes', WHERE WHAT IT READS IS OF BULK AT MOST 1048576: true; the input reads as it did. -/
def formMakesUptoRow : OpenClaim := { program := "ytlehehibfpbhmaa", sum := "98c252b742c97fcd93f97273b43f2f64351982ba35b09dcf1e05599db9320660", func := "passepartout/passepartoutlaw04.FormMakes", spec := "formMakes", unfollowed := true, recurses := true, loops := true, plainKeys := false, apart := false, narrowed := true }
def FormMakesUptoSaid : Prop := formMakesUptoRow.holds Try.pinned (OpenSpec.upto formMakesSpec)

/-- 'passepartoutlaw04.FormRows', WHERE WHAT IT READS IS OF BULK AT MOST 1048576: true; the input reads as it did. -/
def formRowsUptoRow : OpenClaim := { program := "ytlehehibfpbhmaa", sum := "98c252b742c97fcd93f97273b43f2f64351982ba35b09dcf1e05599db9320660", func := "passepartout/passepartoutlaw04.FormRows", spec := "formRows", unfollowed := true, recurses := true, loops := true, plainKeys := false, apart := false, narrowed := true }
def FormRowsUptoSaid : Prop := formRowsUptoRow.holds Try.pinned (OpenSpec.upto formRowsSpec)

/-- 'passepartoutlaw04.FormDeep', WHERE WHAT IT READS IS OF BULK AT MOST 1048576: true; the input reads as it did. -/
def formDeepUptoRow : OpenClaim := { program := "ytlehehibfpbhmaa", sum := "98c252b742c97fcd93f97273b43f2f64351982ba35b09dcf1e05599db9320660", func := "passepartout/passepartoutlaw04.FormDeep", spec := "formDeep", unfollowed := true, recurses := true, plainKeys := false, apart := false, narrowed := true }
def FormDeepUptoSaid : Prop := formDeepUptoRow.holds Try.pinned (OpenSpec.upto formDeepSpec)

/-- 'passepartoutlaw04.FormLengths', WHERE WHAT IT READS IS OF BULK AT MOST 1048576: true; the input reads as it did. -/
def formLengthsUptoRow : OpenClaim := { program := "ytlehehibfpbhmaa", sum := "98c252b742c97fcd93f97273b43f2f64351982ba35b09dcf1e05599db9320660", func := "passepartout/passepartoutlaw04.FormLengths", spec := "formLengths", unfollowed := true, recurses := true, plainKeys := false, apart := false, narrowed := true }
def FormLengthsUptoSaid : Prop := formLengthsUptoRow.holds Try.pinned (OpenSpec.upto formLengthsSpec)

end Rows
end Go.Proofs.Ytlehehibfpbhmaa
