/-
  NARROWER THAN 'FOR EVERY INPUT', by the rows' own cells (each row's printed sentence says how): DertagReads: laid · DertagPuts: laid · DertagBack: laid · DertagOne: laid · DertagBytes: laid · DertagLengths: laid.
  DERIVED. THE GIVEN ROWS OF THIS SEAT. 6 by the template 'for every input the law returns true; each argument reads behind the call as it read before'; 0 by the template 'total and deterministic' (their statements: YtbeknillegkidaaDoorTotals.lean).
  GIVEN WITH THE SEED: the statements are not yours to turn. If you find one false, say at which input.
  Laid BY PROGRAM, IN A SANDBOX (cutbox-rows.mjs): the forced cells as the released guide's own fill.sh prints them over the translation f8cbc71812e4b5aa… (all of the seat's roots in one cut). By AI agents, Wed Nov 11 2026. No macro, syntax, notation, axiom, sorry.
-/
import Derived.Test.YtbeknillegkidaaDoorChecked
import GoSem.Claim
import GoSem.ClaimJoined
import GoSem.ClaimMapViews
import Derived.JoinedTies
import Derived.KernelRfl
namespace Go.Proofs.YtbeknillegkidaaDoor
/- THE CELL 'sum', in the pinned program and in every row, IS THE sha256 OF THE DUMP (.gsa) THAT YtbeknillegkidaaDoorProg.lean LOADS. Nothing in Lean hashes anything: it is a label: what it is worth is what the hold of that sum in a sandbox is worth. -/
noncomputable def Tryd.pinned : Pinned := { name := "ytbeknillegkidaadoor", sum := "f8cbc71812e4b5aa846d5bc115f7b4c353aa740e4b6538035657af4a06704d4d", checked := Tryd.checked }
namespace Rows
def none {H : Type} : Left H := { results := [], args := [] }

/- WHAT THE LISTED PACKAGE-LEVEL VARIABLES READ AS WHEN THE CALL BEGINS. Each datum BY PROGRAM (the guide's laid-datum.mjs) off the statement by which the dump's own 'gosem.cut.vars' lays the variable. In a bare row this is a premise. The card (YtbeknillegkidaaDoorCards.lean) ties it to the program's text. -/
def laid_passepartout_dertag_universal {H : Type} : DataW H := .agg [.agg [.lit (.int .i64 1), .lit (.bool false)], .agg [.lit (.int .i64 2), .lit (.bool false)], .agg [.lit (.int .i64 3), .lit (.bool false)], .agg [.lit (.int .i64 4), .lit (.bool false)], .agg [.lit (.int .i64 5), .lit (.bool false)], .agg [.lit (.int .i64 6), .lit (.bool false)], .agg [.lit (.int .i64 10), .lit (.bool false)], .agg [.lit (.int .i64 12), .lit (.bool false)], .agg [.lit (.int .i64 16), .lit (.bool true)], .agg [.lit (.int .i64 17), .lit (.bool true)], .agg [.lit (.int .i64 18), .lit (.bool false)], .agg [.lit (.int .i64 19), .lit (.bool false)], .agg [.lit (.int .i64 20), .lit (.bool false)], .agg [.lit (.int .i64 22), .lit (.bool false)], .agg [.lit (.int .i64 23), .lit (.bool false)], .agg [.lit (.int .i64 24), .lit (.bool false)], .agg [.lit (.int .i64 26), .lit (.bool false)], .agg [.lit (.int .i64 28), .lit (.bool false)], .agg [.lit (.int .i64 30), .lit (.bool false)]]

/-- 'passepartoutlaw09.DertagReads': WHATEVER THE INPUT: true; the input reads as it did. -/
def dertagReadsSpec : ChangeSpec := { name := "dertagReads", fn := fun _ => fun
  | [d] => { results := [.lit (.bool true)], args := [d] }
  | _ => none }
def dertagReadsRow : OpenClaim := { program := "ytbeknillegkidaadoor", sum := "f8cbc71812e4b5aa846d5bc115f7b4c353aa740e4b6538035657af4a06704d4d", func := "passepartout/passepartoutlaw09.DertagReads", spec := "dertagReads", named := ["passepartout/dertag.universal"], apart := false, laid := [("passepartout/dertag.universal", laid_passepartout_dertag_universal)] }
def DertagReadsSaid : Prop := dertagReadsRow.holds Tryd.pinned (OpenSpec.ofChange dertagReadsSpec)

/-- ITS FALSE NEIGHBOUR: 'it returns false'. Refute it at one input. -/
def dertagReadsWrong : ChangeSpec := { name := "dertagReads", fn := fun _ => fun
  | [d] => { results := [.lit (.bool false)], args := [d] }
  | _ => none }
def DertagReadsWrongFalsely : Prop := dertagReadsRow.holds Tryd.pinned (OpenSpec.ofChange dertagReadsWrong)

/-- 'passepartoutlaw09.DertagPuts': WHATEVER THE INPUT: true; the input reads as it did. -/
def dertagPutsSpec : ChangeSpec := { name := "dertagPuts", fn := fun _ => fun
  | [d] => { results := [.lit (.bool true)], args := [d] }
  | _ => none }
def dertagPutsRow : OpenClaim := { program := "ytbeknillegkidaadoor", sum := "f8cbc71812e4b5aa846d5bc115f7b4c353aa740e4b6538035657af4a06704d4d", func := "passepartout/passepartoutlaw09.DertagPuts", spec := "dertagPuts", named := ["passepartout/dertag.universal"], apart := false, laid := [("passepartout/dertag.universal", laid_passepartout_dertag_universal)] }
def DertagPutsSaid : Prop := dertagPutsRow.holds Tryd.pinned (OpenSpec.ofChange dertagPutsSpec)

/-- ITS FALSE NEIGHBOUR: 'it returns false'. Refute it at one input. -/
def dertagPutsWrong : ChangeSpec := { name := "dertagPuts", fn := fun _ => fun
  | [d] => { results := [.lit (.bool false)], args := [d] }
  | _ => none }
def DertagPutsWrongFalsely : Prop := dertagPutsRow.holds Tryd.pinned (OpenSpec.ofChange dertagPutsWrong)

/-- 'passepartoutlaw09.DertagBack': WHATEVER THE INPUT: true; the input reads as it did. -/
def dertagBackSpec : ChangeSpec := { name := "dertagBack", fn := fun _ => fun
  | [d1, d2] => { results := [.lit (.bool true)], args := [d1, d2] }
  | _ => none }
def dertagBackRow : OpenClaim := { program := "ytbeknillegkidaadoor", sum := "f8cbc71812e4b5aa846d5bc115f7b4c353aa740e4b6538035657af4a06704d4d", func := "passepartout/passepartoutlaw09.DertagBack", spec := "dertagBack", named := ["passepartout/dertag.universal"], apart := false, laid := [("passepartout/dertag.universal", laid_passepartout_dertag_universal)] }
def DertagBackSaid : Prop := dertagBackRow.holds Tryd.pinned (OpenSpec.ofChange dertagBackSpec)

/-- ITS FALSE NEIGHBOUR: 'it returns false'. Refute it at one input. -/
def dertagBackWrong : ChangeSpec := { name := "dertagBack", fn := fun _ => fun
  | [d1, d2] => { results := [.lit (.bool false)], args := [d1, d2] }
  | _ => none }
def DertagBackWrongFalsely : Prop := dertagBackRow.holds Tryd.pinned (OpenSpec.ofChange dertagBackWrong)

/-- 'passepartoutlaw09.DertagOne': WHATEVER THE INPUT: true; the input reads as it did. -/
def dertagOneSpec : ChangeSpec := { name := "dertagOne", fn := fun _ => fun
  | [d] => { results := [.lit (.bool true)], args := [d] }
  | _ => none }
def dertagOneRow : OpenClaim := { program := "ytbeknillegkidaadoor", sum := "f8cbc71812e4b5aa846d5bc115f7b4c353aa740e4b6538035657af4a06704d4d", func := "passepartout/passepartoutlaw09.DertagOne", spec := "dertagOne", named := ["passepartout/dertag.universal"], apart := false, laid := [("passepartout/dertag.universal", laid_passepartout_dertag_universal)] }
def DertagOneSaid : Prop := dertagOneRow.holds Tryd.pinned (OpenSpec.ofChange dertagOneSpec)

/-- ITS FALSE NEIGHBOUR: 'it returns false'. Refute it at one input. -/
def dertagOneWrong : ChangeSpec := { name := "dertagOne", fn := fun _ => fun
  | [d] => { results := [.lit (.bool false)], args := [d] }
  | _ => none }
def DertagOneWrongFalsely : Prop := dertagOneRow.holds Tryd.pinned (OpenSpec.ofChange dertagOneWrong)

/-- 'passepartoutlaw09.DertagBytes': WHATEVER THE INPUT: true; the input reads as it did. -/
def dertagBytesSpec : ChangeSpec := { name := "dertagBytes", fn := fun _ => fun
  | [d] => { results := [.lit (.bool true)], args := [d] }
  | _ => none }
def dertagBytesRow : OpenClaim := { program := "ytbeknillegkidaadoor", sum := "f8cbc71812e4b5aa846d5bc115f7b4c353aa740e4b6538035657af4a06704d4d", func := "passepartout/passepartoutlaw09.DertagBytes", spec := "dertagBytes", named := ["passepartout/dertag.universal"], apart := false, laid := [("passepartout/dertag.universal", laid_passepartout_dertag_universal)] }
def DertagBytesSaid : Prop := dertagBytesRow.holds Tryd.pinned (OpenSpec.ofChange dertagBytesSpec)

/-- ITS FALSE NEIGHBOUR: 'it returns false'. Refute it at one input. -/
def dertagBytesWrong : ChangeSpec := { name := "dertagBytes", fn := fun _ => fun
  | [d] => { results := [.lit (.bool false)], args := [d] }
  | _ => none }
def DertagBytesWrongFalsely : Prop := dertagBytesRow.holds Tryd.pinned (OpenSpec.ofChange dertagBytesWrong)

/-- 'passepartoutlaw09.DertagLengths': WHATEVER THE INPUT: true; the input reads as it did. -/
def dertagLengthsSpec : ChangeSpec := { name := "dertagLengths", fn := fun _ => fun
  | [d1, d2] => { results := [.lit (.bool true)], args := [d1, d2] }
  | _ => none }
def dertagLengthsRow : OpenClaim := { program := "ytbeknillegkidaadoor", sum := "f8cbc71812e4b5aa846d5bc115f7b4c353aa740e4b6538035657af4a06704d4d", func := "passepartout/passepartoutlaw09.DertagLengths", spec := "dertagLengths", named := ["passepartout/dertag.universal"], apart := false, laid := [("passepartout/dertag.universal", laid_passepartout_dertag_universal)] }
def DertagLengthsSaid : Prop := dertagLengthsRow.holds Tryd.pinned (OpenSpec.ofChange dertagLengthsSpec)

/-- ITS FALSE NEIGHBOUR: 'it returns false'. Refute it at one input. -/
def dertagLengthsWrong : ChangeSpec := { name := "dertagLengths", fn := fun _ => fun
  | [d1, d2] => { results := [.lit (.bool false)], args := [d1, d2] }
  | _ => none }
def DertagLengthsWrongFalsely : Prop := dertagLengthsRow.holds Tryd.pinned (OpenSpec.ofChange dertagLengthsWrong)

/- THE SECOND FORM. 'bulk': how many values and letters a reading holds, each counted each time it is reached (what is shared counts as often as it is met; a slice's spare places count too). A statement '..UptoSaid' is the law's where the arguments, and the package variables that the reading takes, are together of bulk at most 1048576: NARROWER than '..Said'. Prove '..Said' where nothing that the law and all that it calls make is longer than what came in: it says more and counts as full. Else prove '..UptoSaid'. A law counts once. -/
mutual
def uptoBulk {H : Type} : DataW H → Nat
  | .lit (.string bytes) => bytes.length + 1
  | .lit _ => 1
  | .nil => 1
  | .ptr d => uptoBulk d + 1
  | .slice elems spare => uptoBulkAll elems + uptoBulkAll spare + 1
  | .agg parts => uptoBulkAll parts + 1
  | .iface _ d => uptoBulk d + 1
  | .map entries => uptoBulkEntries entries + 1
  | .held _ => 1
def uptoBulkAll {H : Type} : List (DataW H) → Nat
  | [] => 0
  | d :: r => uptoBulk d + uptoBulkAll r
def uptoBulkEntries {H : Type} : List (Lit × DataW H) → Nat
  | [] => 0
  | x :: r => uptoBulkEntry x + uptoBulkEntries r
def uptoBulkEntry {H : Type} : Lit × DataW H → Nat
  | (.string bytes, d) => bytes.length + uptoBulk d + 1
  | (_, d) => uptoBulk d + 1
 end
def uptoSmall : (H : Type) → List (DataW H) → Bool := fun _ ds => decide (uptoBulkAll ds ≤ 1048576)
def OpenSpec.upto (s : _root_.Go.ChangeSpec) : _root_.Go.OpenSpec := { _root_.Go.OpenSpec.ofChange s with cond := some uptoSmall }

/-- 'passepartoutlaw09.DertagReads', WHERE WHAT IT READS IS OF BULK AT MOST 1048576: true; the input reads as it did. -/
def dertagReadsUptoRow : OpenClaim := { program := "ytbeknillegkidaadoor", sum := "f8cbc71812e4b5aa846d5bc115f7b4c353aa740e4b6538035657af4a06704d4d", func := "passepartout/passepartoutlaw09.DertagReads", spec := "dertagReads", named := ["passepartout/dertag.universal"], apart := false, laid := [("passepartout/dertag.universal", laid_passepartout_dertag_universal)], narrowed := true }
def DertagReadsUptoSaid : Prop := dertagReadsUptoRow.holds Tryd.pinned (OpenSpec.upto dertagReadsSpec)

/-- 'passepartoutlaw09.DertagPuts', WHERE WHAT IT READS IS OF BULK AT MOST 1048576: true; the input reads as it did. -/
def dertagPutsUptoRow : OpenClaim := { program := "ytbeknillegkidaadoor", sum := "f8cbc71812e4b5aa846d5bc115f7b4c353aa740e4b6538035657af4a06704d4d", func := "passepartout/passepartoutlaw09.DertagPuts", spec := "dertagPuts", named := ["passepartout/dertag.universal"], apart := false, laid := [("passepartout/dertag.universal", laid_passepartout_dertag_universal)], narrowed := true }
def DertagPutsUptoSaid : Prop := dertagPutsUptoRow.holds Tryd.pinned (OpenSpec.upto dertagPutsSpec)

/-- 'passepartoutlaw09.DertagBack', WHERE WHAT IT READS IS OF BULK AT MOST 1048576: true; the input reads as it did. -/
def dertagBackUptoRow : OpenClaim := { program := "ytbeknillegkidaadoor", sum := "f8cbc71812e4b5aa846d5bc115f7b4c353aa740e4b6538035657af4a06704d4d", func := "passepartout/passepartoutlaw09.DertagBack", spec := "dertagBack", named := ["passepartout/dertag.universal"], apart := false, laid := [("passepartout/dertag.universal", laid_passepartout_dertag_universal)], narrowed := true }
def DertagBackUptoSaid : Prop := dertagBackUptoRow.holds Tryd.pinned (OpenSpec.upto dertagBackSpec)

/-- 'passepartoutlaw09.DertagOne', WHERE WHAT IT READS IS OF BULK AT MOST 1048576: true; the input reads as it did. -/
def dertagOneUptoRow : OpenClaim := { program := "ytbeknillegkidaadoor", sum := "f8cbc71812e4b5aa846d5bc115f7b4c353aa740e4b6538035657af4a06704d4d", func := "passepartout/passepartoutlaw09.DertagOne", spec := "dertagOne", named := ["passepartout/dertag.universal"], apart := false, laid := [("passepartout/dertag.universal", laid_passepartout_dertag_universal)], narrowed := true }
def DertagOneUptoSaid : Prop := dertagOneUptoRow.holds Tryd.pinned (OpenSpec.upto dertagOneSpec)

/-- 'passepartoutlaw09.DertagBytes', WHERE WHAT IT READS IS OF BULK AT MOST 1048576: true; the input reads as it did. -/
def dertagBytesUptoRow : OpenClaim := { program := "ytbeknillegkidaadoor", sum := "f8cbc71812e4b5aa846d5bc115f7b4c353aa740e4b6538035657af4a06704d4d", func := "passepartout/passepartoutlaw09.DertagBytes", spec := "dertagBytes", named := ["passepartout/dertag.universal"], apart := false, laid := [("passepartout/dertag.universal", laid_passepartout_dertag_universal)], narrowed := true }
def DertagBytesUptoSaid : Prop := dertagBytesUptoRow.holds Tryd.pinned (OpenSpec.upto dertagBytesSpec)

/-- 'passepartoutlaw09.DertagLengths', WHERE WHAT IT READS IS OF BULK AT MOST 1048576: true; the input reads as it did. -/
def dertagLengthsUptoRow : OpenClaim := { program := "ytbeknillegkidaadoor", sum := "f8cbc71812e4b5aa846d5bc115f7b4c353aa740e4b6538035657af4a06704d4d", func := "passepartout/passepartoutlaw09.DertagLengths", spec := "dertagLengths", named := ["passepartout/dertag.universal"], apart := false, laid := [("passepartout/dertag.universal", laid_passepartout_dertag_universal)], narrowed := true }
def DertagLengthsUptoSaid : Prop := dertagLengthsUptoRow.holds Tryd.pinned (OpenSpec.upto dertagLengthsSpec)

end Rows
end Go.Proofs.YtbeknillegkidaaDoor
