/-
  NARROWER THAN 'FOR EVERY INPUT', by the rows' own cells (each row's printed sentence says how): DerReads: laid · DerWrites: loops, laid · DerSames: loops, laid · DerBack: loops, laid · DerOne: laid · DerDeep: laid · DerJoins: loops, laid.
  DERIVED. THE GIVEN ROWS OF THIS SEAT. 7 by the template 'for every input the law returns true; each argument reads behind the call as it read before'; 0 by the template 'total and deterministic' (their statements: YtnjnghbonmdbdaaDoorTotals.lean).
  GIVEN WITH THE SEED: the statements are not yours to turn. If you find one false, say at which input.
  Laid BY PROGRAM, IN A SANDBOX (cutbox-rows.mjs): the forced cells as the released guide's own fill.sh prints them over the translation 974fb3caf4529be3… (all of the seat's roots in one cut). By AI agents, Wed Nov 11 2026. No macro, syntax, notation, axiom, sorry.
-/
import Derived.Test.YtnjnghbonmdbdaaDoorChecked
import GoSem.Claim
import GoSem.ClaimJoined
import GoSem.ClaimMapViews
import Derived.JoinedTies
import Derived.KernelRfl
namespace Go.Proofs.YtnjnghbonmdbdaaDoor
/- THE CELL 'sum', in the pinned program and in every row, IS THE sha256 OF THE DUMP (.gsa) THAT YtnjnghbonmdbdaaDoorProg.lean LOADS. Nothing in Lean hashes anything: it is a label: what it is worth is what the hold of that sum in a sandbox is worth. -/
noncomputable def Tryd.pinned : Pinned := { name := "ytnjnghbonmdbdaadoor", sum := "974fb3caf4529be3d196527f179e36c4e2a175f74e676a8b015986f2cd17e4c2", checked := Tryd.checked }
namespace Rows
def none {H : Type} : Left H := { results := [], args := [] }

/- WHAT THE LISTED PACKAGE-LEVEL VARIABLES READ AS WHEN THE CALL BEGINS. Each datum BY PROGRAM (the guide's laid-datum.mjs) off the statement by which the dump's own 'gosem.cut.vars' lays the variable. In a bare row this is a premise. The card (YtnjnghbonmdbdaaDoorCards.lean) ties it to the program's text. -/
def laid_passepartout_dertag_universal {H : Type} : DataW H := .agg [.agg [.lit (.int .i64 1), .lit (.bool false)], .agg [.lit (.int .i64 2), .lit (.bool false)], .agg [.lit (.int .i64 3), .lit (.bool false)], .agg [.lit (.int .i64 4), .lit (.bool false)], .agg [.lit (.int .i64 5), .lit (.bool false)], .agg [.lit (.int .i64 6), .lit (.bool false)], .agg [.lit (.int .i64 10), .lit (.bool false)], .agg [.lit (.int .i64 12), .lit (.bool false)], .agg [.lit (.int .i64 16), .lit (.bool true)], .agg [.lit (.int .i64 17), .lit (.bool true)], .agg [.lit (.int .i64 18), .lit (.bool false)], .agg [.lit (.int .i64 19), .lit (.bool false)], .agg [.lit (.int .i64 20), .lit (.bool false)], .agg [.lit (.int .i64 22), .lit (.bool false)], .agg [.lit (.int .i64 23), .lit (.bool false)], .agg [.lit (.int .i64 24), .lit (.bool false)], .agg [.lit (.int .i64 26), .lit (.bool false)], .agg [.lit (.int .i64 28), .lit (.bool false)], .agg [.lit (.int .i64 30), .lit (.bool false)]]

/-- 'passepartoutlaw11.DerReads': WHATEVER THE INPUT: true; the input reads as it did. -/
def derReadsSpec : ChangeSpec := { name := "derReads", fn := fun _ => fun
  | [d1, d2] => { results := [.lit (.bool true)], args := [d1, d2] }
  | _ => none }
def derReadsRow : OpenClaim := { program := "ytnjnghbonmdbdaadoor", sum := "974fb3caf4529be3d196527f179e36c4e2a175f74e676a8b015986f2cd17e4c2", func := "passepartout/passepartoutlaw11.DerReads", spec := "derReads", unfollowed := true, recurses := true, named := ["passepartout/dertag.universal"], plainKeys := false, apart := false, laid := [("passepartout/dertag.universal", laid_passepartout_dertag_universal)] }
def DerReadsSaid : Prop := derReadsRow.holds Tryd.pinned (OpenSpec.ofChange derReadsSpec)

/-- ITS FALSE NEIGHBOUR: 'it returns false'. Refute it at one input. -/
def derReadsWrong : ChangeSpec := { name := "derReads", fn := fun _ => fun
  | [d1, d2] => { results := [.lit (.bool false)], args := [d1, d2] }
  | _ => none }
def DerReadsWrongFalsely : Prop := derReadsRow.holds Tryd.pinned (OpenSpec.ofChange derReadsWrong)

/-- 'passepartoutlaw11.DerWrites': WHATEVER THE INPUT: true; the input reads as it did. -/
def derWritesSpec : ChangeSpec := { name := "derWrites", fn := fun _ => fun
  | [d] => { results := [.lit (.bool true)], args := [d] }
  | _ => none }
def derWritesRow : OpenClaim := { program := "ytnjnghbonmdbdaadoor", sum := "974fb3caf4529be3d196527f179e36c4e2a175f74e676a8b015986f2cd17e4c2", func := "passepartout/passepartoutlaw11.DerWrites", spec := "derWrites", unfollowed := true, recurses := true, named := ["passepartout/dertag.universal"], loops := true, plainKeys := false, apart := false, laid := [("passepartout/dertag.universal", laid_passepartout_dertag_universal)] }
def DerWritesSaid : Prop := derWritesRow.holds Tryd.pinned (OpenSpec.ofChange derWritesSpec)

/-- ITS FALSE NEIGHBOUR: 'it returns false'. Refute it at one input. -/
def derWritesWrong : ChangeSpec := { name := "derWrites", fn := fun _ => fun
  | [d] => { results := [.lit (.bool false)], args := [d] }
  | _ => none }
def DerWritesWrongFalsely : Prop := derWritesRow.holds Tryd.pinned (OpenSpec.ofChange derWritesWrong)

/-- 'passepartoutlaw11.DerSames': WHATEVER THE INPUT: true; the input reads as it did. -/
def derSamesSpec : ChangeSpec := { name := "derSames", fn := fun _ => fun
  | [d1, d2] => { results := [.lit (.bool true)], args := [d1, d2] }
  | _ => none }
def derSamesRow : OpenClaim := { program := "ytnjnghbonmdbdaadoor", sum := "974fb3caf4529be3d196527f179e36c4e2a175f74e676a8b015986f2cd17e4c2", func := "passepartout/passepartoutlaw11.DerSames", spec := "derSames", unfollowed := true, recurses := true, named := ["passepartout/dertag.universal"], loops := true, plainKeys := false, apart := false, laid := [("passepartout/dertag.universal", laid_passepartout_dertag_universal)] }
def DerSamesSaid : Prop := derSamesRow.holds Tryd.pinned (OpenSpec.ofChange derSamesSpec)

/-- ITS FALSE NEIGHBOUR: 'it returns false'. Refute it at one input. -/
def derSamesWrong : ChangeSpec := { name := "derSames", fn := fun _ => fun
  | [d1, d2] => { results := [.lit (.bool false)], args := [d1, d2] }
  | _ => none }
def DerSamesWrongFalsely : Prop := derSamesRow.holds Tryd.pinned (OpenSpec.ofChange derSamesWrong)

/-- 'passepartoutlaw11.DerBack': WHATEVER THE INPUT: true; the input reads as it did. -/
def derBackSpec : ChangeSpec := { name := "derBack", fn := fun _ => fun
  | [d] => { results := [.lit (.bool true)], args := [d] }
  | _ => none }
def derBackRow : OpenClaim := { program := "ytnjnghbonmdbdaadoor", sum := "974fb3caf4529be3d196527f179e36c4e2a175f74e676a8b015986f2cd17e4c2", func := "passepartout/passepartoutlaw11.DerBack", spec := "derBack", unfollowed := true, recurses := true, named := ["passepartout/dertag.universal"], loops := true, plainKeys := false, apart := false, laid := [("passepartout/dertag.universal", laid_passepartout_dertag_universal)] }
def DerBackSaid : Prop := derBackRow.holds Tryd.pinned (OpenSpec.ofChange derBackSpec)

/-- ITS FALSE NEIGHBOUR: 'it returns false'. Refute it at one input. -/
def derBackWrong : ChangeSpec := { name := "derBack", fn := fun _ => fun
  | [d] => { results := [.lit (.bool false)], args := [d] }
  | _ => none }
def DerBackWrongFalsely : Prop := derBackRow.holds Tryd.pinned (OpenSpec.ofChange derBackWrong)

/-- 'passepartoutlaw11.DerOne': WHATEVER THE INPUT: true; the input reads as it did. -/
def derOneSpec : ChangeSpec := { name := "derOne", fn := fun _ => fun
  | [d1, d2] => { results := [.lit (.bool true)], args := [d1, d2] }
  | _ => none }
def derOneRow : OpenClaim := { program := "ytnjnghbonmdbdaadoor", sum := "974fb3caf4529be3d196527f179e36c4e2a175f74e676a8b015986f2cd17e4c2", func := "passepartout/passepartoutlaw11.DerOne", spec := "derOne", unfollowed := true, recurses := true, named := ["passepartout/dertag.universal"], plainKeys := false, apart := false, laid := [("passepartout/dertag.universal", laid_passepartout_dertag_universal)] }
def DerOneSaid : Prop := derOneRow.holds Tryd.pinned (OpenSpec.ofChange derOneSpec)

/-- ITS FALSE NEIGHBOUR: 'it returns false'. Refute it at one input. -/
def derOneWrong : ChangeSpec := { name := "derOne", fn := fun _ => fun
  | [d1, d2] => { results := [.lit (.bool false)], args := [d1, d2] }
  | _ => none }
def DerOneWrongFalsely : Prop := derOneRow.holds Tryd.pinned (OpenSpec.ofChange derOneWrong)

/-- 'passepartoutlaw11.DerDeep': WHATEVER THE INPUT: true; the input reads as it did. -/
def derDeepSpec : ChangeSpec := { name := "derDeep", fn := fun _ => fun
  | [d1, d2] => { results := [.lit (.bool true)], args := [d1, d2] }
  | _ => none }
def derDeepRow : OpenClaim := { program := "ytnjnghbonmdbdaadoor", sum := "974fb3caf4529be3d196527f179e36c4e2a175f74e676a8b015986f2cd17e4c2", func := "passepartout/passepartoutlaw11.DerDeep", spec := "derDeep", unfollowed := true, recurses := true, named := ["passepartout/dertag.universal"], plainKeys := false, apart := false, laid := [("passepartout/dertag.universal", laid_passepartout_dertag_universal)] }
def DerDeepSaid : Prop := derDeepRow.holds Tryd.pinned (OpenSpec.ofChange derDeepSpec)

/-- ITS FALSE NEIGHBOUR: 'it returns false'. Refute it at one input. -/
def derDeepWrong : ChangeSpec := { name := "derDeep", fn := fun _ => fun
  | [d1, d2] => { results := [.lit (.bool false)], args := [d1, d2] }
  | _ => none }
def DerDeepWrongFalsely : Prop := derDeepRow.holds Tryd.pinned (OpenSpec.ofChange derDeepWrong)

/-- 'passepartoutlaw11.DerJoins': WHATEVER THE INPUT: true; the input reads as it did. -/
def derJoinsSpec : ChangeSpec := { name := "derJoins", fn := fun _ => fun
  | [d1, d2, d3] => { results := [.lit (.bool true)], args := [d1, d2, d3] }
  | _ => none }
def derJoinsRow : OpenClaim := { program := "ytnjnghbonmdbdaadoor", sum := "974fb3caf4529be3d196527f179e36c4e2a175f74e676a8b015986f2cd17e4c2", func := "passepartout/passepartoutlaw11.DerJoins", spec := "derJoins", unfollowed := true, recurses := true, named := ["passepartout/dertag.universal"], loops := true, plainKeys := false, apart := false, laid := [("passepartout/dertag.universal", laid_passepartout_dertag_universal)] }
def DerJoinsSaid : Prop := derJoinsRow.holds Tryd.pinned (OpenSpec.ofChange derJoinsSpec)

/-- ITS FALSE NEIGHBOUR: 'it returns false'. Refute it at one input. -/
def derJoinsWrong : ChangeSpec := { name := "derJoins", fn := fun _ => fun
  | [d1, d2, d3] => { results := [.lit (.bool false)], args := [d1, d2, d3] }
  | _ => none }
def DerJoinsWrongFalsely : Prop := derJoinsRow.holds Tryd.pinned (OpenSpec.ofChange derJoinsWrong)

/- THE SECOND FORM. 'bulk': how many values and letters a reading holds, each counted each time it is reached (what is shared counts as often as it is met; a slice's spare places count too). A statement '..UptoSaid' is the law's where the arguments, and the package variables that the reading takes, are together of bulk at most 1048576: NARROWER than '..Said'. Prove '..Said' where nothing that the law and all that it calls make is longer than what came in: it says more and counts as full. Else prove '..UptoSaid'. A law counts once. -/
mutual
def uptoBulk {H : Type} : DataW H → Nat
  | .lit (.string bytes) => bytes.length + 1
  | .lit _ => 1
  | .nil => 1
  | .ptr d => uptoBulk d + 1
  | .slice elems spare => uptoBulkAll elems + uptoBulkAll spare + 1
  | .agg parts => uptoBulkAll parts + 1
  | .iface _ d => uptoBulk d + 1
  | .map entries => uptoBulkEntries entries + 1
  | .held _ => 1
def uptoBulkAll {H : Type} : List (DataW H) → Nat
  | [] => 0
  | d :: r => uptoBulk d + uptoBulkAll r
def uptoBulkEntries {H : Type} : List (Lit × DataW H) → Nat
  | [] => 0
  | x :: r => uptoBulkEntry x + uptoBulkEntries r
def uptoBulkEntry {H : Type} : Lit × DataW H → Nat
  | (.string bytes, d) => bytes.length + uptoBulk d + 1
  | (_, d) => uptoBulk d + 1
 end
def uptoSmall : (H : Type) → List (DataW H) → Bool := fun _ ds => decide (uptoBulkAll ds ≤ 1048576)
def OpenSpec.upto (s : _root_.Go.ChangeSpec) : _root_.Go.OpenSpec := { _root_.Go.OpenSpec.ofChange s with cond := some uptoSmall }

/-- 'passepartoutlaw11.DerReads', WHERE WHAT IT READS IS OF BULK AT MOST 1048576: true; the input reads as it did. -/
def derReadsUptoRow : OpenClaim := { program := "ytnjnghbonmdbdaadoor", sum := "974fb3caf4529be3d196527f179e36c4e2a175f74e676a8b015986f2cd17e4c2", func := "passepartout/passepartoutlaw11.DerReads", spec := "derReads", unfollowed := true, recurses := true, named := ["passepartout/dertag.universal"], plainKeys := false, apart := false, laid := [("passepartout/dertag.universal", laid_passepartout_dertag_universal)], narrowed := true }
def DerReadsUptoSaid : Prop := derReadsUptoRow.holds Tryd.pinned (OpenSpec.upto derReadsSpec)

/-- 'passepartoutlaw11.DerWrites', WHERE WHAT IT READS IS OF BULK AT MOST 1048576: true; the input reads as it did. -/
def derWritesUptoRow : OpenClaim := { program := "ytnjnghbonmdbdaadoor", sum := "974fb3caf4529be3d196527f179e36c4e2a175f74e676a8b015986f2cd17e4c2", func := "passepartout/passepartoutlaw11.DerWrites", spec := "derWrites", unfollowed := true, recurses := true, named := ["passepartout/dertag.universal"], loops := true, plainKeys := false, apart := false, laid := [("passepartout/dertag.universal", laid_passepartout_dertag_universal)], narrowed := true }
def DerWritesUptoSaid : Prop := derWritesUptoRow.holds Tryd.pinned (OpenSpec.upto derWritesSpec)

/-- 'passepartoutlaw11.DerSames', WHERE WHAT IT READS IS OF BULK AT MOST 1048576: true; the input reads as it did. -/
def derSamesUptoRow : OpenClaim := { program := "ytnjnghbonmdbdaadoor", sum := "974fb3caf4529be3d196527f179e36c4e2a175f74e676a8b015986f2cd17e4c2", func := "passepartout/passepartoutlaw11.DerSames", spec := "derSames", unfollowed := true, recurses := true, named := ["passepartout/dertag.universal"], loops := true, plainKeys := false, apart := false, laid := [("passepartout/dertag.universal", laid_passepartout_dertag_universal)], narrowed := true }
def DerSamesUptoSaid : Prop := derSamesUptoRow.holds Tryd.pinned (OpenSpec.upto derSamesSpec)

/-- 'passepartoutlaw11.DerBack', WHERE WHAT IT READS IS OF BULK AT MOST 1048576: true; the input reads as it did. -/
def derBackUptoRow : OpenClaim := { program := "ytnjnghbonmdbdaadoor", sum := "974fb3caf4529be3d196527f179e36c4e2a175f74e676a8b015986f2cd17e4c2", func := "passepartout/passepartoutlaw11.DerBack", spec := "derBack", unfollowed := true, recurses := true, named := ["passepartout/dertag.universal"], loops := true, plainKeys := false, apart := false, laid := [("passepartout/dertag.universal", laid_passepartout_dertag_universal)], narrowed := true }
def DerBackUptoSaid : Prop := derBackUptoRow.holds Tryd.pinned (OpenSpec.upto derBackSpec)

/-- 'passepartoutlaw11.DerOne', WHERE WHAT IT READS IS OF BULK AT MOST 1048576: true; the input reads as it did. -/
def derOneUptoRow : OpenClaim := { program := "ytnjnghbonmdbdaadoor", sum := "974fb3caf4529be3d196527f179e36c4e2a175f74e676a8b015986f2cd17e4c2", func := "passepartout/passepartoutlaw11.DerOne", spec := "derOne", unfollowed := true, recurses := true, named := ["passepartout/dertag.universal"], plainKeys := false, apart := false, laid := [("passepartout/dertag.universal", laid_passepartout_dertag_universal)], narrowed := true }
def DerOneUptoSaid : Prop := derOneUptoRow.holds Tryd.pinned (OpenSpec.upto derOneSpec)

/-- 'passepartoutlaw11.DerDeep', WHERE WHAT IT READS IS OF BULK AT MOST 1048576: true; the input reads as it did. -/
def derDeepUptoRow : OpenClaim := { program := "ytnjnghbonmdbdaadoor", sum := "974fb3caf4529be3d196527f179e36c4e2a175f74e676a8b015986f2cd17e4c2", func := "passepartout/passepartoutlaw11.DerDeep", spec := "derDeep", unfollowed := true, recurses := true, named := ["passepartout/dertag.universal"], plainKeys := false, apart := false, laid := [("passepartout/dertag.universal", laid_passepartout_dertag_universal)], narrowed := true }
def DerDeepUptoSaid : Prop := derDeepUptoRow.holds Tryd.pinned (OpenSpec.upto derDeepSpec)

/-- 'passepartoutlaw11.DerJoins', WHERE WHAT IT READS IS OF BULK AT MOST 1048576: true; the input reads as it did. -/
def derJoinsUptoRow : OpenClaim := { program := "ytnjnghbonmdbdaadoor", sum := "974fb3caf4529be3d196527f179e36c4e2a175f74e676a8b015986f2cd17e4c2", func := "passepartout/passepartoutlaw11.DerJoins", spec := "derJoins", unfollowed := true, recurses := true, named := ["passepartout/dertag.universal"], loops := true, plainKeys := false, apart := false, laid := [("passepartout/dertag.universal", laid_passepartout_dertag_universal)], narrowed := true }
def DerJoinsUptoSaid : Prop := derJoinsUptoRow.holds Tryd.pinned (OpenSpec.upto derJoinsSpec)

end Rows
end Go.Proofs.YtnjnghbonmdbdaaDoor
