/-
  NARROWER THAN 'FOR EVERY INPUT', by the rows' own cells (each row's printed sentence says how): ReadSteps: loops · ReadFits: loops · ReadPrefix: loops · ReadBases: loops · ReadEmpty: loops.
  DERIVED. THE GIVEN ROWS OF THIS SEAT. 5 by the template 'for every input the law returns true; each argument reads behind the call as it read before'; 0 by the template 'total and deterministic' (their statements: YtdamjbngopfpkaaTotals.lean).
  GIVEN WITH THE SEED: the statements are not yours to turn. If you find one false, say at which input.
  Laid BY PROGRAM, IN A SANDBOX (cutbox-rows.mjs): the forced cells as the released guide's own fill.sh prints them over the translation 858d0a6190e7b5bb… (all of the seat's roots in one cut). By AI agents, Wed Nov 11 2026. No macro, syntax, notation, axiom, sorry.
-/
import Derived.Test.YtdamjbngopfpkaaChecked
import GoSem.Claim
import GoSem.ClaimJoined
import GoSem.ClaimMapViews
import Derived.JoinedTies
import Derived.KernelRfl
namespace Go.Proofs.Ytdamjbngopfpkaa
/- THE CELL 'sum', in the pinned program and in every row, IS THE sha256 OF THE DUMP (.gsa) THAT YtdamjbngopfpkaaProg.lean LOADS. Nothing in Lean hashes anything: it is a label: what it is worth is what the hold of that sum in a sandbox is worth. -/
noncomputable def Try.pinned : Pinned := { name := "ytdamjbngopfpkaa", sum := "858d0a6190e7b5bb735408220b83a1fe0fb29ece6dc4fadb52d49c892851e661", checked := Try.checked }
namespace Rows
def none {H : Type} : Left H := { results := [], args := [] }

/-- 'passepartoutlaw06.ReadSteps': WHATEVER THE INPUT: true; the input reads as it did. -/
def readStepsSpec : ChangeSpec := { name := "readSteps", fn := fun _ => fun
  | [d1, d2] => { results := [.lit (.bool true)], args := [d1, d2] }
  | _ => none }
def readStepsRow : OpenClaim := { program := "ytdamjbngopfpkaa", sum := "858d0a6190e7b5bb735408220b83a1fe0fb29ece6dc4fadb52d49c892851e661", func := "passepartout/passepartoutlaw06.ReadSteps", spec := "readSteps", inPlace := ["sync/atomic.LoadInt64", "sync/atomic.CompareAndSwapInt64"], unfollowed := true, recurses := true, loops := true, apart := false }
def ReadStepsSaid : Prop := readStepsRow.holds Try.pinned (OpenSpec.ofChange readStepsSpec)

/-- ITS FALSE NEIGHBOUR: 'it returns false'. Refute it at one input. -/
def readStepsWrong : ChangeSpec := { name := "readSteps", fn := fun _ => fun
  | [d1, d2] => { results := [.lit (.bool false)], args := [d1, d2] }
  | _ => none }
def ReadStepsWrongFalsely : Prop := readStepsRow.holds Try.pinned (OpenSpec.ofChange readStepsWrong)

/-- 'passepartoutlaw06.ReadFits': WHATEVER THE INPUT: true; the input reads as it did. -/
def readFitsSpec : ChangeSpec := { name := "readFits", fn := fun _ => fun
  | [d1, d2, d3] => { results := [.lit (.bool true)], args := [d1, d2, d3] }
  | _ => none }
def readFitsRow : OpenClaim := { program := "ytdamjbngopfpkaa", sum := "858d0a6190e7b5bb735408220b83a1fe0fb29ece6dc4fadb52d49c892851e661", func := "passepartout/passepartoutlaw06.ReadFits", spec := "readFits", inPlace := ["sync/atomic.LoadInt64", "sync/atomic.CompareAndSwapInt64"], unfollowed := true, recurses := true, loops := true, apart := false }
def ReadFitsSaid : Prop := readFitsRow.holds Try.pinned (OpenSpec.ofChange readFitsSpec)

/-- ITS FALSE NEIGHBOUR: 'it returns false'. Refute it at one input. -/
def readFitsWrong : ChangeSpec := { name := "readFits", fn := fun _ => fun
  | [d1, d2, d3] => { results := [.lit (.bool false)], args := [d1, d2, d3] }
  | _ => none }
def ReadFitsWrongFalsely : Prop := readFitsRow.holds Try.pinned (OpenSpec.ofChange readFitsWrong)

/-- 'passepartoutlaw06.ReadPrefix': WHATEVER THE INPUT: true; the input reads as it did. -/
def readPrefixSpec : ChangeSpec := { name := "readPrefix", fn := fun _ => fun
  | [d1, d2, d3] => { results := [.lit (.bool true)], args := [d1, d2, d3] }
  | _ => none }
def readPrefixRow : OpenClaim := { program := "ytdamjbngopfpkaa", sum := "858d0a6190e7b5bb735408220b83a1fe0fb29ece6dc4fadb52d49c892851e661", func := "passepartout/passepartoutlaw06.ReadPrefix", spec := "readPrefix", inPlace := ["sync/atomic.LoadInt64", "sync/atomic.CompareAndSwapInt64"], unfollowed := true, recurses := true, loops := true, apart := false }
def ReadPrefixSaid : Prop := readPrefixRow.holds Try.pinned (OpenSpec.ofChange readPrefixSpec)

/-- ITS FALSE NEIGHBOUR: 'it returns false'. Refute it at one input. -/
def readPrefixWrong : ChangeSpec := { name := "readPrefix", fn := fun _ => fun
  | [d1, d2, d3] => { results := [.lit (.bool false)], args := [d1, d2, d3] }
  | _ => none }
def ReadPrefixWrongFalsely : Prop := readPrefixRow.holds Try.pinned (OpenSpec.ofChange readPrefixWrong)

/-- 'passepartoutlaw06.ReadBases': WHATEVER THE INPUT: true; the input reads as it did. -/
def readBasesSpec : ChangeSpec := { name := "readBases", fn := fun _ => fun
  | [d1, d2, d3] => { results := [.lit (.bool true)], args := [d1, d2, d3] }
  | _ => none }
def readBasesRow : OpenClaim := { program := "ytdamjbngopfpkaa", sum := "858d0a6190e7b5bb735408220b83a1fe0fb29ece6dc4fadb52d49c892851e661", func := "passepartout/passepartoutlaw06.ReadBases", spec := "readBases", inPlace := ["sync/atomic.LoadInt64", "sync/atomic.CompareAndSwapInt64"], unfollowed := true, recurses := true, loops := true, apart := false }
def ReadBasesSaid : Prop := readBasesRow.holds Try.pinned (OpenSpec.ofChange readBasesSpec)

/-- ITS FALSE NEIGHBOUR: 'it returns false'. Refute it at one input. -/
def readBasesWrong : ChangeSpec := { name := "readBases", fn := fun _ => fun
  | [d1, d2, d3] => { results := [.lit (.bool false)], args := [d1, d2, d3] }
  | _ => none }
def ReadBasesWrongFalsely : Prop := readBasesRow.holds Try.pinned (OpenSpec.ofChange readBasesWrong)

/-- 'passepartoutlaw06.ReadEmpty': WHATEVER THE INPUT: true; the input reads as it did. -/
def readEmptySpec : ChangeSpec := { name := "readEmpty", fn := fun _ => fun
  | [d1, d2] => { results := [.lit (.bool true)], args := [d1, d2] }
  | _ => none }
def readEmptyRow : OpenClaim := { program := "ytdamjbngopfpkaa", sum := "858d0a6190e7b5bb735408220b83a1fe0fb29ece6dc4fadb52d49c892851e661", func := "passepartout/passepartoutlaw06.ReadEmpty", spec := "readEmpty", inPlace := ["sync/atomic.LoadInt64", "sync/atomic.CompareAndSwapInt64"], unfollowed := true, recurses := true, loops := true, apart := false }
def ReadEmptySaid : Prop := readEmptyRow.holds Try.pinned (OpenSpec.ofChange readEmptySpec)

/-- ITS FALSE NEIGHBOUR: 'it returns false'. Refute it at one input. -/
def readEmptyWrong : ChangeSpec := { name := "readEmpty", fn := fun _ => fun
  | [d1, d2] => { results := [.lit (.bool false)], args := [d1, d2] }
  | _ => none }
def ReadEmptyWrongFalsely : Prop := readEmptyRow.holds Try.pinned (OpenSpec.ofChange readEmptyWrong)

/- THE SECOND FORM. 'bulk': how many values and letters a reading holds, each counted each time it is reached (what is shared counts as often as it is met; a slice's spare places count too). A statement '..UptoSaid' is the law's where the arguments, and the package variables that the reading takes, are together of bulk at most 1048576: NARROWER than '..Said'. Prove '..Said' where nothing that the law and all that it calls make is longer than what came in: it says more and counts as full. Else prove '..UptoSaid'. A law counts once. -/
mutual
def uptoBulk {H : Type} : DataW H → Nat
  | .lit (.string bytes) => bytes.length + 1
  | .lit _ => 1
  | .nil => 1
  | .ptr d => uptoBulk d + 1
  | .slice elems spare => uptoBulkAll elems + uptoBulkAll spare + 1
  | .agg parts => uptoBulkAll parts + 1
  | .iface _ d => uptoBulk d + 1
  | .map entries => uptoBulkEntries entries + 1
  | .held _ => 1
def uptoBulkAll {H : Type} : List (DataW H) → Nat
  | [] => 0
  | d :: r => uptoBulk d + uptoBulkAll r
def uptoBulkEntries {H : Type} : List (Lit × DataW H) → Nat
  | [] => 0
  | x :: r => uptoBulkEntry x + uptoBulkEntries r
def uptoBulkEntry {H : Type} : Lit × DataW H → Nat
  | (.string bytes, d) => bytes.length + uptoBulk d + 1
  | (_, d) => uptoBulk d + 1
 end
def uptoSmall : (H : Type) → List (DataW H) → Bool := fun _ ds => decide (uptoBulkAll ds ≤ 1048576)
def OpenSpec.upto (s : _root_.Go.ChangeSpec) : _root_.Go.OpenSpec := { _root_.Go.OpenSpec.ofChange s with cond := some uptoSmall }

/-- 'passepartoutlaw06.ReadSteps', WHERE WHAT IT READS IS OF BULK AT MOST 1048576: true; the input reads as it did. -/
def readStepsUptoRow : OpenClaim := { program := "ytdamjbngopfpkaa", sum := "858d0a6190e7b5bb735408220b83a1fe0fb29ece6dc4fadb52d49c892851e661", func := "passepartout/passepartoutlaw06.ReadSteps", spec := "readSteps", inPlace := ["sync/atomic.LoadInt64", "sync/atomic.CompareAndSwapInt64"], unfollowed := true, recurses := true, loops := true, apart := false, narrowed := true }
def ReadStepsUptoSaid : Prop := readStepsUptoRow.holds Try.pinned (OpenSpec.upto readStepsSpec)

/-- 'passepartoutlaw06.ReadFits', WHERE WHAT IT READS IS OF BULK AT MOST 1048576: true; the input reads as it did. -/
def readFitsUptoRow : OpenClaim := { program := "ytdamjbngopfpkaa", sum := "858d0a6190e7b5bb735408220b83a1fe0fb29ece6dc4fadb52d49c892851e661", func := "passepartout/passepartoutlaw06.ReadFits", spec := "readFits", inPlace := ["sync/atomic.LoadInt64", "sync/atomic.CompareAndSwapInt64"], unfollowed := true, recurses := true, loops := true, apart := false, narrowed := true }
def ReadFitsUptoSaid : Prop := readFitsUptoRow.holds Try.pinned (OpenSpec.upto readFitsSpec)

/-- 'passepartoutlaw06.ReadPrefix', WHERE WHAT IT READS IS OF BULK AT MOST 1048576: true; the input reads as it did. -/
def readPrefixUptoRow : OpenClaim := { program := "ytdamjbngopfpkaa", sum := "858d0a6190e7b5bb735408220b83a1fe0fb29ece6dc4fadb52d49c892851e661", func := "passepartout/passepartoutlaw06.ReadPrefix", spec := "readPrefix", inPlace := ["sync/atomic.LoadInt64", "sync/atomic.CompareAndSwapInt64"], unfollowed := true, recurses := true, loops := true, apart := false, narrowed := true }
def ReadPrefixUptoSaid : Prop := readPrefixUptoRow.holds Try.pinned (OpenSpec.upto readPrefixSpec)

/-- 'passepartoutlaw06.ReadBases', WHERE WHAT IT READS IS OF BULK AT MOST 1048576: true; the input reads as it did. -/
def readBasesUptoRow : OpenClaim := { program := "ytdamjbngopfpkaa", sum := "858d0a6190e7b5bb735408220b83a1fe0fb29ece6dc4fadb52d49c892851e661", func := "passepartout/passepartoutlaw06.ReadBases", spec := "readBases", inPlace := ["sync/atomic.LoadInt64", "sync/atomic.CompareAndSwapInt64"], unfollowed := true, recurses := true, loops := true, apart := false, narrowed := true }
def ReadBasesUptoSaid : Prop := readBasesUptoRow.holds Try.pinned (OpenSpec.upto readBasesSpec)

/-- 'passepartoutlaw06.ReadEmpty', WHERE WHAT IT READS IS OF BULK AT MOST 1048576: true; the input reads as it did. -/
def readEmptyUptoRow : OpenClaim := { program := "ytdamjbngopfpkaa", sum := "858d0a6190e7b5bb735408220b83a1fe0fb29ece6dc4fadb52d49c892851e661", func := "passepartout/passepartoutlaw06.ReadEmpty", spec := "readEmpty", inPlace := ["sync/atomic.LoadInt64", "sync/atomic.CompareAndSwapInt64"], unfollowed := true, recurses := true, loops := true, apart := false, narrowed := true }
def ReadEmptyUptoSaid : Prop := readEmptyUptoRow.holds Try.pinned (OpenSpec.upto readEmptySpec)

end Rows
end Go.Proofs.Ytdamjbngopfpkaa
