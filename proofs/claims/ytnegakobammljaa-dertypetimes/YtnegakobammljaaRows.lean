/-
  No cell of these rows narrows 'for every input' (looked for: loops, veiled, ifaces, maps, wideKeys, modest, calm, conditions, laid).
  DERIVED. THE GIVEN ROWS OF THIS SEAT. 6 by the template 'for every input the law returns true; each argument reads behind the call as it read before'; 0 by the template 'total and deterministic' (their statements: YtnegakobammljaaTotals.lean).
  GIVEN WITH THE SEED: the statements are not yours to turn. If you find one false, say at which input.
  Laid BY PROGRAM, IN A SANDBOX (cutbox-rows.mjs): the forced cells as the released guide's own fill.sh prints them over the translation 69111421c3dd80ca… (all of the seat's roots in one cut). By AI agents, Wed Nov 11 2026. No macro, syntax, notation, axiom, sorry.
-/
import Derived.Test.YtnegakobammljaaChecked
import GoSem.Claim
import GoSem.ClaimJoined
import GoSem.ClaimMapViews
import Derived.JoinedTies
import Derived.KernelRfl
namespace Go.Proofs.Ytnegakobammljaa
/- THE CELL 'sum', in the pinned program and in every row, IS THE sha256 OF THE DUMP (.gsa) THAT YtnegakobammljaaProg.lean LOADS. Nothing in Lean hashes anything: it is a label: what it is worth is what the hold of that sum in a sandbox is worth. -/
noncomputable def Try.pinned : Pinned := { name := "ytnegakobammljaa", sum := "69111421c3dd80ca03d07bf99a4dda64aefc8454e868e142c2466fe7c45fd39b", checked := Try.checked }
namespace Rows
def none {H : Type} : Left H := { results := [], args := [] }

/-- 'passepartoutlaw10.DertypeChecks': WHATEVER THE INPUT: true; the input reads as it did. -/
def dertypeChecksSpec : ChangeSpec := { name := "dertypeChecks", fn := fun _ => fun
  | [d1, d2] => { results := [.lit (.bool true)], args := [d1, d2] }
  | _ => none }
def dertypeChecksRow : OpenClaim := { program := "ytnegakobammljaa", sum := "69111421c3dd80ca03d07bf99a4dda64aefc8454e868e142c2466fe7c45fd39b", func := "passepartout/passepartoutlaw10.DertypeChecks", spec := "dertypeChecks", unfollowed := true, recurses := true, apart := false }
def DertypeChecksSaid : Prop := dertypeChecksRow.holds Try.pinned (OpenSpec.ofChange dertypeChecksSpec)

/-- ITS FALSE NEIGHBOUR: 'it returns false'. Refute it at one input. -/
def dertypeChecksWrong : ChangeSpec := { name := "dertypeChecks", fn := fun _ => fun
  | [d1, d2] => { results := [.lit (.bool false)], args := [d1, d2] }
  | _ => none }
def DertypeChecksWrongFalsely : Prop := dertypeChecksRow.holds Try.pinned (OpenSpec.ofChange dertypeChecksWrong)

/-- 'passepartoutlaw10.DertypeValues': WHATEVER THE INPUT: true; the input reads as it did. -/
def dertypeValuesSpec : ChangeSpec := { name := "dertypeValues", fn := fun _ => fun
  | [d1, d2] => { results := [.lit (.bool true)], args := [d1, d2] }
  | _ => none }
def dertypeValuesRow : OpenClaim := { program := "ytnegakobammljaa", sum := "69111421c3dd80ca03d07bf99a4dda64aefc8454e868e142c2466fe7c45fd39b", func := "passepartout/passepartoutlaw10.DertypeValues", spec := "dertypeValues", apart := false }
def DertypeValuesSaid : Prop := dertypeValuesRow.holds Try.pinned (OpenSpec.ofChange dertypeValuesSpec)

/-- ITS FALSE NEIGHBOUR: 'it returns false'. Refute it at one input. -/
def dertypeValuesWrong : ChangeSpec := { name := "dertypeValues", fn := fun _ => fun
  | [d1, d2] => { results := [.lit (.bool false)], args := [d1, d2] }
  | _ => none }
def DertypeValuesWrongFalsely : Prop := dertypeValuesRow.holds Try.pinned (OpenSpec.ofChange dertypeValuesWrong)

/-- 'passepartoutlaw10.DertypeNumbers': WHATEVER THE INPUT: true; the input reads as it did. -/
def dertypeNumbersSpec : ChangeSpec := { name := "dertypeNumbers", fn := fun _ => fun
  | [d] => { results := [.lit (.bool true)], args := [d] }
  | _ => none }
def dertypeNumbersRow : OpenClaim := { program := "ytnegakobammljaa", sum := "69111421c3dd80ca03d07bf99a4dda64aefc8454e868e142c2466fe7c45fd39b", func := "passepartout/passepartoutlaw10.DertypeNumbers", spec := "dertypeNumbers", unfollowed := true, recurses := true, apart := false }
def DertypeNumbersSaid : Prop := dertypeNumbersRow.holds Try.pinned (OpenSpec.ofChange dertypeNumbersSpec)

/-- ITS FALSE NEIGHBOUR: 'it returns false'. Refute it at one input. -/
def dertypeNumbersWrong : ChangeSpec := { name := "dertypeNumbers", fn := fun _ => fun
  | [d] => { results := [.lit (.bool false)], args := [d] }
  | _ => none }
def DertypeNumbersWrongFalsely : Prop := dertypeNumbersRow.holds Try.pinned (OpenSpec.ofChange dertypeNumbersWrong)

/-- 'passepartoutlaw10.DertypeTimes': WHATEVER THE INPUT: true; the input reads as it did. -/
def dertypeTimesSpec : ChangeSpec := { name := "dertypeTimes", fn := fun _ => fun
  | [d] => { results := [.lit (.bool true)], args := [d] }
  | _ => none }
def dertypeTimesRow : OpenClaim := { program := "ytnegakobammljaa", sum := "69111421c3dd80ca03d07bf99a4dda64aefc8454e868e142c2466fe7c45fd39b", func := "passepartout/passepartoutlaw10.DertypeTimes", spec := "dertypeTimes", unfollowed := true, recurses := true, apart := false }
def DertypeTimesSaid : Prop := dertypeTimesRow.holds Try.pinned (OpenSpec.ofChange dertypeTimesSpec)

/-- ITS FALSE NEIGHBOUR: 'it returns false'. Refute it at one input. -/
def dertypeTimesWrong : ChangeSpec := { name := "dertypeTimes", fn := fun _ => fun
  | [d] => { results := [.lit (.bool false)], args := [d] }
  | _ => none }
def DertypeTimesWrongFalsely : Prop := dertypeTimesRow.holds Try.pinned (OpenSpec.ofChange dertypeTimesWrong)

/-- 'passepartoutlaw10.DertypeArcs': WHATEVER THE INPUT: true; the input reads as it did. -/
def dertypeArcsSpec : ChangeSpec := { name := "dertypeArcs", fn := fun _ => fun
  | [d1, d2, d3] => { results := [.lit (.bool true)], args := [d1, d2, d3] }
  | _ => none }
def dertypeArcsRow : OpenClaim := { program := "ytnegakobammljaa", sum := "69111421c3dd80ca03d07bf99a4dda64aefc8454e868e142c2466fe7c45fd39b", func := "passepartout/passepartoutlaw10.DertypeArcs", spec := "dertypeArcs", apart := false }
def DertypeArcsSaid : Prop := dertypeArcsRow.holds Try.pinned (OpenSpec.ofChange dertypeArcsSpec)

/-- ITS FALSE NEIGHBOUR: 'it returns false'. Refute it at one input. -/
def dertypeArcsWrong : ChangeSpec := { name := "dertypeArcs", fn := fun _ => fun
  | [d1, d2, d3] => { results := [.lit (.bool false)], args := [d1, d2, d3] }
  | _ => none }
def DertypeArcsWrongFalsely : Prop := dertypeArcsRow.holds Try.pinned (OpenSpec.ofChange dertypeArcsWrong)

/-- 'passepartoutlaw10.DertypeBits': WHATEVER THE INPUT: true; the input reads as it did. -/
def dertypeBitsSpec : ChangeSpec := { name := "dertypeBits", fn := fun _ => fun
  | [d1, d2, d3] => { results := [.lit (.bool true)], args := [d1, d2, d3] }
  | _ => none }
def dertypeBitsRow : OpenClaim := { program := "ytnegakobammljaa", sum := "69111421c3dd80ca03d07bf99a4dda64aefc8454e868e142c2466fe7c45fd39b", func := "passepartout/passepartoutlaw10.DertypeBits", spec := "dertypeBits", unfollowed := true, recurses := true, apart := false }
def DertypeBitsSaid : Prop := dertypeBitsRow.holds Try.pinned (OpenSpec.ofChange dertypeBitsSpec)

/-- ITS FALSE NEIGHBOUR: 'it returns false'. Refute it at one input. -/
def dertypeBitsWrong : ChangeSpec := { name := "dertypeBits", fn := fun _ => fun
  | [d1, d2, d3] => { results := [.lit (.bool false)], args := [d1, d2, d3] }
  | _ => none }
def DertypeBitsWrongFalsely : Prop := dertypeBitsRow.holds Try.pinned (OpenSpec.ofChange dertypeBitsWrong)

/- THE SECOND FORM. 'bulk': how many values and letters a reading holds, each counted each time it is reached (what is shared counts as often as it is met; a slice's spare places count too). A statement '..UptoSaid' is the law's where the arguments, and the package variables that the reading takes, are together of bulk at most 1048576: NARROWER than '..Said'. Prove '..Said' where nothing that the law and all that it calls make is longer than what came in: it says more and counts as full. Else prove '..UptoSaid'. A law counts once. -/
mutual
def uptoBulk {H : Type} : DataW H → Nat
  | .lit (.string bytes) => bytes.length + 1
  | .lit _ => 1
  | .nil => 1
  | .ptr d => uptoBulk d + 1
  | .slice elems spare => uptoBulkAll elems + uptoBulkAll spare + 1
  | .agg parts => uptoBulkAll parts + 1
  | .iface _ d => uptoBulk d + 1
  | .map entries => uptoBulkEntries entries + 1
  | .held _ => 1
def uptoBulkAll {H : Type} : List (DataW H) → Nat
  | [] => 0
  | d :: r => uptoBulk d + uptoBulkAll r
def uptoBulkEntries {H : Type} : List (Lit × DataW H) → Nat
  | [] => 0
  | x :: r => uptoBulkEntry x + uptoBulkEntries r
def uptoBulkEntry {H : Type} : Lit × DataW H → Nat
  | (.string bytes, d) => bytes.length + uptoBulk d + 1
  | (_, d) => uptoBulk d + 1
 end
def uptoSmall : (H : Type) → List (DataW H) → Bool := fun _ ds => decide (uptoBulkAll ds ≤ 1048576)
def OpenSpec.upto (s : _root_.Go.ChangeSpec) : _root_.Go.OpenSpec := { _root_.Go.OpenSpec.ofChange s with cond := some uptoSmall }

/-- 'passepartoutlaw10.DertypeChecks', WHERE WHAT IT READS IS OF BULK AT MOST 1048576: true; the input reads as it did. -/
def dertypeChecksUptoRow : OpenClaim := { program := "ytnegakobammljaa", sum := "69111421c3dd80ca03d07bf99a4dda64aefc8454e868e142c2466fe7c45fd39b", func := "passepartout/passepartoutlaw10.DertypeChecks", spec := "dertypeChecks", unfollowed := true, recurses := true, apart := false, narrowed := true }
def DertypeChecksUptoSaid : Prop := dertypeChecksUptoRow.holds Try.pinned (OpenSpec.upto dertypeChecksSpec)

/-- 'passepartoutlaw10.DertypeValues', WHERE WHAT IT READS IS OF BULK AT MOST 1048576: true; the input reads as it did. -/
def dertypeValuesUptoRow : OpenClaim := { program := "ytnegakobammljaa", sum := "69111421c3dd80ca03d07bf99a4dda64aefc8454e868e142c2466fe7c45fd39b", func := "passepartout/passepartoutlaw10.DertypeValues", spec := "dertypeValues", apart := false, narrowed := true }
def DertypeValuesUptoSaid : Prop := dertypeValuesUptoRow.holds Try.pinned (OpenSpec.upto dertypeValuesSpec)

/-- 'passepartoutlaw10.DertypeNumbers', WHERE WHAT IT READS IS OF BULK AT MOST 1048576: true; the input reads as it did. -/
def dertypeNumbersUptoRow : OpenClaim := { program := "ytnegakobammljaa", sum := "69111421c3dd80ca03d07bf99a4dda64aefc8454e868e142c2466fe7c45fd39b", func := "passepartout/passepartoutlaw10.DertypeNumbers", spec := "dertypeNumbers", unfollowed := true, recurses := true, apart := false, narrowed := true }
def DertypeNumbersUptoSaid : Prop := dertypeNumbersUptoRow.holds Try.pinned (OpenSpec.upto dertypeNumbersSpec)

/-- 'passepartoutlaw10.DertypeTimes', WHERE WHAT IT READS IS OF BULK AT MOST 1048576: true; the input reads as it did. -/
def dertypeTimesUptoRow : OpenClaim := { program := "ytnegakobammljaa", sum := "69111421c3dd80ca03d07bf99a4dda64aefc8454e868e142c2466fe7c45fd39b", func := "passepartout/passepartoutlaw10.DertypeTimes", spec := "dertypeTimes", unfollowed := true, recurses := true, apart := false, narrowed := true }
def DertypeTimesUptoSaid : Prop := dertypeTimesUptoRow.holds Try.pinned (OpenSpec.upto dertypeTimesSpec)

/-- 'passepartoutlaw10.DertypeArcs', WHERE WHAT IT READS IS OF BULK AT MOST 1048576: true; the input reads as it did. -/
def dertypeArcsUptoRow : OpenClaim := { program := "ytnegakobammljaa", sum := "69111421c3dd80ca03d07bf99a4dda64aefc8454e868e142c2466fe7c45fd39b", func := "passepartout/passepartoutlaw10.DertypeArcs", spec := "dertypeArcs", apart := false, narrowed := true }
def DertypeArcsUptoSaid : Prop := dertypeArcsUptoRow.holds Try.pinned (OpenSpec.upto dertypeArcsSpec)

/-- 'passepartoutlaw10.DertypeBits', WHERE WHAT IT READS IS OF BULK AT MOST 1048576: true; the input reads as it did. -/
def dertypeBitsUptoRow : OpenClaim := { program := "ytnegakobammljaa", sum := "69111421c3dd80ca03d07bf99a4dda64aefc8454e868e142c2466fe7c45fd39b", func := "passepartout/passepartoutlaw10.DertypeBits", spec := "dertypeBits", unfollowed := true, recurses := true, apart := false, narrowed := true }
def DertypeBitsUptoSaid : Prop := dertypeBitsUptoRow.holds Try.pinned (OpenSpec.upto dertypeBitsSpec)

end Rows
end Go.Proofs.Ytnegakobammljaa
