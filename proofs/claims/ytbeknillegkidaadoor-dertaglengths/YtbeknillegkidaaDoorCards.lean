/-
  DERIVED. GIVEN WITH THE SEED: THE CARDS: each row of YtbeknillegkidaaDoorRows.lean that lists a variable, with what it lists TIED to the program's text (the seventh form; the later family's looks); each row that meets fmt, with fmt's text TOLD by the authors' own Lean function (tested against real Go, not proved from fmt's source: count such statements apart). THE CARD IS WHAT COUNTS. Prove the row's statement (the work); the ties are given (YtbeknillegkidaaDoorTie.lean); close each card by the builder's one call (the guide's Derived/Test/ToyasCard.lean, 'card_holds'). Laid BY PROGRAM, IN A SANDBOX (cutbox-door.mjs). By AI agents, Wed Nov 11 2026. No macro, syntax, notation, axiom, sorry.
-/
import Derived.Test.YtbeknillegkidaaDoorRows
import GoSem.ClaimSeven
namespace Go.Proofs.YtbeknillegkidaaDoor
namespace Rows

/-- THE TIED CARD OF 'passepartoutlaw09.DertagReads'. -/
def dertagReadsCard : Claim7 := { stood := { row := dertagReadsRow, standIns := [], harness := (true, "c943307504816cbb018d8cb602f6cb0132b82c806eca5013c8652be1628c3720"), looks := false }, kinds := [], alts := [], laidByText := true, laidKinds := [.data], laidTests := true, laidLooks := .later }
def DertagReadsCardSaid : Prop := Claim7.holds Tryd.pinned (.plain (OpenSpec.ofChange dertagReadsSpec)) dertagReadsCard

/-- THE TIED CARD OF 'passepartoutlaw09.DertagPuts'. -/
def dertagPutsCard : Claim7 := { stood := { row := dertagPutsRow, standIns := [], harness := (true, "c943307504816cbb018d8cb602f6cb0132b82c806eca5013c8652be1628c3720"), looks := false }, kinds := [], alts := [], laidByText := true, laidKinds := [.data], laidTests := true, laidLooks := .later }
def DertagPutsCardSaid : Prop := Claim7.holds Tryd.pinned (.plain (OpenSpec.ofChange dertagPutsSpec)) dertagPutsCard

/-- THE TIED CARD OF 'passepartoutlaw09.DertagBack'. -/
def dertagBackCard : Claim7 := { stood := { row := dertagBackRow, standIns := [], harness := (true, "c943307504816cbb018d8cb602f6cb0132b82c806eca5013c8652be1628c3720"), looks := false }, kinds := [], alts := [], laidByText := true, laidKinds := [.data], laidTests := true, laidLooks := .later }
def DertagBackCardSaid : Prop := Claim7.holds Tryd.pinned (.plain (OpenSpec.ofChange dertagBackSpec)) dertagBackCard

/-- THE TIED CARD OF 'passepartoutlaw09.DertagOne'. -/
def dertagOneCard : Claim7 := { stood := { row := dertagOneRow, standIns := [], harness := (true, "c943307504816cbb018d8cb602f6cb0132b82c806eca5013c8652be1628c3720"), looks := false }, kinds := [], alts := [], laidByText := true, laidKinds := [.data], laidTests := true, laidLooks := .later }
def DertagOneCardSaid : Prop := Claim7.holds Tryd.pinned (.plain (OpenSpec.ofChange dertagOneSpec)) dertagOneCard

/-- THE TIED CARD OF 'passepartoutlaw09.DertagBytes'. -/
def dertagBytesCard : Claim7 := { stood := { row := dertagBytesRow, standIns := [], harness := (true, "c943307504816cbb018d8cb602f6cb0132b82c806eca5013c8652be1628c3720"), looks := false }, kinds := [], alts := [], laidByText := true, laidKinds := [.data], laidTests := true, laidLooks := .later }
def DertagBytesCardSaid : Prop := Claim7.holds Tryd.pinned (.plain (OpenSpec.ofChange dertagBytesSpec)) dertagBytesCard

/-- THE TIED CARD OF 'passepartoutlaw09.DertagLengths'. -/
def dertagLengthsCard : Claim7 := { stood := { row := dertagLengthsRow, standIns := [], harness := (true, "c943307504816cbb018d8cb602f6cb0132b82c806eca5013c8652be1628c3720"), looks := false }, kinds := [], alts := [], laidByText := true, laidKinds := [.data], laidTests := true, laidLooks := .later }
def DertagLengthsCardSaid : Prop := Claim7.holds Tryd.pinned (.plain (OpenSpec.ofChange dertagLengthsSpec)) dertagLengthsCard

/-- THE SECOND FORM's CARD OF 'passepartoutlaw09.DertagReads'. -/
def dertagReadsUptoCard : Claim7 := { stood := { row := dertagReadsUptoRow, standIns := [], harness := (true, "c943307504816cbb018d8cb602f6cb0132b82c806eca5013c8652be1628c3720"), looks := false }, kinds := [], alts := [], laidByText := true, laidKinds := [.data], laidTests := true, laidLooks := .later }
def DertagReadsUptoCardSaid : Prop := Claim7.holds Tryd.pinned (.plain (OpenSpec.upto dertagReadsSpec)) dertagReadsUptoCard

/-- THE SECOND FORM's CARD OF 'passepartoutlaw09.DertagPuts'. -/
def dertagPutsUptoCard : Claim7 := { stood := { row := dertagPutsUptoRow, standIns := [], harness := (true, "c943307504816cbb018d8cb602f6cb0132b82c806eca5013c8652be1628c3720"), looks := false }, kinds := [], alts := [], laidByText := true, laidKinds := [.data], laidTests := true, laidLooks := .later }
def DertagPutsUptoCardSaid : Prop := Claim7.holds Tryd.pinned (.plain (OpenSpec.upto dertagPutsSpec)) dertagPutsUptoCard

/-- THE SECOND FORM's CARD OF 'passepartoutlaw09.DertagBack'. -/
def dertagBackUptoCard : Claim7 := { stood := { row := dertagBackUptoRow, standIns := [], harness := (true, "c943307504816cbb018d8cb602f6cb0132b82c806eca5013c8652be1628c3720"), looks := false }, kinds := [], alts := [], laidByText := true, laidKinds := [.data], laidTests := true, laidLooks := .later }
def DertagBackUptoCardSaid : Prop := Claim7.holds Tryd.pinned (.plain (OpenSpec.upto dertagBackSpec)) dertagBackUptoCard

/-- THE SECOND FORM's CARD OF 'passepartoutlaw09.DertagOne'. -/
def dertagOneUptoCard : Claim7 := { stood := { row := dertagOneUptoRow, standIns := [], harness := (true, "c943307504816cbb018d8cb602f6cb0132b82c806eca5013c8652be1628c3720"), looks := false }, kinds := [], alts := [], laidByText := true, laidKinds := [.data], laidTests := true, laidLooks := .later }
def DertagOneUptoCardSaid : Prop := Claim7.holds Tryd.pinned (.plain (OpenSpec.upto dertagOneSpec)) dertagOneUptoCard

/-- THE SECOND FORM's CARD OF 'passepartoutlaw09.DertagBytes'. -/
def dertagBytesUptoCard : Claim7 := { stood := { row := dertagBytesUptoRow, standIns := [], harness := (true, "c943307504816cbb018d8cb602f6cb0132b82c806eca5013c8652be1628c3720"), looks := false }, kinds := [], alts := [], laidByText := true, laidKinds := [.data], laidTests := true, laidLooks := .later }
def DertagBytesUptoCardSaid : Prop := Claim7.holds Tryd.pinned (.plain (OpenSpec.upto dertagBytesSpec)) dertagBytesUptoCard

/-- THE SECOND FORM's CARD OF 'passepartoutlaw09.DertagLengths'. -/
def dertagLengthsUptoCard : Claim7 := { stood := { row := dertagLengthsUptoRow, standIns := [], harness := (true, "c943307504816cbb018d8cb602f6cb0132b82c806eca5013c8652be1628c3720"), looks := false }, kinds := [], alts := [], laidByText := true, laidKinds := [.data], laidTests := true, laidLooks := .later }
def DertagLengthsUptoCardSaid : Prop := Claim7.holds Tryd.pinned (.plain (OpenSpec.upto dertagLengthsSpec)) dertagLengthsUptoCard
end Rows
end Go.Proofs.YtbeknillegkidaaDoor
