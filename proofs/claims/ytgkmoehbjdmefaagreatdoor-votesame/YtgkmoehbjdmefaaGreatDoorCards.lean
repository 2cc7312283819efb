/-
  DERIVED. GIVEN WITH THE SEED: THE CARDS: each row of YtgkmoehbjdmefaaGreatDoorRows.lean that lists a variable, with what it lists TIED to the program's text (the seventh form; the later family's looks); each row that meets fmt, with fmt's text TOLD by the authors' own Lean function (tested against real Go, not proved from fmt's source: count such statements apart). THE CARD IS WHAT COUNTS. Prove the row's statement (the work); the ties are given (YtgkmoehbjdmefaaGreatDoorTie.lean); close each card by the builder's one call (the guide's Derived/Test/ToyasCard.lean, 'card_holds'). Laid BY PROGRAM, IN A SANDBOX (cutbox-door.mjs). By AI agents, Wed Nov 11 2026. No macro, syntax, notation, axiom, sorry.
-/
import Derived.Test.YtgkmoehbjdmefaaGreatDoorRows
import GoSem.ClaimSeven
namespace Go.Proofs.YtgkmoehbjdmefaaGreatDoor
namespace Rows

/-- THE TIED CARD OF 'forestaylaw.PushNeeds'. -/
def pushNeedsCard : Claim7 := { stood := { row := pushNeedsRow, standIns := [], harness := (true, "19a10e0caba062ea74fbd313c54d98ec3cc0210e49abdd346d23261d85f0b1da"), looks := false }, kinds := [], alts := [], laidByText := true, laidKinds := [.data, .pinned], laidTests := true, laidLooks := .later }
def PushNeedsCardSaid : Prop := Claim7.holds Tryz.pinned (.plain (OpenSpec.ofChange pushNeedsSpec)) pushNeedsCard

/-- THE TIED CARD OF 'forestaylaw.PushTwice'. -/
def pushTwiceCard : Claim7 := { stood := { row := pushTwiceRow, standIns := [], harness := (true, "19a10e0caba062ea74fbd313c54d98ec3cc0210e49abdd346d23261d85f0b1da"), looks := false }, kinds := [], alts := [], laidByText := true, laidKinds := [.data, .pinned], laidTests := true, laidLooks := .later }
def PushTwiceCardSaid : Prop := Claim7.holds Tryz.pinned (.plain (OpenSpec.ofChange pushTwiceSpec)) pushTwiceCard

/-- THE TIED CARD OF 'forestaylaw.VoteOne'. -/
def voteOneCard : Claim7 := { stood := { row := voteOneRow, standIns := [], harness := (true, "19a10e0caba062ea74fbd313c54d98ec3cc0210e49abdd346d23261d85f0b1da"), looks := false }, kinds := [], alts := [], laidByText := true, laidKinds := [.data, .data, .data, .data, .pinned], laidTests := true, laidLooks := .later }
def VoteOneCardSaid : Prop := Claim7.holds Tryz.pinned (.plain (OpenSpec.ofChange voteOneSpec)) voteOneCard

/-- THE TIED CARD OF 'forestaylaw.VoteSame'. -/
def voteSameCard : Claim7 := { stood := { row := voteSameRow, standIns := [], harness := (true, "19a10e0caba062ea74fbd313c54d98ec3cc0210e49abdd346d23261d85f0b1da"), looks := false }, kinds := [], alts := [], laidByText := true, laidKinds := [.data, .data, .data, .data, .pinned], laidTests := true, laidLooks := .later }
def VoteSameCardSaid : Prop := Claim7.holds Tryz.pinned (.plain (OpenSpec.ofChange voteSameSpec)) voteSameCard

/-- THE TIED CARD OF 'forestaylaw.ReplicaApart'. -/
def replicaApartCard : Claim7 := { stood := { row := replicaApartRow, standIns := [], harness := (true, "19a10e0caba062ea74fbd313c54d98ec3cc0210e49abdd346d23261d85f0b1da"), looks := false }, kinds := [], alts := [], laidByText := true, laidKinds := [.data, .data, .data, .data, .pinned], laidTests := true, laidLooks := .later }
def ReplicaApartCardSaid : Prop := Claim7.holds Tryz.pinned (.plain (OpenSpec.ofChange replicaApartSpec)) replicaApartCard

/-- THE TIED CARD OF 'forestaylaw.ReplicaSteps'. -/
def replicaStepsCard : Claim7 := { stood := { row := replicaStepsRow, standIns := [], harness := (true, "19a10e0caba062ea74fbd313c54d98ec3cc0210e49abdd346d23261d85f0b1da"), looks := false }, kinds := [], alts := [], laidByText := true, laidKinds := [.data, .data, .data, .data, .pinned], laidTests := true, laidLooks := .later }
def ReplicaStepsCardSaid : Prop := Claim7.holds Tryz.pinned (.plain (OpenSpec.ofChange replicaStepsSpec)) replicaStepsCard

/-- THE SECOND FORM's CARD OF 'forestaylaw.PushNeeds'. -/
def pushNeedsUptoCard : Claim7 := { stood := { row := pushNeedsUptoRow, standIns := [], harness := (true, "19a10e0caba062ea74fbd313c54d98ec3cc0210e49abdd346d23261d85f0b1da"), looks := false }, kinds := [], alts := [], laidByText := true, laidKinds := [.data, .pinned], laidTests := true, laidLooks := .later }
def PushNeedsUptoCardSaid : Prop := Claim7.holds Tryz.pinned (.plain (OpenSpec.upto pushNeedsSpec)) pushNeedsUptoCard

/-- THE SECOND FORM's CARD OF 'forestaylaw.PushTwice'. -/
def pushTwiceUptoCard : Claim7 := { stood := { row := pushTwiceUptoRow, standIns := [], harness := (true, "19a10e0caba062ea74fbd313c54d98ec3cc0210e49abdd346d23261d85f0b1da"), looks := false }, kinds := [], alts := [], laidByText := true, laidKinds := [.data, .pinned], laidTests := true, laidLooks := .later }
def PushTwiceUptoCardSaid : Prop := Claim7.holds Tryz.pinned (.plain (OpenSpec.upto pushTwiceSpec)) pushTwiceUptoCard

/-- THE SECOND FORM's CARD OF 'forestaylaw.VoteOne'. -/
def voteOneUptoCard : Claim7 := { stood := { row := voteOneUptoRow, standIns := [], harness := (true, "19a10e0caba062ea74fbd313c54d98ec3cc0210e49abdd346d23261d85f0b1da"), looks := false }, kinds := [], alts := [], laidByText := true, laidKinds := [.data, .data, .data, .data, .pinned], laidTests := true, laidLooks := .later }
def VoteOneUptoCardSaid : Prop := Claim7.holds Tryz.pinned (.plain (OpenSpec.upto voteOneSpec)) voteOneUptoCard

/-- THE SECOND FORM's CARD OF 'forestaylaw.VoteSame'. -/
def voteSameUptoCard : Claim7 := { stood := { row := voteSameUptoRow, standIns := [], harness := (true, "19a10e0caba062ea74fbd313c54d98ec3cc0210e49abdd346d23261d85f0b1da"), looks := false }, kinds := [], alts := [], laidByText := true, laidKinds := [.data, .data, .data, .data, .pinned], laidTests := true, laidLooks := .later }
def VoteSameUptoCardSaid : Prop := Claim7.holds Tryz.pinned (.plain (OpenSpec.upto voteSameSpec)) voteSameUptoCard

/-- THE SECOND FORM's CARD OF 'forestaylaw.ReplicaApart'. -/
def replicaApartUptoCard : Claim7 := { stood := { row := replicaApartUptoRow, standIns := [], harness := (true, "19a10e0caba062ea74fbd313c54d98ec3cc0210e49abdd346d23261d85f0b1da"), looks := false }, kinds := [], alts := [], laidByText := true, laidKinds := [.data, .data, .data, .data, .pinned], laidTests := true, laidLooks := .later }
def ReplicaApartUptoCardSaid : Prop := Claim7.holds Tryz.pinned (.plain (OpenSpec.upto replicaApartSpec)) replicaApartUptoCard

/-- THE SECOND FORM's CARD OF 'forestaylaw.ReplicaSteps'. -/
def replicaStepsUptoCard : Claim7 := { stood := { row := replicaStepsUptoRow, standIns := [], harness := (true, "19a10e0caba062ea74fbd313c54d98ec3cc0210e49abdd346d23261d85f0b1da"), looks := false }, kinds := [], alts := [], laidByText := true, laidKinds := [.data, .data, .data, .data, .pinned], laidTests := true, laidLooks := .later }
def ReplicaStepsUptoCardSaid : Prop := Claim7.holds Tryz.pinned (.plain (OpenSpec.upto replicaStepsSpec)) replicaStepsUptoCard
end Rows
end Go.Proofs.YtgkmoehbjdmefaaGreatDoor
