/-
  DERIVED. GIVEN WITH THE SEED: THE CARDS: each row of YtbppoffhpmoplacDoorRows.lean that lists a variable, with what it lists TIED to the program's text (the seventh form; the later family's looks); each row that meets fmt, with fmt's text TOLD by the authors' own Lean function (tested against real Go, not proved from fmt's source: count such statements apart). THE CARD IS WHAT COUNTS. Prove the row's statement (the work); the ties are given (YtbppoffhpmoplacDoorTie.lean); close each card by the builder's one call (the guide's Derived/Test/ToyasCard.lean, 'card_holds'). Laid BY PROGRAM, IN A SANDBOX (cutbox-door.mjs). By AI agents, Wed Nov 11 2026. No macro, syntax, notation, axiom, sorry.
-/
import Derived.Test.YtbppoffhpmoplacDoorRows
import GoSem.ClaimSeven
namespace Go.Proofs.YtbppoffhpmoplacDoor
namespace Rows

/-- THE TIED CARD OF 'forestaylaw.RefsTells'. -/
def refsTellsCard : Claim7 := { stood := { row := refsTellsRow, standIns := [], harness := (true, "727995f2939202b8256083baa87485696fd32772cbe1173394950e3093236871"), looks := false }, kinds := [], alts := [], laidByText := true, laidKinds := [.data, .pinned], laidTests := true, laidLooks := .later }
def RefsTellsCardSaid : Prop := Claim7.holds Tryd.pinned (.plain (OpenSpec.ofChange refsTellsSpec)) refsTellsCard

/-- THE TIED CARD OF 'forestaylaw.RefsOnce'. -/
def refsOnceCard : Claim7 := { stood := { row := refsOnceRow, standIns := [], harness := (true, "727995f2939202b8256083baa87485696fd32772cbe1173394950e3093236871"), looks := false }, kinds := [], alts := [], laidByText := true, laidKinds := [.data, .pinned], laidTests := true, laidLooks := .later }
def RefsOnceCardSaid : Prop := Claim7.holds Tryd.pinned (.plain (OpenSpec.ofChange refsOnceSpec)) refsOnceCard

/-- THE SECOND FORM's CARD OF 'forestaylaw.RefsTells'. -/
def refsTellsUptoCard : Claim7 := { stood := { row := refsTellsUptoRow, standIns := [], harness := (true, "727995f2939202b8256083baa87485696fd32772cbe1173394950e3093236871"), looks := false }, kinds := [], alts := [], laidByText := true, laidKinds := [.data, .pinned], laidTests := true, laidLooks := .later }
def RefsTellsUptoCardSaid : Prop := Claim7.holds Tryd.pinned (.plain (OpenSpec.upto refsTellsSpec)) refsTellsUptoCard

/-- THE SECOND FORM's CARD OF 'forestaylaw.RefsOnce'. -/
def refsOnceUptoCard : Claim7 := { stood := { row := refsOnceUptoRow, standIns := [], harness := (true, "727995f2939202b8256083baa87485696fd32772cbe1173394950e3093236871"), looks := false }, kinds := [], alts := [], laidByText := true, laidKinds := [.data, .pinned], laidTests := true, laidLooks := .later }
def RefsOnceUptoCardSaid : Prop := Claim7.holds Tryd.pinned (.plain (OpenSpec.upto refsOnceSpec)) refsOnceUptoCard
end Rows
end Go.Proofs.YtbppoffhpmoplacDoor
