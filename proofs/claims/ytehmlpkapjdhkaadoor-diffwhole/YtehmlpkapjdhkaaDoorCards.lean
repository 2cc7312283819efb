/-
  DERIVED. GIVEN WITH THE SEED: THE CARDS: each row of YtehmlpkapjdhkaaDoorRows.lean that lists a variable, with what it lists TIED to the program's text (the seventh form; the later family's looks); each row that meets fmt, with fmt's text TOLD by the authors' own Lean function (tested against real Go, not proved from fmt's source: count such statements apart). THE CARD IS WHAT COUNTS. Prove the row's statement (the work); the ties are given (YtehmlpkapjdhkaaDoorTie.lean); close each card by the builder's one call (the guide's Derived/Test/ToyasCard.lean, 'card_holds'). Laid BY PROGRAM, IN A SANDBOX (cutbox-door.mjs). By AI agents, Wed Nov 11 2026. No macro, syntax, notation, axiom, sorry.
-/
import Derived.Test.YtehmlpkapjdhkaaDoorRows
import GoSem.ClaimSeven
namespace Go.Proofs.YtehmlpkapjdhkaaDoor
namespace Rows

/-- THE TIED CARD OF 'forestaylaw.DiffWhole'. -/
def diffWholeCard : Claim7 := { stood := { row := diffWholeRow, standIns := [], harness := (true, "5aae785da7c076bda01767d7d70b773735abfb8163101c02a797558d7b63d68a"), looks := false }, kinds := [], alts := [], laidByText := true, laidKinds := [.data, .pinned], laidTests := true, laidLooks := .later }
def DiffWholeCardSaid : Prop := Claim7.holds Tryd.pinned (.plain (OpenSpec.ofChange diffWholeSpec)) diffWholeCard

/-- THE SECOND FORM's CARD OF 'forestaylaw.DiffWhole'. -/
def diffWholeUptoCard : Claim7 := { stood := { row := diffWholeUptoRow, standIns := [], harness := (true, "5aae785da7c076bda01767d7d70b773735abfb8163101c02a797558d7b63d68a"), looks := false }, kinds := [], alts := [], laidByText := true, laidKinds := [.data, .pinned], laidTests := true, laidLooks := .later }
def DiffWholeUptoCardSaid : Prop := Claim7.holds Tryd.pinned (.plain (OpenSpec.upto diffWholeSpec)) diffWholeUptoCard
end Rows
end Go.Proofs.YtehmlpkapjdhkaaDoor
