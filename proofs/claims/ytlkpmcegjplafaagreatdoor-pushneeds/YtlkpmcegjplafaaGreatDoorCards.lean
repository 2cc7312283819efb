/-
  DERIVED. GIVEN WITH THE SEED: THE CARDS: each row of YtlkpmcegjplafaaGreatDoorRows.lean that lists a variable, with what it lists TIED to the program's text (the seventh form; the later family's looks); each row that meets fmt, with fmt's text TOLD by the authors' own Lean function (tested against real Go, not proved from fmt's source: count such statements apart). THE CARD IS WHAT COUNTS. Prove the row's statement (the work); the ties are given (YtlkpmcegjplafaaGreatDoorTie.lean); close each card by the builder's one call (the guide's Derived/Test/ToyasCard.lean, 'card_holds'). Laid BY PROGRAM, IN A SANDBOX (cutbox-door.mjs). By AI agents, Wed Nov 11 2026. No macro, syntax, notation, axiom, sorry.
-/
import Derived.Test.YtlkpmcegjplafaaGreatDoorRows
import GoSem.ClaimSeven
namespace Go.Proofs.YtlkpmcegjplafaaGreatDoor
namespace Rows

/-- THE TIED CARD OF 'forestaylaw.UpdateOrder'. -/
def updateOrderCard : Claim7 := { stood := { row := updateOrderRow, standIns := [], harness := (true, "900dcee4eee301b7aad6c2cf26dc8e2db58a1ceac1d4c573f2e92e02e5ab5b05"), looks := false }, kinds := [], alts := [], laidByText := true, laidKinds := [.data, .data, .data, .data, .pinned], laidTests := true, laidLooks := .later }
def UpdateOrderCardSaid : Prop := Claim7.holds Tryz.pinned (.plain (OpenSpec.ofChange updateOrderSpec)) updateOrderCard

/-- THE TIED CARD OF 'forestaylaw.UpdateBack'. -/
def updateBackCard : Claim7 := { stood := { row := updateBackRow, standIns := [], harness := (true, "900dcee4eee301b7aad6c2cf26dc8e2db58a1ceac1d4c573f2e92e02e5ab5b05"), looks := false }, kinds := [], alts := [], laidByText := true, laidKinds := [.data, .data, .data, .data, .pinned], laidTests := true, laidLooks := .later }
def UpdateBackCardSaid : Prop := Claim7.holds Tryz.pinned (.plain (OpenSpec.ofChange updateBackSpec)) updateBackCard

/-- THE TIED CARD OF 'forestaylaw.PushNeeds'. -/
def pushNeedsCard : Claim7 := { stood := { row := pushNeedsRow, standIns := [], harness := (true, "900dcee4eee301b7aad6c2cf26dc8e2db58a1ceac1d4c573f2e92e02e5ab5b05"), looks := false }, kinds := [], alts := [], laidByText := true, laidKinds := [.data, .pinned], laidTests := true, laidLooks := .later }
def PushNeedsCardSaid : Prop := Claim7.holds Tryz.pinned (.plain (OpenSpec.ofChange pushNeedsSpec)) pushNeedsCard

/-- THE TIED CARD OF 'forestaylaw.PushTwice'. -/
def pushTwiceCard : Claim7 := { stood := { row := pushTwiceRow, standIns := [], harness := (true, "900dcee4eee301b7aad6c2cf26dc8e2db58a1ceac1d4c573f2e92e02e5ab5b05"), looks := false }, kinds := [], alts := [], laidByText := true, laidKinds := [.data, .pinned], laidTests := true, laidLooks := .later }
def PushTwiceCardSaid : Prop := Claim7.holds Tryz.pinned (.plain (OpenSpec.ofChange pushTwiceSpec)) pushTwiceCard

/-- THE SECOND FORM's CARD OF 'forestaylaw.UpdateOrder'. -/
def updateOrderUptoCard : Claim7 := { stood := { row := updateOrderUptoRow, standIns := [], harness := (true, "900dcee4eee301b7aad6c2cf26dc8e2db58a1ceac1d4c573f2e92e02e5ab5b05"), looks := false }, kinds := [], alts := [], laidByText := true, laidKinds := [.data, .data, .data, .data, .pinned], laidTests := true, laidLooks := .later }
def UpdateOrderUptoCardSaid : Prop := Claim7.holds Tryz.pinned (.plain (OpenSpec.upto updateOrderSpec)) updateOrderUptoCard

/-- THE SECOND FORM's CARD OF 'forestaylaw.UpdateBack'. -/
def updateBackUptoCard : Claim7 := { stood := { row := updateBackUptoRow, standIns := [], harness := (true, "900dcee4eee301b7aad6c2cf26dc8e2db58a1ceac1d4c573f2e92e02e5ab5b05"), looks := false }, kinds := [], alts := [], laidByText := true, laidKinds := [.data, .data, .data, .data, .pinned], laidTests := true, laidLooks := .later }
def UpdateBackUptoCardSaid : Prop := Claim7.holds Tryz.pinned (.plain (OpenSpec.upto updateBackSpec)) updateBackUptoCard

/-- THE SECOND FORM's CARD OF 'forestaylaw.PushNeeds'. -/
def pushNeedsUptoCard : Claim7 := { stood := { row := pushNeedsUptoRow, standIns := [], harness := (true, "900dcee4eee301b7aad6c2cf26dc8e2db58a1ceac1d4c573f2e92e02e5ab5b05"), looks := false }, kinds := [], alts := [], laidByText := true, laidKinds := [.data, .pinned], laidTests := true, laidLooks := .later }
def PushNeedsUptoCardSaid : Prop := Claim7.holds Tryz.pinned (.plain (OpenSpec.upto pushNeedsSpec)) pushNeedsUptoCard

/-- THE SECOND FORM's CARD OF 'forestaylaw.PushTwice'. -/
def pushTwiceUptoCard : Claim7 := { stood := { row := pushTwiceUptoRow, standIns := [], harness := (true, "900dcee4eee301b7aad6c2cf26dc8e2db58a1ceac1d4c573f2e92e02e5ab5b05"), looks := false }, kinds := [], alts := [], laidByText := true, laidKinds := [.data, .pinned], laidTests := true, laidLooks := .later }
def PushTwiceUptoCardSaid : Prop := Claim7.holds Tryz.pinned (.plain (OpenSpec.upto pushTwiceSpec)) pushTwiceUptoCard
end Rows
end Go.Proofs.YtlkpmcegjplafaaGreatDoor
