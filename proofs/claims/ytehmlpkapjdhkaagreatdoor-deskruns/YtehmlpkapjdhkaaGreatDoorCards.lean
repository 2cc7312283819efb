/-
  DERIVED. GIVEN WITH THE SEED: THE CARDS: each row of YtehmlpkapjdhkaaGreatDoorRows.lean that lists a variable, with what it lists TIED to the program's text (the seventh form; the later family's looks); each row that meets fmt, with fmt's text TOLD by the authors' own Lean function (tested against real Go, not proved from fmt's source: count such statements apart). THE CARD IS WHAT COUNTS. Prove the row's statement (the work); the ties are given (YtehmlpkapjdhkaaGreatDoorTie.lean); close each card by the builder's one call (the guide's Derived/Test/ToyasCard.lean, 'card_holds'). Laid BY PROGRAM, IN A SANDBOX (cutbox-door.mjs). By AI agents, Wed Nov 11 2026. No macro, syntax, notation, axiom, sorry.
-/
import Derived.Test.YtehmlpkapjdhkaaGreatDoorRows
import GoSem.ClaimSeven
namespace Go.Proofs.YtehmlpkapjdhkaaGreatDoor
namespace Rows

/-- THE TIED CARD OF 'forestaylaw.ClusterSafe'. -/
def clusterSafeCard : Claim7 := { stood := { row := clusterSafeRow, standIns := [], harness := (true, "18a54adac97cf2c588e11675e592bd9419c540ec0cbf2f59794e1d53b613cdf4"), looks := false }, kinds := [], alts := [], laidByText := true, laidKinds := [.data, .data, .data, .data, .pinned], laidTests := true, laidLooks := .later }
def ClusterSafeCardSaid : Prop := Claim7.holds Tryz.pinned (.plain (OpenSpec.ofChange clusterSafeSpec)) clusterSafeCard

/-- THE TIED CARD OF 'forestaylaw.ClusterBits'. -/
def clusterBitsCard : Claim7 := { stood := { row := clusterBitsRow, standIns := [], harness := (true, "18a54adac97cf2c588e11675e592bd9419c540ec0cbf2f59794e1d53b613cdf4"), looks := false }, kinds := [], alts := [], laidByText := true, laidKinds := [.data, .data, .data, .data, .pinned], laidTests := true, laidLooks := .later }
def ClusterBitsCardSaid : Prop := Claim7.holds Tryz.pinned (.plain (OpenSpec.ofChange clusterBitsSpec)) clusterBitsCard

/-- THE TIED CARD OF 'forestaylaw.DiffLeads'. -/
def diffLeadsCard : Claim7 := { stood := { row := diffLeadsRow, standIns := [], harness := (true, "18a54adac97cf2c588e11675e592bd9419c540ec0cbf2f59794e1d53b613cdf4"), looks := false }, kinds := [], alts := [], laidByText := true, laidKinds := [.data, .data, .data, .data, .pinned], laidTests := true, laidLooks := .later }
def DiffLeadsCardSaid : Prop := Claim7.holds Tryz.pinned (.plain (OpenSpec.ofChange diffLeadsSpec)) diffLeadsCard

/-- THE TIED CARD OF 'forestaylaw.RepairSame'. -/
def repairSameCard : Claim7 := { stood := { row := repairSameRow, standIns := [], harness := (true, "18a54adac97cf2c588e11675e592bd9419c540ec0cbf2f59794e1d53b613cdf4"), looks := false }, kinds := [], alts := [], laidByText := true, laidKinds := [.data, .pinned], laidTests := true, laidLooks := .later }
def RepairSameCardSaid : Prop := Claim7.holds Tryz.pinned (.plain (OpenSpec.ofChange repairSameSpec)) repairSameCard

/-- THE TIED CARD OF 'forestaylaw.RepairAll'. -/
def repairAllCard : Claim7 := { stood := { row := repairAllRow, standIns := [], harness := (true, "18a54adac97cf2c588e11675e592bd9419c540ec0cbf2f59794e1d53b613cdf4"), looks := false }, kinds := [], alts := [], laidByText := true, laidKinds := [.data, .data, .data, .data, .pinned], laidTests := true, laidLooks := .later }
def RepairAllCardSaid : Prop := Claim7.holds Tryz.pinned (.plain (OpenSpec.ofChange repairAllSpec)) repairAllCard

/-- THE TIED CARD OF 'forestaylaw.RepairDiff'. -/
def repairDiffCard : Claim7 := { stood := { row := repairDiffRow, standIns := [], harness := (true, "18a54adac97cf2c588e11675e592bd9419c540ec0cbf2f59794e1d53b613cdf4"), looks := false }, kinds := [], alts := [], laidByText := true, laidKinds := [.data, .pinned], laidTests := true, laidLooks := .later }
def RepairDiffCardSaid : Prop := Claim7.holds Tryz.pinned (.plain (OpenSpec.ofChange repairDiffSpec)) repairDiffCard

/-- THE TIED CARD OF 'forestaylaw.DeskRuns'. -/
def deskRunsCard : Claim7 := { stood := { row := deskRunsRow, standIns := [], harness := (true, "18a54adac97cf2c588e11675e592bd9419c540ec0cbf2f59794e1d53b613cdf4"), looks := false }, kinds := [], alts := [], laidByText := true, laidKinds := [.data, .data, .data, .data, .pinned], laidTests := true, laidLooks := .later }
def DeskRunsCardSaid : Prop := Claim7.holds Tryz.pinned (.plain (OpenSpec.ofChange deskRunsSpec)) deskRunsCard

/-- THE TIED CARD OF 'forestaylaw.DeskStays'. -/
def deskStaysCard : Claim7 := { stood := { row := deskStaysRow, standIns := [], harness := (true, "18a54adac97cf2c588e11675e592bd9419c540ec0cbf2f59794e1d53b613cdf4"), looks := false }, kinds := [], alts := [], laidByText := true, laidKinds := [.data, .data, .data, .data, .pinned], laidTests := true, laidLooks := .later }
def DeskStaysCardSaid : Prop := Claim7.holds Tryz.pinned (.plain (OpenSpec.ofChange deskStaysSpec)) deskStaysCard

/-- THE SECOND FORM's CARD OF 'forestaylaw.ClusterSafe'. -/
def clusterSafeUptoCard : Claim7 := { stood := { row := clusterSafeUptoRow, standIns := [], harness := (true, "18a54adac97cf2c588e11675e592bd9419c540ec0cbf2f59794e1d53b613cdf4"), looks := false }, kinds := [], alts := [], laidByText := true, laidKinds := [.data, .data, .data, .data, .pinned], laidTests := true, laidLooks := .later }
def ClusterSafeUptoCardSaid : Prop := Claim7.holds Tryz.pinned (.plain (OpenSpec.upto clusterSafeSpec)) clusterSafeUptoCard

/-- THE SECOND FORM's CARD OF 'forestaylaw.ClusterBits'. -/
def clusterBitsUptoCard : Claim7 := { stood := { row := clusterBitsUptoRow, standIns := [], harness := (true, "18a54adac97cf2c588e11675e592bd9419c540ec0cbf2f59794e1d53b613cdf4"), looks := false }, kinds := [], alts := [], laidByText := true, laidKinds := [.data, .data, .data, .data, .pinned], laidTests := true, laidLooks := .later }
def ClusterBitsUptoCardSaid : Prop := Claim7.holds Tryz.pinned (.plain (OpenSpec.upto clusterBitsSpec)) clusterBitsUptoCard

/-- THE SECOND FORM's CARD OF 'forestaylaw.DiffLeads'. -/
def diffLeadsUptoCard : Claim7 := { stood := { row := diffLeadsUptoRow, standIns := [], harness := (true, "18a54adac97cf2c588e11675e592bd9419c540ec0cbf2f59794e1d53b613cdf4"), looks := false }, kinds := [], alts := [], laidByText := true, laidKinds := [.data, .data, .data, .data, .pinned], laidTests := true, laidLooks := .later }
def DiffLeadsUptoCardSaid : Prop := Claim7.holds Tryz.pinned (.plain (OpenSpec.upto diffLeadsSpec)) diffLeadsUptoCard

/-- THE SECOND FORM's CARD OF 'forestaylaw.RepairSame'. -/
def repairSameUptoCard : Claim7 := { stood := { row := repairSameUptoRow, standIns := [], harness := (true, "18a54adac97cf2c588e11675e592bd9419c540ec0cbf2f59794e1d53b613cdf4"), looks := false }, kinds := [], alts := [], laidByText := true, laidKinds := [.data, .pinned], laidTests := true, laidLooks := .later }
def RepairSameUptoCardSaid : Prop := Claim7.holds Tryz.pinned (.plain (OpenSpec.upto repairSameSpec)) repairSameUptoCard

/-- THE SECOND FORM's CARD OF 'forestaylaw.RepairAll'. -/
def repairAllUptoCard : Claim7 := { stood := { row := repairAllUptoRow, standIns := [], harness := (true, "18a54adac97cf2c588e11675e592bd9419c540ec0cbf2f59794e1d53b613cdf4"), looks := false }, kinds := [], alts := [], laidByText := true, laidKinds := [.data, .data, .data, .data, .pinned], laidTests := true, laidLooks := .later }
def RepairAllUptoCardSaid : Prop := Claim7.holds Tryz.pinned (.plain (OpenSpec.upto repairAllSpec)) repairAllUptoCard

/-- THE SECOND FORM's CARD OF 'forestaylaw.RepairDiff'. -/
def repairDiffUptoCard : Claim7 := { stood := { row := repairDiffUptoRow, standIns := [], harness := (true, "18a54adac97cf2c588e11675e592bd9419c540ec0cbf2f59794e1d53b613cdf4"), looks := false }, kinds := [], alts := [], laidByText := true, laidKinds := [.data, .pinned], laidTests := true, laidLooks := .later }
def RepairDiffUptoCardSaid : Prop := Claim7.holds Tryz.pinned (.plain (OpenSpec.upto repairDiffSpec)) repairDiffUptoCard

/-- THE SECOND FORM's CARD OF 'forestaylaw.DeskRuns'. -/
def deskRunsUptoCard : Claim7 := { stood := { row := deskRunsUptoRow, standIns := [], harness := (true, "18a54adac97cf2c588e11675e592bd9419c540ec0cbf2f59794e1d53b613cdf4"), looks := false }, kinds := [], alts := [], laidByText := true, laidKinds := [.data, .data, .data, .data, .pinned], laidTests := true, laidLooks := .later }
def DeskRunsUptoCardSaid : Prop := Claim7.holds Tryz.pinned (.plain (OpenSpec.upto deskRunsSpec)) deskRunsUptoCard

/-- THE SECOND FORM's CARD OF 'forestaylaw.DeskStays'. -/
def deskStaysUptoCard : Claim7 := { stood := { row := deskStaysUptoRow, standIns := [], harness := (true, "18a54adac97cf2c588e11675e592bd9419c540ec0cbf2f59794e1d53b613cdf4"), looks := false }, kinds := [], alts := [], laidByText := true, laidKinds := [.data, .data, .data, .data, .pinned], laidTests := true, laidLooks := .later }
def DeskStaysUptoCardSaid : Prop := Claim7.holds Tryz.pinned (.plain (OpenSpec.upto deskStaysSpec)) deskStaysUptoCard
end Rows
end Go.Proofs.YtehmlpkapjdhkaaGreatDoor
