/-
  No cell of these rows narrows 'for every input' (looked for: loops, veiled, ifaces, maps, wideKeys, modest, calm, conditions, laid).
  DERIVED. THE GIVEN ROWS OF THIS SEAT. 6 by the template 'for every input the law returns true; each argument reads behind the call as it read before'; 0 by the template 'total and deterministic' (their statements: YtbppoffhpmoplabTotals.lean).
  GIVEN WITH THE SEED: the statements are not yours to turn. If you find one false, say at which input.
  Laid BY PROGRAM, IN A SANDBOX (cutbox-rows.mjs): the forced cells as the released guide's own fill.sh prints them over the translation 1cfbd88e926a9643… (all of the seat's roots in one cut). By AI agents, Wed Nov 11 2026. No macro, syntax, notation, axiom, sorry.
-/
import Derived.Test.YtbppoffhpmoplabChecked
import GoSem.Claim
import GoSem.ClaimJoined
import GoSem.ClaimMapViews
import Derived.JoinedTies
import Derived.KernelRfl
namespace Go.Proofs.Ytbppoffhpmoplab
/- THE CELL 'sum', in the pinned program and in every row, IS THE sha256 OF THE DUMP (.gsa) THAT YtbppoffhpmoplabProg.lean LOADS. Nothing in Lean hashes anything: it is a label: what it is worth is what the hold of that sum in a sandbox is worth. -/
noncomputable def Try.pinned : Pinned := { name := "ytbppoffhpmoplab", sum := "1cfbd88e926a96435ad561257c1034044bb795812568f702ff583952650282b1", checked := Try.checked }
namespace Rows
def none {H : Type} : Left H := { results := [], args := [] }

/-- 'forestaylaw.StoreKeeps': WHATEVER THE INPUT: true; the input reads as it did. -/
def storeKeepsSpec : ChangeSpec := { name := "storeKeeps", fn := fun _ => fun
  | [d1, d2] => { results := [.lit (.bool true)], args := [d1, d2] }
  | _ => none }
def storeKeepsRow : OpenClaim := { program := "ytbppoffhpmoplab", sum := "1cfbd88e926a96435ad561257c1034044bb795812568f702ff583952650282b1", func := "forestay/forestaylaw.StoreKeeps", spec := "storeKeeps", inPlace := ["slices.overlaps[forestay/api.Object]"], unfollowed := true, recurses := true, apart := false }
def StoreKeepsSaid : Prop := storeKeepsRow.holds Try.pinned (OpenSpec.ofChange storeKeepsSpec)

/-- ITS FALSE NEIGHBOUR: 'it returns false'. Refute it at one input. -/
def storeKeepsWrong : ChangeSpec := { name := "storeKeeps", fn := fun _ => fun
  | [d1, d2] => { results := [.lit (.bool false)], args := [d1, d2] }
  | _ => none }
def StoreKeepsWrongFalsely : Prop := storeKeepsRow.holds Try.pinned (OpenSpec.ofChange storeKeepsWrong)

/-- 'forestaylaw.StoreOrder': WHATEVER THE INPUT: true; the input reads as it did. -/
def storeOrderSpec : ChangeSpec := { name := "storeOrder", fn := fun _ => fun
  | [d1, d2, d3] => { results := [.lit (.bool true)], args := [d1, d2, d3] }
  | _ => none }
def storeOrderRow : OpenClaim := { program := "ytbppoffhpmoplab", sum := "1cfbd88e926a96435ad561257c1034044bb795812568f702ff583952650282b1", func := "forestay/forestaylaw.StoreOrder", spec := "storeOrder", inPlace := ["slices.overlaps[forestay/api.Object]"], unfollowed := true, recurses := true, apart := false }
def StoreOrderSaid : Prop := storeOrderRow.holds Try.pinned (OpenSpec.ofChange storeOrderSpec)

/-- ITS FALSE NEIGHBOUR: 'it returns false'. Refute it at one input. -/
def storeOrderWrong : ChangeSpec := { name := "storeOrder", fn := fun _ => fun
  | [d1, d2, d3] => { results := [.lit (.bool false)], args := [d1, d2, d3] }
  | _ => none }
def StoreOrderWrongFalsely : Prop := storeOrderRow.holds Try.pinned (OpenSpec.ofChange storeOrderWrong)

/-- 'forestaylaw.WalkTips': WHATEVER THE INPUT: true; the input reads as it did. -/
def walkTipsSpec : ChangeSpec := { name := "walkTips", fn := fun _ => fun
  | [d1, d2, d3] => { results := [.lit (.bool true)], args := [d1, d2, d3] }
  | _ => none }
def walkTipsRow : OpenClaim := { program := "ytbppoffhpmoplab", sum := "1cfbd88e926a96435ad561257c1034044bb795812568f702ff583952650282b1", func := "forestay/forestaylaw.WalkTips", spec := "walkTips", unfollowed := true, recurses := true, apart := false }
def WalkTipsSaid : Prop := walkTipsRow.holds Try.pinned (OpenSpec.ofChange walkTipsSpec)

/-- ITS FALSE NEIGHBOUR: 'it returns false'. Refute it at one input. -/
def walkTipsWrong : ChangeSpec := { name := "walkTips", fn := fun _ => fun
  | [d1, d2, d3] => { results := [.lit (.bool false)], args := [d1, d2, d3] }
  | _ => none }
def WalkTipsWrongFalsely : Prop := walkTipsRow.holds Try.pinned (OpenSpec.ofChange walkTipsWrong)

/-- 'forestaylaw.WalkTells': WHATEVER THE INPUT: true; the input reads as it did. -/
def walkTellsSpec : ChangeSpec := { name := "walkTells", fn := fun _ => fun
  | [d1, d2, d3, d4] => { results := [.lit (.bool true)], args := [d1, d2, d3, d4] }
  | _ => none }
def walkTellsRow : OpenClaim := { program := "ytbppoffhpmoplab", sum := "1cfbd88e926a96435ad561257c1034044bb795812568f702ff583952650282b1", func := "forestay/forestaylaw.WalkTells", spec := "walkTells", unfollowed := true, recurses := true, apart := false }
def WalkTellsSaid : Prop := walkTellsRow.holds Try.pinned (OpenSpec.ofChange walkTellsSpec)

/-- ITS FALSE NEIGHBOUR: 'it returns false'. Refute it at one input. -/
def walkTellsWrong : ChangeSpec := { name := "walkTells", fn := fun _ => fun
  | [d1, d2, d3, d4] => { results := [.lit (.bool false)], args := [d1, d2, d3, d4] }
  | _ => none }
def WalkTellsWrongFalsely : Prop := walkTellsRow.holds Try.pinned (OpenSpec.ofChange walkTellsWrong)

/-- 'forestaylaw.WalkPart': WHATEVER THE INPUT: true; the input reads as it did. -/
def walkPartSpec : ChangeSpec := { name := "walkPart", fn := fun _ => fun
  | [d1, d2, d3] => { results := [.lit (.bool true)], args := [d1, d2, d3] }
  | _ => none }
def walkPartRow : OpenClaim := { program := "ytbppoffhpmoplab", sum := "1cfbd88e926a96435ad561257c1034044bb795812568f702ff583952650282b1", func := "forestay/forestaylaw.WalkPart", spec := "walkPart", inPlace := ["slices.overlaps[forestay/api.Object]"], unfollowed := true, recurses := true, apart := false }
def WalkPartSaid : Prop := walkPartRow.holds Try.pinned (OpenSpec.ofChange walkPartSpec)

/-- ITS FALSE NEIGHBOUR: 'it returns false'. Refute it at one input. -/
def walkPartWrong : ChangeSpec := { name := "walkPart", fn := fun _ => fun
  | [d1, d2, d3] => { results := [.lit (.bool false)], args := [d1, d2, d3] }
  | _ => none }
def WalkPartWrongFalsely : Prop := walkPartRow.holds Try.pinned (OpenSpec.ofChange walkPartWrong)

/-- 'forestaylaw.WalkBehind': WHATEVER THE INPUT: true; the input reads as it did. -/
def walkBehindSpec : ChangeSpec := { name := "walkBehind", fn := fun _ => fun
  | [d1, d2, d3, d4] => { results := [.lit (.bool true)], args := [d1, d2, d3, d4] }
  | _ => none }
def walkBehindRow : OpenClaim := { program := "ytbppoffhpmoplab", sum := "1cfbd88e926a96435ad561257c1034044bb795812568f702ff583952650282b1", func := "forestay/forestaylaw.WalkBehind", spec := "walkBehind", unfollowed := true, recurses := true, apart := false }
def WalkBehindSaid : Prop := walkBehindRow.holds Try.pinned (OpenSpec.ofChange walkBehindSpec)

/-- ITS FALSE NEIGHBOUR: 'it returns false'. Refute it at one input. -/
def walkBehindWrong : ChangeSpec := { name := "walkBehind", fn := fun _ => fun
  | [d1, d2, d3, d4] => { results := [.lit (.bool false)], args := [d1, d2, d3, d4] }
  | _ => none }
def WalkBehindWrongFalsely : Prop := walkBehindRow.holds Try.pinned (OpenSpec.ofChange walkBehindWrong)

/- THE SECOND FORM. 'bulk': how many values and letters a reading holds, each counted each time it is reached (what is shared counts as often as it is met; a slice's spare places count too). A statement '..UptoSaid' is the law's where the arguments, and the package variables that the reading takes, are together of bulk at most 1048576: NARROWER than '..Said'. Prove '..Said' where nothing that the law and all that it calls make is longer than what came in: it says more and counts as full. Else prove '..UptoSaid'. A law counts once. -/
mutual
def uptoBulk {H : Type} : DataW H → Nat
  | .lit (.string bytes) => bytes.length + 1
  | .lit _ => 1
  | .nil => 1
  | .ptr d => uptoBulk d + 1
  | .slice elems spare => uptoBulkAll elems + uptoBulkAll spare + 1
  | .agg parts => uptoBulkAll parts + 1
  | .iface _ d => uptoBulk d + 1
  | .map entries => uptoBulkEntries entries + 1
  | .held _ => 1
def uptoBulkAll {H : Type} : List (DataW H) → Nat
  | [] => 0
  | d :: r => uptoBulk d + uptoBulkAll r
def uptoBulkEntries {H : Type} : List (Lit × DataW H) → Nat
  | [] => 0
  | x :: r => uptoBulkEntry x + uptoBulkEntries r
def uptoBulkEntry {H : Type} : Lit × DataW H → Nat
  | (.string bytes, d) => bytes.length + uptoBulk d + 1
  | (_, d) => uptoBulk d + 1
 end
def uptoSmall : (H : Type) → List (DataW H) → Bool := fun _ ds => decide (uptoBulkAll ds ≤ 1048576)
def OpenSpec.upto (s : _root_.Go.ChangeSpec) : _root_.Go.OpenSpec := { _root_.Go.OpenSpec.ofChange s with cond := some uptoSmall }

/-- 'forestaylaw.StoreKeeps', WHERE WHAT IT READS IS OF BULK AT MOST 1048576: true; the input reads as it did. -/
def storeKeepsUptoRow : OpenClaim := { program := "ytbppoffhpmoplab", sum := "1cfbd88e926a96435ad561257c1034044bb795812568f702ff583952650282b1", func := "forestay/forestaylaw.StoreKeeps", spec := "storeKeeps", inPlace := ["slices.overlaps[forestay/api.Object]"], unfollowed := true, recurses := true, apart := false, narrowed := true }
def StoreKeepsUptoSaid : Prop := storeKeepsUptoRow.holds Try.pinned (OpenSpec.upto storeKeepsSpec)

/-- 'forestaylaw.StoreOrder', WHERE WHAT IT READS IS OF BULK AT MOST 1048576: true; the input reads as it did. -/
def storeOrderUptoRow : OpenClaim := { program := "ytbppoffhpmoplab", sum := "1cfbd88e926a96435ad561257c1034044bb795812568f702ff583952650282b1", func := "forestay/forestaylaw.StoreOrder", spec := "storeOrder", inPlace := ["slices.overlaps[forestay/api.Object]"], unfollowed := true, recurses := true, apart := false, narrowed := true }
def StoreOrderUptoSaid : Prop := storeOrderUptoRow.holds Try.pinned (OpenSpec.upto storeOrderSpec)

/-- 'forestaylaw.WalkTips', WHERE WHAT IT READS IS OF BULK AT MOST 1048576: true; the input reads as it did. -/
def walkTipsUptoRow : OpenClaim := { program := "ytbppoffhpmoplab", sum := "1cfbd88e926a96435ad561257c1034044bb795812568f702ff583952650282b1", func := "forestay/forestaylaw.WalkTips", spec := "walkTips", unfollowed := true, recurses := true, apart := false, narrowed := true }
def WalkTipsUptoSaid : Prop := walkTipsUptoRow.holds Try.pinned (OpenSpec.upto walkTipsSpec)

/-- 'forestaylaw.WalkTells', WHERE WHAT IT READS IS OF BULK AT MOST 1048576: true; the input reads as it did. -/
def walkTellsUptoRow : OpenClaim := { program := "ytbppoffhpmoplab", sum := "1cfbd88e926a96435ad561257c1034044bb795812568f702ff583952650282b1", func := "forestay/forestaylaw.WalkTells", spec := "walkTells", unfollowed := true, recurses := true, apart := false, narrowed := true }
def WalkTellsUptoSaid : Prop := walkTellsUptoRow.holds Try.pinned (OpenSpec.upto walkTellsSpec)

/-- 'forestaylaw.WalkPart', WHERE WHAT IT READS IS OF BULK AT MOST 1048576: true; the input reads as it did. -/
def walkPartUptoRow : OpenClaim := { program := "ytbppoffhpmoplab", sum := "1cfbd88e926a96435ad561257c1034044bb795812568f702ff583952650282b1", func := "forestay/forestaylaw.WalkPart", spec := "walkPart", inPlace := ["slices.overlaps[forestay/api.Object]"], unfollowed := true, recurses := true, apart := false, narrowed := true }
def WalkPartUptoSaid : Prop := walkPartUptoRow.holds Try.pinned (OpenSpec.upto walkPartSpec)

/-- 'forestaylaw.WalkBehind', WHERE WHAT IT READS IS OF BULK AT MOST 1048576: true; the input reads as it did. -/
def walkBehindUptoRow : OpenClaim := { program := "ytbppoffhpmoplab", sum := "1cfbd88e926a96435ad561257c1034044bb795812568f702ff583952650282b1", func := "forestay/forestaylaw.WalkBehind", spec := "walkBehind", unfollowed := true, recurses := true, apart := false, narrowed := true }
def WalkBehindUptoSaid : Prop := walkBehindUptoRow.holds Try.pinned (OpenSpec.upto walkBehindSpec)

end Rows
end Go.Proofs.Ytbppoffhpmoplab
