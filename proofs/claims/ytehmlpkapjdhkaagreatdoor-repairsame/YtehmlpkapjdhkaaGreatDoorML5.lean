import Derived.Test.YtehmlpkapjdhkaaGreatDoorML4
import Derived.Laws.EntriesVeiled
import Derived.Test.YtehmlpkapjdhkaaGreatDoorMX1
namespace Go.Proofs.YtehmlpkapjdhkaaGreatDoor
section
open Go.RowKit
set_option maxRecDepth 100000
end

section
open Go.RowKit
set_option maxRecDepth 100000

theorem HoldsQ.at {w : World} {b off : Nat} {l : List Rq} (h : HoldsQ w (some ⟨b, off, none⟩) l) {k : Nat} (hk : k < l.length) : QAt w b (off + k * 7) l[k] ∧ l[k].H w := by
  obtain ⟨b', off', e, _, hc⟩ := h k hk
  cases e; exact hc k hk
def q0 : Rq := ⟨⟨[], [], 0, 0, [], [], false⟩, none, 0, none, 0, none, 0, none, 0⟩
end

section
open Go.RowKit
set_option maxRecDepth 100000

theorem sameRq_any (x y : Rq) (w : World) (hx : x.H w) (hy : y.H w) : Calls Tryz.prog 14 #[x.val, y.val] w fun e w' => ∃ r, e = .returned (.bool r) ∧ (r = true ↔ x.r = y.r) ∧ Below w.heap.size w w' :=
  sameRep_all x.aS x.cs x.r.s x.al x.cl x.r.l x.r.g x.r.ph x.a1 x.c1 x.r.m x.a2 x.c2 x.r.us x.r.f y.aS y.cs y.r.s y.al y.cl y.r.l y.r.g y.r.ph y.a1 y.c1 y.r.m y.a2 y.c2 y.r.us y.r.f w hx hy
end
end Go.Proofs.YtehmlpkapjdhkaaGreatDoor
