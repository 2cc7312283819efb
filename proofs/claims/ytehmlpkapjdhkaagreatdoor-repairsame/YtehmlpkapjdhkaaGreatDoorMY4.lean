import Derived.Test.YtehmlpkapjdhkaaGreatDoorML5
import Derived.Deep.CutRange
namespace Go.Proofs.YtehmlpkapjdhkaaGreatDoor
open Go.RowKit
set_option maxRecDepth 100000

theorem rOf_len {qs : List Rq} {l : List Rp} (h : qs.map Rq.r = l) (hl : l.length = 3) : qs.length = 3 := by rw [← hl, ← h, List.length_map]
theorem rOf_q {qs : List Rq} {l : List Rp} (h : qs.map Rq.r = l) {i : Nat} (hi : i < qs.length) : qs[i].r = rOf l i := by
  rw [← h]; simp [rOf, hi]
end Go.Proofs.YtehmlpkapjdhkaaGreatDoor
