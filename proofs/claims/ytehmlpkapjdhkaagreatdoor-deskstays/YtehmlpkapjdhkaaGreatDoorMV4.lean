import Derived.Test.YtehmlpkapjdhkaaGreatDoorMP
namespace Go.Proofs.YtehmlpkapjdhkaaGreatDoor
open Go.RowKit
set_option maxRecDepth 100000
theorem c7_of {w : World} {q : Nat} {x0 x1 x2 x3 x4 x5 x6 : Value} {t : TypeId} (h : w.heap[q]? = some (.cells #[x0,x1,x2,x3,x4,x5,x6] t)) : w.cell? ⟨q,0,none⟩ = some x0 ∧ w.cell? ⟨q,1,none⟩ = some x1 ∧ w.cell? ⟨q,2,none⟩ = some x2 ∧ w.cell? ⟨q,3,none⟩ = some x3 ∧ w.cell? ⟨q,4,none⟩ = some x4 ∧ w.cell? ⟨q,5,none⟩ = some x5 ∧ w.cell? ⟨q,6,none⟩ = some x6:=by
  refine ⟨?_,?_,?_,?_,?_,?_,?_⟩ <;> rw [cell_of_row w _ _ _ _ _ h] <;> rfl
end Go.Proofs.YtehmlpkapjdhkaaGreatDoor
