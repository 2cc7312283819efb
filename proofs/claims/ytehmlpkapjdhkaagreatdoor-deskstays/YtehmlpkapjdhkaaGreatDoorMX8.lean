import Derived.Test.YtehmlpkapjdhkaaGreatDoorMU
import Derived.RegionTactic
import Derived.Test.YtehmlpkapjdhkaaGreatDoorMK1
import Derived.Lib.AppendZeros
import Derived.Lib.SlicesCompact
import Derived.Sort.Walk0
import Derived.Test.YtehmlpkapjdhkaaGreatDoorSh2
import Derived.Test.YtehmlpkapjdhkaaGreatDoorMG
import Derived.Lib.RowBridge
namespace Go.Proofs.YtehmlpkapjdhkaaGreatDoor
section
open Go.RowKit
set_option maxRecDepth 100000
end

section
open Go.RowKit
attribute [local go_sem] Oper.semAt_some
set_option maxRecDepth 100000
end

section
open Go.RowKit
attribute [local go_sem] Oper.semAt_some
set_option maxRecDepth 100000
end

section
open Go.RowKit
attribute [local go_sem] Oper.semAt_some
set_option maxRecDepth 100000
theorem c2_of {w : World} {q : Nat} {x0 x1 : Value} {t : TypeId} (h : w.heap[q]? = some (.cells #[x0,x1] t)) : w.cell? ⟨q,0,none⟩ = some x0 ∧ w.cell? ⟨q,1,none⟩ = some x1:=by
  refine ⟨?_,?_⟩ <;> (rw [cell_of_row w _ _ _ _ _ h];rfl)
end

section
open Go.RowKit
attribute [local go_sem] Oper.semAt_some
set_option maxRecDepth 100000
end

section
open Go.RowKit
set_option maxRecDepth 100000
/-! The names of two lists,sorted,each once: plain facts. -/
end

section
open Go.RowKit
attribute [local go_sem] Oper.semAt_some
set_option maxRecDepth 100000
end

section
open Go.RowKit
attribute [local go_sem] Oper.semAt_some
set_option maxRecDepth 100000
end
end Go.Proofs.YtehmlpkapjdhkaaGreatDoor
