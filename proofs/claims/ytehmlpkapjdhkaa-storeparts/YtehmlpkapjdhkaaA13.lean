import Derived.Test.YtehmlpkapjdhkaaA12
import Derived.Deep.RegionWith
import Derived.Deep.DrawnRows
namespace Go.Proofs.Ytehmlpkapjdhkaa
open Go.RowKit

theorem enc5 : strOfNums (encNums 5 3 [4, 3] 1) ++ tee = { data := #[5, 3, 2, 4, 3, 1, 116] } := by decide
theorem chk5 : checkE 5 3 [4, 3] 1 = 0 := by decide
theorem chk3 : checkE 3 1 [1] 1 = 1 := by decide
theorem beg5 : Begins (({ data := #[5, 3, 2, 4, 3, 1, 116] } : ByteArray) ++ { data := #[122] }) 5 3 [4, 3] [116] := ⟨[122], by decide⟩
theorem nobeg (i k : Int) (L T : List Int) : ¬ Begins { data := #[5, 3, 2] } i k L T := fun h => by
  have := (begins_sizes h).1
  have e : ({ data := #[5, 3, 2] } : ByteArray).size = 3 := rfl
  omega

/-- the fifth object of a shelf. -/
theorem fifth {w : World} {g : Nat} {s2 s3 s4 s5 : Value} (h : w.heap[g]? = some (.cells (shelfCells s2 s3 s4 s5) 28)) :
    w.cell? ⟨g, 16, none⟩ = some (.int .i64 5) ∧ w.cell? ⟨g, 17, none⟩ = some (.int .i64 3) ∧ w.cell? ⟨g, 18, none⟩ = some s5 ∧ w.cell? ⟨g, 19, none⟩ = some (.string tee) := by
  refine ⟨?_, ?_, ?_, ?_⟩ <;> (rw [cell_of_row w g _ _ _ _ h]; rfl)

theorem sameO_refl (i k : Int) (L : List Int) (t : ByteArray) : sameO i k L t i k L t = true := by simp [sameO, sameB]

/-- what is kept over objectBegun's last statement. -/
structure Bun (w : World) (B : Nat) (a : Option Addr) (cap : Nat) (wp : World) : Prop where
  below : Below w.heap.size w wp
  cell4 : Cells4 B (.int .i64 5) (.int .i64 3) (.slice a 2 cap) (.string tee) wp
  holds : Holds wp a [4, 3]
  le : w.heap.size ≤ B
theorem Bun.cells {w : World} {B : Nat} {a : Option Addr} {cap : Nat} {wp : World} (h : Bun w B a cap wp) : wp.cell? ⟨B, 0, none⟩ = some (.int .i64 5) ∧ wp.cell? ⟨B, 1, none⟩ = some (.int .i64 3) ∧ wp.cell? ⟨B, 2, none⟩ = some (.slice a 2 cap) ∧ wp.cell? ⟨B, 3, none⟩ = some (.string tee) :=
  ⟨h.cell4.c0, h.cell4.c1, h.cell4.c2, h.cell4.c3⟩
theorem Bun.step {w : World} {B : Nat} {a : Option Addr} {cap : Nat} {wp wx : World} (h : Bun w B a cap wp) (hB : Below wp.heap.size wp wx) : Bun w B a cap wx :=
  ⟨h.below.trans (hB.mono h.below.size), h.cell4.below hB h.cell4.lt, h.holds.below hB, h.le⟩
theorem Bun.alloc {w : World} {B : Nat} {a : Option Addr} {cap : Nat} {wp : World} (h : Bun w B a cap wp) (o : Obj) : Bun w B a cap (wp.alloc o) := h.step (below_alloc _ _)
theorem Bun.drew {w : World} {B : Nat} {a : Option Addr} {cap : Nat} {wp : World} (h : Bun w B a cap wp) : Bun w B a cap wp.drew := h.step (Below.refl _ _).drew

attribute [local go_sem ↓] Go.wp_at_zero Go.wp_at_succ
end Go.Proofs.Ytehmlpkapjdhkaa
