import Derived.Test.YtehmlpkapjdhkaaA9
namespace Go.Proofs.Ytehmlpkapjdhkaa
open Go.RowKit

/-- what read leaves. -/
def ReadPost (s : ByteArray) (w : World) (e : Ending) (w' : World) : Prop :=
  Below w.heap.size w w' ∧
  ((∃ i k L T a cap, Begins s i k L T ∧ e = .returned (.tuple #[.agg #[.int .i64 i, .int .i64 k, .slice a L.length cap, .string (strOfNums T)], .int .i64 ((4 + L.length + T.length : Nat) : Int), .int .i64 0]) ∧ Holds w' a L ∧ ∀ b off, a = some ⟨b, off, none⟩ → w.heap.size ≤ b) ∨
   ((∀ i k L T, ¬ Begins s i k L T) ∧ ∃ i k a n c t, e = .returned (.tuple #[.agg #[.int .i64 i, .int .i64 k, .slice a n c, .string t], .int .i64 0, .int .i64 5])))

theorem below_start (w : World) (a b c : Obj) : Below w.heap.size w (((w.alloc a).alloc b).alloc c) := ((below_alloc2 w a b).alloc (by simp; omega) c)

theorem Out.setE {B : Nat} {x0 x1 x2 x3 : Value} {w : World} (h : Out B x0 x1 x2 x3 w) : Out B x0 x1 x2 x3 (w.setCell ⟨B + 1, 0, none⟩ (.int .i64 0)) :=
  ⟨(World.cell?_setCell_other _ _ _ _ (by simp)).trans h.c0, (World.cell?_setCell_other _ _ _ _ (by simp)).trans h.c1, (World.cell?_setCell_other _ _ _ _ (by simp)).trans h.c2, (World.cell?_setCell_other _ _ _ _ (by simp)).trans h.c3,
    fun i => (World.frozen?_setCell _ _ _ _).trans (h.f i), World.cell?_setCell_same _ _ _ h.e, (World.frozen?_setCell _ _ _ _).trans h.ef, by simpa [World.setCell] using h.lt⟩
theorem Out.drew {B : Nat} {x0 x1 x2 x3 : Value} {w : World} (h : Out B x0 x1 x2 x3 w) : Out B x0 x1 x2 x3 w.drew :=
  ⟨h.c0, h.c1, h.c2, h.c3, h.f, h.e, h.ef, h.lt⟩
theorem Holds.drew {w : World} {a : Option Addr} {L : List Int} (h : Holds w a L) : Holds w.drew a L := h
theorem ret_agg {o o' : Value} {x y : Int} (h : o = o') (hx : x = y) : Ending.returned (.tuple #[o, .int .i64 x, .int .i64 0]) = .returned (.tuple #[o', .int .i64 y, .int .i64 0]) := by rw [h, hx]

theorem Holds.set {w : World} {a : Option Addr} {L : List Int} {B i : Nat} (h : Holds w a L) (hne : ∀ b off, a = some ⟨b, off, none⟩ → b ≠ B) (y : Value) : Holds (w.setCell ⟨B, i, none⟩ y) a L := by
  intro j hj
  obtain ⟨b, off, rfl, hlt, hc⟩ := h j hj
  have := hne b off rfl
  exact ⟨b, off, rfl, by simpa [World.setCell] using hlt, fun x hx => (World.cell?_setCell_other _ _ _ _ (by intro e; cases e; exact this rfl)).trans (hc x hx)⟩

theorem Holds.stays {w w' : World} {a : Option Addr} {L : List Int} {p : Nat} (h : Holds w a L) (hs : Stays p none w w') (hne : ∀ b off, a = some ⟨b, off, none⟩ → b ≠ p) : Holds w' a L := by
  intro j hj
  obtain ⟨b, off, rfl, hlt, hc⟩ := h j hj
  exact ⟨b, off, rfl, Nat.lt_of_lt_of_le hlt hs.size, fun x hx => (World.cell?_of_block (a := ⟨b, off + x, none⟩) (hs.block b hlt (hne b off rfl) (by simp))).trans (hc x hx)⟩

end Go.Proofs.Ytehmlpkapjdhkaa
