import Derived.Test.YtehmlpkapjdhkaaA10
namespace Go.Proofs.Ytehmlpkapjdhkaa
open Go.RowKit

abbrev zeroO : Value := .agg #[.int .i64 0, .int .i64 0, .slice none 0 0, .string { data := #[] }]

/-- what Decode leaves. -/
def DecPost (s : ByteArray) (w : World) (e : Ending) (w' : World) : Prop :=
  Below w.heap.size w w' ∧
  ((∃ i k L T a cap, Begins s i k L T ∧ checkE i k L T.length = 0 ∧ e = .returned (.tuple #[.agg #[.int .i64 i, .int .i64 k, .slice a L.length cap, .string (strOfNums T)], .int .i64 ((4 + L.length + T.length : Nat) : Int), .int .i64 0]) ∧ Holds w' a L ∧ ∀ b off, a = some ⟨b, off, none⟩ → w.heap.size ≤ b) ∨
   (∃ i k L T, Begins s i k L T ∧ checkE i k L T.length ≠ 0 ∧ e = .returned (.tuple #[zeroO, .int .i64 0, .int .i64 (checkE i k L T.length)])) ∨
   ((∀ i k L T, ¬ Begins s i k L T) ∧ e = .returned (.tuple #[zeroO, .int .i64 0, .int .i64 5])))

theorem begins_len {s : ByteArray} {i k : Int} {L T : List Int} (h : Begins s i k L T) : L.length < 256 ∧ T.length < 256 := by
  obtain ⟨rest, e⟩ := h
  have h1 := nums_bd s (L.length : Int) (by rw [e]; simp [encN])
  have h2 := nums_bd s (T.length : Int) (by rw [e]; simp [encN])
  omega

/-- the four cells of a new result, all of them open to stores, below what comes later. -/
structure Cells4 (B : Nat) (x0 x1 x2 x3 : Value) (w : World) : Prop where
  c0 : w.cell? ⟨B, 0, none⟩ = some x0
  c1 : w.cell? ⟨B, 1, none⟩ = some x1
  c2 : w.cell? ⟨B, 2, none⟩ = some x2
  c3 : w.cell? ⟨B, 3, none⟩ = some x3
  f0 : w.frozen? ⟨B, 0, none⟩ = false
  f1 : w.frozen? ⟨B, 1, none⟩ = false
  f2 : w.frozen? ⟨B, 2, none⟩ = false
  f3 : w.frozen? ⟨B, 3, none⟩ = false
  lt : B < w.heap.size

theorem Cells4.new (w : World) (x0 x1 x2 x3 : Value) (e : Nat) : Cells4 w.heap.size x0 x1 x2 x3 (w.alloc (.cells #[x0, x1, x2, x3] e)) := by
  constructor <;> simp [go_sem]
theorem Cells4.below {B : Nat} {x0 x1 x2 x3 : Value} {w w' : World} {n : Nat} (h : Cells4 B x0 x1 x2 x3 w) (hb : Below n w w') (hn : B < n) : Cells4 B x0 x1 x2 x3 w' :=
  ⟨(hb.cell (p := ⟨B, 0, none⟩) hn).trans h.c0, (hb.cell (p := ⟨B, 1, none⟩) hn).trans h.c1, (hb.cell (p := ⟨B, 2, none⟩) hn).trans h.c2, (hb.cell (p := ⟨B, 3, none⟩) hn).trans h.c3,
    (hb.frozen (p := ⟨B, 0, none⟩) hn).trans h.f0, (hb.frozen (p := ⟨B, 1, none⟩) hn).trans h.f1, (hb.frozen (p := ⟨B, 2, none⟩) hn).trans h.f2, (hb.frozen (p := ⟨B, 3, none⟩) hn).trans h.f3, Nat.lt_of_lt_of_le h.lt hb.size⟩

theorem below_set4 {w0 w : World} {B : Nat} {x0 x1 x2 x3 : Value} {n : Nat} (h : Below n w0 w) (hn : n ≤ B) :
    Below n w0 ((((w.setCell ⟨B, 0, none⟩ x0).setCell ⟨B, 1, none⟩ x1).setCell ⟨B, 2, none⟩ x2).setCell ⟨B, 3, none⟩ x3) :=
  (((h.setCell (p := ⟨B, 0, none⟩) hn x0).setCell (p := ⟨B, 1, none⟩) hn x1).setCell (p := ⟨B, 2, none⟩) hn x2).setCell (p := ⟨B, 3, none⟩) hn x3

theorem holds_set4 {w : World} {a : Option Addr} {L : List Int} {B : Nat} {x0 x1 x2 x3 : Value} (h : Holds w a L) (hne : ∀ b off, a = some ⟨b, off, none⟩ → 0 < L.length → b ≠ B) :
    Holds ((((w.setCell ⟨B, 0, none⟩ x0).setCell ⟨B, 1, none⟩ x1).setCell ⟨B, 2, none⟩ x2).setCell ⟨B, 3, none⟩ x3) a L := by
  intro j hj
  obtain ⟨b, off, rfl, hlt, hc⟩ := h j hj
  have hb := hne b off rfl (by omega)
  have hne' : ∀ x i, (⟨B, i, none⟩ : Addr) ≠ ⟨b, x, none⟩ := fun x i e => by cases e; exact hb rfl
  refine ⟨b, off, rfl, by simpa [World.setCell] using hlt, fun x hx => ?_⟩
  rw [World.cell?_setCell_other _ _ _ _ (hne' _ _), World.cell?_setCell_other _ _ _ _ (hne' _ _), World.cell?_setCell_other _ _ _ _ (hne' _ _), World.cell?_setCell_other _ _ _ _ (hne' _ _)]
  exact hc x hx

end Go.Proofs.Ytehmlpkapjdhkaa
