import Derived.Test.YtehmlpkapjdhkaaA8
namespace Go.Proofs.Ytehmlpkapjdhkaa
open Go.RowKit

/-- the named results of read, in blocks B and B + 1. -/
structure Out (B : Nat) (x0 x1 x2 x3 : Value) (w : World) : Prop where
  c0 : w.cell? ⟨B, 0, none⟩ = some x0
  c1 : w.cell? ⟨B, 1, none⟩ = some x1
  c2 : w.cell? ⟨B, 2, none⟩ = some x2
  c3 : w.cell? ⟨B, 3, none⟩ = some x3
  f : ∀ i, w.frozen? ⟨B, i, none⟩ = false
  e : w.cell? ⟨B + 1, 0, none⟩ = some (.int .i64 0)
  ef : w.frozen? ⟨B + 1, 0, none⟩ = false
  lt : B + 2 < w.heap.size

theorem Out.stays {B : Nat} {x0 x1 x2 x3 : Value} {w w' : World} (h : Out B x0 x1 x2 x3 w) (hs : Stays (B + 2) none w w') : Out B x0 x1 x2 x3 w' := by
  have hl := h.lt
  have b0 := hs.block B (by omega) (by omega) (by simp)
  have b1 := hs.block (B + 1) (by omega) (by omega) (by simp)
  exact ⟨(World.cell?_of_block (a := ⟨B, 0, none⟩) b0).trans h.c0, (World.cell?_of_block (a := ⟨B, 1, none⟩) b0).trans h.c1, (World.cell?_of_block (a := ⟨B, 2, none⟩) b0).trans h.c2, (World.cell?_of_block (a := ⟨B, 3, none⟩) b0).trans h.c3,
    fun i => (World.frozen?_of_block (a := ⟨B, i, none⟩) b0).trans (h.f i), (World.cell?_of_block (a := ⟨B + 1, 0, none⟩) b1).trans h.e, (World.frozen?_of_block (a := ⟨B + 1, 0, none⟩) b1).trans h.ef, Nat.lt_of_lt_of_le hl hs.size⟩

theorem Out.set0 {B : Nat} {x0 x1 x2 x3 : Value} {w : World} (h : Out B x0 x1 x2 x3 w) (y : Value) : Out B y x1 x2 x3 (w.setCell ⟨B, 0, none⟩ y) :=
  ⟨World.cell?_setCell_same _ _ _ h.c0, (World.cell?_setCell_other _ _ _ _ (by simp)).trans h.c1, (World.cell?_setCell_other _ _ _ _ (by simp)).trans h.c2, (World.cell?_setCell_other _ _ _ _ (by simp)).trans h.c3,
    fun i => (World.frozen?_setCell _ _ _ _).trans (h.f i), (World.cell?_setCell_other _ _ _ _ (by simp)).trans h.e, (World.frozen?_setCell _ _ _ _).trans h.ef, by simpa [World.setCell] using h.lt⟩
theorem Out.set1 {B : Nat} {x0 x1 x2 x3 : Value} {w : World} (h : Out B x0 x1 x2 x3 w) (y : Value) : Out B x0 y x2 x3 (w.setCell ⟨B, 1, none⟩ y) :=
  ⟨(World.cell?_setCell_other _ _ _ _ (by simp)).trans h.c0, World.cell?_setCell_same _ _ _ h.c1, (World.cell?_setCell_other _ _ _ _ (by simp)).trans h.c2, (World.cell?_setCell_other _ _ _ _ (by simp)).trans h.c3,
    fun i => (World.frozen?_setCell _ _ _ _).trans (h.f i), (World.cell?_setCell_other _ _ _ _ (by simp)).trans h.e, (World.frozen?_setCell _ _ _ _).trans h.ef, by simpa [World.setCell] using h.lt⟩
theorem Out.set2 {B : Nat} {x0 x1 x2 x3 : Value} {w : World} (h : Out B x0 x1 x2 x3 w) (y : Value) : Out B x0 x1 y x3 (w.setCell ⟨B, 2, none⟩ y) :=
  ⟨(World.cell?_setCell_other _ _ _ _ (by simp)).trans h.c0, (World.cell?_setCell_other _ _ _ _ (by simp)).trans h.c1, World.cell?_setCell_same _ _ _ h.c2, (World.cell?_setCell_other _ _ _ _ (by simp)).trans h.c3,
    fun i => (World.frozen?_setCell _ _ _ _).trans (h.f i), (World.cell?_setCell_other _ _ _ _ (by simp)).trans h.e, (World.frozen?_setCell _ _ _ _).trans h.ef, by simpa [World.setCell] using h.lt⟩
theorem Out.set3 {B : Nat} {x0 x1 x2 x3 : Value} {w : World} (h : Out B x0 x1 x2 x3 w) (y : Value) : Out B x0 x1 x2 y (w.setCell ⟨B, 3, none⟩ y) :=
  ⟨(World.cell?_setCell_other _ _ _ _ (by simp)).trans h.c0, (World.cell?_setCell_other _ _ _ _ (by simp)).trans h.c1, (World.cell?_setCell_other _ _ _ _ (by simp)).trans h.c2, World.cell?_setCell_same _ _ _ h.c3,
    fun i => (World.frozen?_setCell _ _ _ _).trans (h.f i), (World.cell?_setCell_other _ _ _ _ (by simp)).trans h.e, (World.frozen?_setCell _ _ _ _).trans h.ef, by simpa [World.setCell] using h.lt⟩

theorem Reader.set {p k B i : Nat} {s : ByteArray} {w : World} (h : Reader p s k w) (hne : B ≠ p) (y : Value) : Reader p s k (w.setCell ⟨B, i, none⟩ y) :=
  ⟨(World.cell?_setCell_other _ _ _ _ (by intro e; cases e; exact hne rfl)).trans h.from', (World.cell?_setCell_other _ _ _ _ (by intro e; cases e; exact hne rfl)).trans h.at', (World.frozen?_setCell _ _ _ _).trans h.thaw⟩

/-- the numbers that an object is told by. -/
def encN (i k : Int) (L T : List Int) : List Int := [i, k, (L.length : Int)] ++ L ++ [(T.length : Int)] ++ T
/-- a text begins with an object's bytes. -/
def Begins (s : ByteArray) (i k : Int) (L T : List Int) : Prop := ∃ rest, nums s = encN i k L T ++ rest

theorem drop_cons {s : ByteArray} {k : Nat} (h : k < s.size) : (nums s).drop k = (s[k].toNat : Int) :: (nums s).drop (k + 1) := by
  have h1 : k < (nums s).length := by rw [nums_len]; exact h
  rw [List.drop_eq_getElem_cons h1]
  congr 1
  exact Option.some.inj ((List.getElem?_eq_getElem _).symm.trans (nums_at s k h))
theorem drop_part (s : ByteArray) (k n : Nat) : (nums s).drop k = part s k n ++ (nums s).drop (k + n) := by
  rw [part, ← List.drop_drop, List.take_append_drop]

theorem begins_read {s : ByteArray} {n m : Nat} (h : 2 < s.size) (hn : s[2].toNat = n) (h3 : 3 + n < s.size) (hm : s[3 + n].toNat = m) (h4 : 3 + n + 1 + m ≤ s.size) :
    Begins s s[0].toNat s[1].toNat (part s 3 n) (part s (3 + n + 1) m) := by
  have e0 : nums s = (s[0].toNat : Int) :: (nums s).drop 1 := drop_cons (k := 0) (by omega)
  have e1 : (nums s).drop 1 = (s[1].toNat : Int) :: (nums s).drop 2 := drop_cons (k := 1) (by omega)
  have e2 : (nums s).drop 2 = (s[2].toNat : Int) :: (nums s).drop 3 := drop_cons (k := 2) (by omega)
  have e3 := drop_part s 3 n
  have e4 := drop_cons (s := s) (k := 3 + n) (by omega)
  have e5 := drop_part s (3 + n + 1) m
  generalize (nums s).drop (3 + n + 1 + m) = rest at e5
  refine ⟨rest, ?_⟩
  rw [e0, e1, e2, e3, e4, e5]
  simp only [encN, part_len (show 3 + n ≤ s.size by omega), part_len h4]
  simp only [hn, hm, List.append_assoc, List.cons_append, List.nil_append]

theorem begins_sizes {s : ByteArray} {i k : Int} {L T : List Int} (h : Begins s i k L T) :
    4 + L.length + T.length ≤ s.size ∧ (∀ h2 : 2 < s.size, (s[2].toNat : Int) = L.length) ∧ (∀ n (_ : n = L.length) (h3 : 3 + n < s.size), (s[3 + n].toNat : Int) = T.length) := by
  obtain ⟨rest, e⟩ := h
  have hl := congrArg List.length e
  rw [nums_len] at hl
  simp [encN] at hl
  refine ⟨by omega, fun h2 => ?_, fun n hn h3 => ?_⟩
  · have := nums_at s 2 h2
    rw [e] at this
    simpa [encN] using this.symm
  · have := nums_at s (3 + n) h3
    rw [e] at this
    subst hn
    have e2 : encN i k L T ++ rest = ([i, k, (L.length : Int)] ++ L) ++ ((T.length : Int) :: (T ++ rest)) := by simp [encN]
    rw [e2, List.getElem?_append_right (by simp; omega)] at this
    have e3 : 3 + L.length - ([i, k, (L.length : Int)] ++ L).length = 0 := by simp; omega
    rw [e3] at this
    simpa using this.symm
end Go.Proofs.Ytehmlpkapjdhkaa
