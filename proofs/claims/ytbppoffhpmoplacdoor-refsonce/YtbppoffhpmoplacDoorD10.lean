import Derived.Test.YtbppoffhpmoplacDoorD9
namespace Go.Proofs.YtbppoffhpmoplacDoor
open Go.RowKit

/-- an object on a shelf, with where its links lie. -/
structure Pl where
  x : Ob
  sa : Option Addr
  sc : Nat
def Pl.cells (r : Pl) : List Value := [.int .i64 r.x.id, .int .i64 r.x.kind, .slice r.sa r.x.links.length r.sc, .string r.x.text]
def rowC : List Pl → List Value
  | [] => []
  | r :: rs => r.cells ++ rowC rs
theorem rowC_append (A B : List Pl) : rowC (A ++ B) = rowC A ++ rowC B := by
  induction A with
  | nil => rfl
  | cons r A ih => simp [rowC, ih, List.append_assoc]
theorem rowC_length (A : List Pl) : (rowC A).length = A.length * 4 := by
  induction A with
  | nil => rfl
  | cons r A ih => simp [rowC, ih, Pl.cells]; omega
theorem rowC_take (A : List Pl) (i : Nat) (hi : i ≤ A.length) : (rowC A).take (i * 4) = rowC (A.take i) := by
  have h := rowC_append (A.take i) (A.drop i)
  rw [List.take_append_drop] at h
  rw [h, List.take_append_of_le_length (by rw [rowC_length, List.length_take]; omega), List.take_of_length_le (by rw [rowC_length, List.length_take]; omega)]
theorem rowC_drop (A : List Pl) (i : Nat) (hi : i ≤ A.length) : (rowC A).drop (i * 4) = rowC (A.drop i) := by
  have h := rowC_append (A.take i) (A.drop i)
  rw [List.take_append_drop] at h
  rw [h, show i * 4 = (rowC (A.take i)).length by rw [rowC_length, List.length_take]; omega, List.drop_left]
theorem rowC_one (A : List Pl) : ∀ v ∈ rowC A, v.oneCell' = true := by
  induction A with
  | nil => intro v h; cases h
  | cons r A ih =>
    intro v h
    rcases List.mem_append.1 h with h | h
    · simp only [Pl.cells, List.mem_cons, List.not_mem_nil, or_false] at h
      rcases h with rfl | rfl | rfl | rfl <;> rfl
    · exact ih v h
theorem rowC_get (A : List Pl) (i j : Nat) (hi : i < A.length) (hj : j < 4) : (rowC A)[i * 4 + j]? = (A[i].cells)[j]? := by
  induction A generalizing i with
  | nil => simp at hi
  | cons r A ih =>
    cases i with
    | zero =>
      simp only [rowC, Nat.zero_mul, Nat.zero_add, List.getElem_cons_zero]
      exact List.getElem?_append_left (by simpa [Pl.cells] using hj)
    | succ i =>
      have := ih i (by simpa using hi)
      rw [List.getElem_cons_succ, ← this]
      simp only [rowC]
      rw [List.getElem?_append_right (by simp [Pl.cells]; omega)]
      congr 1
      simp [Pl.cells]; omega

/-- an object's links lie above p, and not in the block 'blk'. -/
def Own1 (w : World) (p : Nat) (blk : Option Nat) (r : Pl) : Prop :=
  r.x.links.length ≤ 1000 ∧ (0 < r.x.links.length → ∃ b off, r.sa = some ⟨b, off, none⟩ ∧ p < b ∧ b < w.heap.size ∧ blk ≠ some b ∧ ∀ i, i < r.x.links.length → w.cell? ⟨b, off + i, none⟩ = some (.int .i64 (r.x.links.getD i 0)))
theorem Own1.holds {w : World} {p : Nat} {blk : Option Nat} {r : Pl} (h : Own1 w p blk r) : Holds w r.sa r.x.links := by
  intro i hi
  obtain ⟨b, off, e, _, hlt, _, hc⟩ := h.2 (by omega)
  exact ⟨b, off, e, hlt, hc⟩

theorem heap_lt {w : World} {k : Nat} {o : Obj} (h : w.heap[k]? = some o) : k < w.heap.size := by
  rcases Nat.lt_or_ge k w.heap.size with c | c
  · exact c
  · rw [Array.getElem?_eq_none c] at h; cases h

theorem ownsRow_same {w w' : World} {base : Nat} {v : Value} {n : Nat} {xs : List Value} (h : w.ownsRow base 63 4 v n xs) (hs : ∀ g, v.ownBlock = some g → w'.heap[g]? = w.heap[g]?) : w'.ownsRow base 63 4 v n xs := by
  refine ⟨h.1, ?_⟩
  rcases h.2 with h | ⟨g, cap, cur, rfl, h1, h2, h3⟩
  · exact .inl h
  · exact .inr ⟨g, cap, cur, rfl, h1, (hs g rfl).trans h2, h3⟩

end Go.Proofs.YtbppoffhpmoplacDoor
