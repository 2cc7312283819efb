import Derived.Test.YtehmlpkapjdhkaaGreatDoorMD
import Derived.Deep.CutRange
import Derived.Test.YtehmlpkapjdhkaaGreatDoorMF
namespace Go.Proofs.YtehmlpkapjdhkaaGreatDoor
section
open Go.RowKit
end

section
set_option maxRecDepth 100000
open Go.RowKit
end

section
open Go.RowKit

theorem right_links {l : List Ob} (h : checkS l = 0) : ∀ x ∈ l, ∀ y ∈ x.links, 1 ≤ y ∧ y < x.id := fun x hx => linksE_mem _ 0 0 (checkE_zero ((checkS_iff.1 h).2.1 x hx).1).2.2.2.2.1
theorem place_mem {l : List Ob} {i : Int} : 0 ≤ placeI l i ↔ ∃ x ∈ l, x.id = i := by
  constructor
  · intro h
    rcases placeI_cases l i with c | ⟨k, c, hk⟩
    · omega
    · obtain ⟨hk', e⟩ := placeI_get c
      exact ⟨_, List.getElem_mem hk', e⟩
  · rintro ⟨x, hx, rfl⟩
    rcases placeI_cases l x.id with c | ⟨k, c, hk⟩
    · unfold placeI at c
      split at c
      · omega
      · rename_i q
        rw [List.findIdx?_eq_none_iff] at q
        have := q x hx
        simp at this
    · omega
theorem sc_other {w : World} {a b : Addr} {v : Value} (h : a ≠ b) : (w.setCell a v).cell? b = w.cell? b := by
  apply World.cell?_setCell_other
  exact h

theorem rises_one {l : List Ob} (h : Rises l) {x y : Ob} (hx : x ∈ l) (hy : y ∈ l) (e : x.id = y.id) : x = y := by
  obtain ⟨i, hi, rfl⟩ := List.getElem_of_mem hx
  obtain ⟨j, hj, rfl⟩ := List.getElem_of_mem hy
  rcases Nat.lt_trichotomy i j with c | c | c
  · have := h.lt hi hj c; omega
  · subst c; rfl
  · have := h.lt hj hi c; omega
theorem kindAt_mem {l : List Ob} (h : Rises l) {x : Ob} (hx : x ∈ l) : kindAt l x.id = x.kind := by
  obtain ⟨i, hi, rfl⟩ := List.getElem_of_mem hx
  exact kindAt_at (placeI_rise h hi) hi
end
end Go.Proofs.YtehmlpkapjdhkaaGreatDoor
