import Derived.Test.YtehmlpkapjdhkaaA11
namespace Go.Proofs.Ytehmlpkapjdhkaa
open Go.RowKit

abbrev tee : ByteArray := { data := #[116] }

set_option maxHeartbeats 400000 in
theorem obj_any (id kind : Int) (a : Option Addr) (n c : Nat) (w : World) :
    Calls Try.prog 33 #[.int .i64 id, .int .i64 kind, .slice a n c] w
      fun e w' => e = .returned (.agg #[.int .i64 id, .int .i64 kind, .slice a n c, .string tee]) ∧ Below w.heap.size w w' := by
  go_enter Try.func33, Try.ntmps33
  go_wp2
  refine bodyPost_ret (v := .agg #[.int .i64 id, .int .i64 kind, .slice a n c, .string tee]) (by simp [results, Try.results33, go_sem]) rfl ?_
  exact ⟨rfl, below_alloc _ _⟩

/-- the rows of a shelf. -/
def shelfCells (s2 s3 s4 s5 : Value) : Array Value := #[.int .i64 1, .int .i64 1, .slice none 0 0, .string tee, .int .i64 2, .int .i64 2, s2, .string tee, .int .i64 3, .int .i64 3, s3, .string tee, .int .i64 4, .int .i64 2, s4, .string tee, .int .i64 5, .int .i64 3, s5, .string tee]

set_option maxHeartbeats 400000 in
theorem shelf_any (w : World) :
    Calls Try.prog 17 #[] w fun e w' => ∃ g b2 b3 b4 b5, e = .returned (.slice (some ⟨g, 0, none⟩) 5 5) ∧ Below w.heap.size w w' ∧ w.heap.size ≤ g ∧ g < w'.heap.size ∧
      w'.heap[g]? = some (.cells (shelfCells (.slice (some ⟨b2, 0, none⟩) 1 1) (.slice (some ⟨b3, 0, none⟩) 1 1) (.slice (some ⟨b4, 0, none⟩) 2 2) (.slice (some ⟨b5, 0, none⟩) 2 2)) 28) ∧
      Holds w' (some ⟨b2, 0, none⟩) [1] ∧ Holds w' (some ⟨b3, 0, none⟩) [2] ∧ Holds w' (some ⟨b4, 0, none⟩) [1, 2] ∧ Holds w' (some ⟨b5, 0, none⟩) [4, 3] := by
  go_enter Try.func17, Try.ntmps17
  go_wp2_with fail
  refine (obj_any 1 1 none 0 0 _).mono ?_
  rintro e w1 ⟨rfl, hb1⟩
  go_wp2_with fail
  have k2 : Holds (w1.alloc (.cells #[.int .i64 1] 3)) (some ⟨w1.heap.size, 0, none⟩) [1] := holds_new w1 [1] 3 _ rfl
  have hB1 := hb1.alloc hb1.size (.cells #[.int .i64 1] 3)
  refine (obj_any 2 2 _ 1 1 _).mono ?_
  rintro e w2 ⟨rfl, hb2⟩
  have j2 := k2.below hb2
  have hB2 := hB1.trans (hb2.mono (by have := hb1.size; simp; omega))
  clear k2 hB1 hb2 hb1
  go_wp2_with fail
  have k3 : Holds (w2.alloc (.cells #[.int .i64 2] 3)) (some ⟨w2.heap.size, 0, none⟩) [2] := holds_new w2 [2] 3 _ rfl
  have hB3 := hB2.alloc hB2.size (.cells #[.int .i64 2] 3)
  have l2 := j2.below (below_alloc w2 (.cells #[.int .i64 2] 3))
  refine (obj_any 3 3 _ 1 1 _).mono ?_
  rintro e w3 ⟨rfl, hb3⟩
  have j3 := k3.below hb3
  have m2 := l2.below hb3
  have hB4 := hB3.trans (hb3.mono (by have := hB2.size; simp; omega))
  clear k3 hB3 hb3 l2 j2 hB2
  go_wp2_with fail
  have k4 : Holds (w3.alloc (.cells #[.int .i64 1, .int .i64 2] 3)) (some ⟨w3.heap.size, 0, none⟩) [1, 2] := holds_new w3 [1, 2] 3 _ rfl
  have hB5 := hB4.alloc hB4.size (.cells #[.int .i64 1, .int .i64 2] 3)
  have l2 := m2.below (below_alloc w3 (.cells #[.int .i64 1, .int .i64 2] 3))
  have l3 := j3.below (below_alloc w3 (.cells #[.int .i64 1, .int .i64 2] 3))
  refine (obj_any 4 2 _ 2 2 _).mono ?_
  rintro e w4 ⟨rfl, hb4⟩
  have n2 := l2.below hb4
  have n3 := l3.below hb4
  have n4 := k4.below hb4
  have hB6 := hB5.trans (hb4.mono (by have := hB4.size; simp; omega))
  clear k4 hB5 hb4 l2 l3 hB4 m2 j3
  go_wp2_with fail
  have k5 : Holds (w4.alloc (.cells #[.int .i64 4, .int .i64 3] 3)) (some ⟨w4.heap.size, 0, none⟩) [4, 3] := holds_new w4 [4, 3] 3 _ rfl
  have hB7 := hB6.alloc hB6.size (.cells #[.int .i64 4, .int .i64 3] 3)
  have l2 := n2.below (below_alloc w4 (.cells #[.int .i64 4, .int .i64 3] 3))
  have l3 := n3.below (below_alloc w4 (.cells #[.int .i64 4, .int .i64 3] 3))
  have l4 := n4.below (below_alloc w4 (.cells #[.int .i64 4, .int .i64 3] 3))
  refine (obj_any 5 3 _ 2 2 _).mono ?_
  rintro e w5 ⟨rfl, hb5⟩
  have p2 := l2.below hb5
  have p3 := l3.below hb5
  have p4 := l4.below hb5
  have p5 := k5.below hb5
  have hB8 := hB7.trans (hb5.mono (by have := hB6.size; simp; omega))
  clear k5 hB7 hb5 l2 l3 l4 hB6 n2 n3 n4
  have hs8 := hB8.size
  go_wp2
  go_ret
  exact ⟨w5.heap.size, w1.heap.size, w2.heap.size, w3.heap.size, w4.heap.size, rfl, hB8.alloc hs8 _, hs8, by simp, heap_alloc_new w5 _, p2.below (below_alloc _ _), p3.below (below_alloc _ _), p4.below (below_alloc _ _), p5.below (below_alloc _ _)⟩

theorem begins_unique {s : ByteArray} {i k i' k' : Int} {L T L' T' : List Int} (h : Begins s i k L T) (h' : Begins s i' k' L' T') : i = i' ∧ k = k' ∧ L = L' ∧ T = T' := by
  obtain ⟨r, e⟩ := h
  obtain ⟨r', e'⟩ := h'
  rw [e] at e'
  simp only [encN, List.append_assoc, List.cons_append, List.nil_append, List.cons.injEq] at e'
  obtain ⟨e0, e1, e2, e3⟩ := e'
  have hl : L.length = L'.length := by omega
  obtain ⟨eL, e4⟩ := List.append_inj e3 hl
  simp only [List.cons.injEq] at e4
  obtain ⟨e5, e6⟩ := e4
  have ht : T.length = T'.length := by omega
  exact ⟨e0, e1, eL, (List.append_inj e6 ht).1⟩

end Go.Proofs.Ytehmlpkapjdhkaa
