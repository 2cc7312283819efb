import Derived.Test.YtehmlpkapjdhkaaD15
namespace Go.Proofs.Ytehmlpkapjdhkaa
open Go.RowKit

theorem two_holds {g b2 : Nat} {w : World} (h1 : C4 g 0 o1 none 0 w) (h2 : C4 g 4 o2 (some ⟨b2, 0, none⟩) 1 w) : HoldsS w (some ⟨g, 0, none⟩) [o1, o2] := by
  intro i hi
  refine ⟨g, 0, rfl, h1.lt, fun j hj => ?_⟩
  match j, hj with
  | 0, _ => exact h1.at (by simp)
  | 1, _ => exact h2.at (by simp)

theorem four_holds {g x5 x3 x4 : Nat} {w : World} (hg : w.heap[g]? = some (.cells #[.int .i64 5, .int .i64 3, .slice (some ⟨x5, 0, none⟩) 2 2, .string tee, .int .i64 3, .int .i64 3, .slice (some ⟨x3, 0, none⟩) 1 1, .string tee, .int .i64 4, .int .i64 2, .slice (some ⟨x4, 0, none⟩) 2 2, .string tee, .int .i64 1, .int .i64 1, .slice none 0 0, .string tee] 28))
    (q5 : Holds w (some ⟨x5, 0, none⟩) [4, 3]) (q3 : Holds w (some ⟨x3, 0, none⟩) [2]) (q4 : Holds w (some ⟨x4, 0, none⟩) [1, 2]) : HoldsS w (some ⟨g, 0, none⟩) [o5, o3, o4, o1] := by
  intro i hi
  refine ⟨g, 0, rfl, heap_lt hg, fun j hj => ?_⟩
  match j, hj with
  | 0, _ => exact ⟨_, 2, by simp [World.cell?, hg], by simp [World.cell?, hg], by simp [World.cell?, hg], by simp [World.cell?, hg], q5, by simp⟩
  | 1, _ => exact ⟨_, 1, by simp [World.cell?, hg], by simp [World.cell?, hg], by simp [World.cell?, hg], by simp [World.cell?, hg], q3, by simp⟩
  | 2, _ => exact ⟨_, 2, by simp [World.cell?, hg], by simp [World.cell?, hg], by simp [World.cell?, hg], by simp [World.cell?, hg], q4, by simp⟩
  | 3, _ => exact ⟨none, 0, by simp [World.cell?, hg], by simp [World.cell?, hg], by simp [World.cell?, hg], by simp [World.cell?, hg], (by intro i hi; simp at hi), by simp⟩

theorem find_four (a : Option Addr) (c : Nat) (w : World) (h : HoldsS w a shelfL) : Calls Try.prog 9 #[.slice a shelfL.length c, .int .i64 4] w fun e w' => ∃ ta tc, e = .returned (.tuple #[.agg #[.int .i64 4, .int .i64 2, .slice ta 2 tc, .string tee], .int .i64 0]) ∧ Below w.heap.size w w' :=
  (find_ok a c shelfL 4 3 w h chk_shelf place_four (by decide)).mono (fun _ _ ⟨ta, tc, he, _, hb⟩ => ⟨ta, tc, he, hb⟩)
theorem six_holds {g b : Nat} {w : World} (hg : w.heap[g]? = some (.cells #[.int .i64 5, .int .i64 3, .slice (some ⟨b, 0, none⟩) 1 1, .string { data := #[] }] 28)) (q : Holds w (some ⟨b, 0, none⟩) [4]) : HoldsS w (some ⟨g, 0, none⟩) [o6] := by
  intro i hi
  refine ⟨g, 0, rfl, heap_lt hg, fun j hj => ?_⟩
  match j, hj with
  | 0, _ => exact ⟨_, 1, by simp [World.cell?, hg], by simp [World.cell?, hg], by simp [World.cell?, hg], by simp [World.cell?, hg], q, by simp⟩

end Go.Proofs.Ytehmlpkapjdhkaa
