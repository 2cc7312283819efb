import Derived.Test.YtehmlpkapjdhkaaD14
namespace Go.Proofs.Ytehmlpkapjdhkaa
open Go.RowKit

theorem wpAnyE.mono {P : Program} {ops : Array Oper} {Q : Exit → Act → World → Prop} {md : Region.Mode} {S S' : World → Prop} {ex : Nat → Bool} (hS : ∀ w, S' w → S w) :
    ∀ {n : Nat} {l : Array Bool} {a : Act} {w : World}, wpAnyE P md ops Q S' ex n l a w → wpAnyE P md ops Q S ex n l a w
  | 0, _, _, _, h => h
  | _ + 1, _, _, _, h => ⟨h.1, fun k hk => wpOp_mono (fun _ _ h' => ⟨fun e => hS _ (h'.1 e), wpAnyE.mono hS h'.2⟩) (h.2 k hk)⟩

abbrev o1 : Ob := ⟨1, 1, [], tee⟩
abbrev o2 : Ob := ⟨2, 2, [1], tee⟩
abbrev o3 : Ob := ⟨3, 3, [2], tee⟩
abbrev o4 : Ob := ⟨4, 2, [1, 2], tee⟩
abbrev o5 : Ob := ⟨5, 3, [4, 3], tee⟩
abbrev o6 : Ob := ⟨5, 3, [4], { data := #[] }⟩
def shelfL : List Ob := [o1, o2, o3, o4, o5]

/-- an object's four cells, and where its links lie. -/
structure C4 (g o : Nat) (x : Ob) (sa : Option Addr) (sc : Nat) (w : World) : Prop where
  lt : g < w.heap.size
  c0 : w.cell? ⟨g, o, none⟩ = some (.int .i64 x.id)
  c1 : w.cell? ⟨g, o + 1, none⟩ = some (.int .i64 x.kind)
  c2 : w.cell? ⟨g, o + 2, none⟩ = some (.slice sa x.links.length sc)
  c3 : w.cell? ⟨g, o + 3, none⟩ = some (.string x.text)
  holds : Holds w sa x.links
theorem C4.below {g o : Nat} {x : Ob} {sa : Option Addr} {sc : Nat} {w w' : World} (h : C4 g o x sa sc w) (hb : Below w.heap.size w w') : C4 g o x sa sc w' :=
  ⟨Nat.lt_of_lt_of_le h.lt hb.size, (hb.cell (p := ⟨g, o, none⟩) h.lt).trans h.c0, (hb.cell (p := ⟨g, o + 1, none⟩) h.lt).trans h.c1, (hb.cell (p := ⟨g, o + 2, none⟩) h.lt).trans h.c2, (hb.cell (p := ⟨g, o + 3, none⟩) h.lt).trans h.c3, h.holds.below hb⟩
theorem C4.at {g o : Nat} {x : Ob} {sa : Option Addr} {sc : Nat} {w : World} (h : C4 g o x sa sc w) (hl : x.links.length ≤ 9223372036854775807) : ObAt w g o x := ⟨sa, sc, h.c0, h.c1, h.c2, h.c3, h.holds, hl⟩

/-- the shelf of the statements' begin. -/
theorem shelf_five (w : World) : Calls Try.prog 17 #[] w fun e w' => ∃ g b2 b3 b4 b5, e = .returned (.slice (some ⟨g, 0, none⟩) 5 5) ∧ Below w.heap.size w w' ∧
    C4 g 0 o1 none 0 w' ∧ C4 g 4 o2 (some ⟨b2, 0, none⟩) 1 w' ∧ C4 g 8 o3 (some ⟨b3, 0, none⟩) 1 w' ∧ C4 g 12 o4 (some ⟨b4, 0, none⟩) 2 w' ∧ C4 g 16 o5 (some ⟨b5, 0, none⟩) 2 w' := by
  refine (shelf_any w).mono ?_
  rintro e w' ⟨g, b2, b3, b4, b5, rfl, hB, _, hlt, hg, q2, q3, q4, q5⟩
  refine ⟨g, b2, b3, b4, b5, rfl, hB, ?_, ?_, ?_, ?_, ?_⟩
  · constructor <;> first | exact hlt | (simp [World.cell?, hg, shelfCells]; done) | (intro i hi; simp at hi)
  · constructor <;> first | exact hlt | (simp [World.cell?, hg, shelfCells]; done) | exact q2
  · constructor <;> first | exact hlt | (simp [World.cell?, hg, shelfCells]; done) | exact q3
  · constructor <;> first | exact hlt | (simp [World.cell?, hg, shelfCells]; done) | exact q4
  · constructor <;> first | exact hlt | (simp [World.cell?, hg, shelfCells]; done) | exact q5

theorem five_holds {g b2 b3 b4 b5 : Nat} {w : World} (h1 : C4 g 0 o1 none 0 w) (h2 : C4 g 4 o2 (some ⟨b2, 0, none⟩) 1 w) (h3 : C4 g 8 o3 (some ⟨b3, 0, none⟩) 1 w) (h4 : C4 g 12 o4 (some ⟨b4, 0, none⟩) 2 w) (h5 : C4 g 16 o5 (some ⟨b5, 0, none⟩) 2 w) : HoldsS w (some ⟨g, 0, none⟩) shelfL := by
  intro i hi
  refine ⟨g, 0, rfl, h1.lt, fun j hj => ?_⟩
  match j, hj with
  | 0, _ => exact h1.at (by simp)
  | 1, _ => exact h2.at (by simp)
  | 2, _ => exact h3.at (by simp)
  | 3, _ => exact h4.at (by simp)
  | 4, _ => exact h5.at (by simp)

theorem shelf_holds (w : World) : Calls Try.prog 17 #[] w fun e w' => ∃ g, e = .returned (.slice (some ⟨g, 0, none⟩) 5 5) ∧ Below w.heap.size w w' ∧ HoldsS w' (some ⟨g, 0, none⟩) shelfL := by
  refine (shelf_five w).mono ?_
  rintro e w' ⟨g, b2, b3, b4, b5, rfl, hB, h1, h2, h3, h4, h5⟩
  exact ⟨g, rfl, hB, five_holds h1 h2 h3 h4 h5⟩

theorem same_same (x : Ob) : sameO x.id x.kind x.links x.text x.id x.kind x.links x.text = true := sameO_refl _ _ _ _
theorem chk_shelf : checkS shelfL = 0 := by decide
theorem chk_two : checkS [o1, o2] = 0 := by decide
theorem each_four : eachE [o5, o3, o4, o1] = 0 := by decide
theorem take_four_res : takeRes [o1, o2] [o5, o3, o4, o1] = shelfL := by rfl
theorem take_four_err : takeErr [o1, o2] [o5, o3, o4, o1] = 0 := by
  have h1 : takeE [o1, o2] o5 = 0 := by rfl
  have h2 : takeE (takeL [o1, o2] o5) o3 = 0 := by rfl
  have h3 : takeE (takeL (takeL [o1, o2] o5) o3) o4 = 0 := by rfl
  have h4 : takeE (takeL (takeL (takeL [o1, o2] o5) o3) o4) o1 = hitE (sameO o1.id o1.kind o1.links o1.text o1.id o1.kind o1.links o1.text) := by rfl
  rw [same_same] at h4
  rw [takeErr, if_neg (fun e => e h1), takeErr, if_neg (fun e => e h2), takeErr, if_neg (fun e => e h3), takeErr, if_neg (fun e => e h4)]
  rfl
theorem add_four : addE [o1, o2] [o5, o3, o4, o1] = 0 := by
  rw [addE, if_neg (fun e => e chk_two), if_neg (by decide), if_neg (fun e => e each_four), if_neg (fun e => e take_four_err), take_four_res]
  exact chk_shelf
theorem add_six : addE shelfL [o6] = 6 := by
  have h1 : takeE shelfL o6 = hitE (sameO o5.id o5.kind o5.links o5.text o6.id o6.kind o6.links o6.text) := by rfl
  have h2 : sameO o5.id o5.kind o5.links o5.text o6.id o6.kind o6.links o6.text = false := by simp [sameO, sameB]
  rw [h2] at h1
  have h3 : takeErr shelfL [o6] = 6 := by
    rw [takeErr, h1]; rfl
  have h4 : eachE [o6] = 0 := by decide
  rw [addE, if_neg (fun e => e chk_shelf), if_neg (by decide), if_neg (fun e => e h4), if_pos (by rw [h3]; decide), h3]
theorem place_four : placeI shelfL 4 = ((3 : Nat) : Int) := by rfl
theorem place_nine : placeI shelfL 9 = -1 := by rfl
end Go.Proofs.Ytehmlpkapjdhkaa
