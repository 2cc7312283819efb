import Derived.Test.YtehmlpkapjdhkaaGreatDoorMG
import Derived.Test.YtehmlpkapjdhkaaGreatDoorML4
namespace Go.Proofs.YtehmlpkapjdhkaaGreatDoor
section
open Go.RowKit
set_option maxRecDepth 100000

/-! What another store has not. -/
def missL (a b : List Ob) : List Ob := a.filter (fun o => decide (placeI b o.id < 0))
def dupE (b : List Ob) : List Ob → Int
  | [] => 0
  | o :: r => if takeE b o ≠ 0 then takeE b o else dupE b r
/-- what diff.Objects answers: its error. -/
def diffE (a b : List Ob) : Int := if checkS a ≠ 0 then checkS a else if checkS b ≠ 0 then checkS b else dupE b a
theorem takeE_zero {b : List Ob} (hr : Rises b) {o : Ob} : takeE b o = 0 ↔ ∀ y ∈ b, y.id = o.id → y = o := by
  rcases placeI_cases b o.id with c | ⟨i, c, hi⟩
  · have h0 : takeE b o = 0 := by
      unfold takeE
      rw [c]
      split
      · rw [if_pos rfl]
      · rfl
    refine ⟨fun _ y hy e => ?_, fun _ => h0⟩
    have := place_mem.2 ⟨y, hy, e⟩
    omega
  · rw [takeE_hit c hi]
    obtain ⟨_, hid⟩ := placeI_get c
    constructor
    · intro h y hy e
      have : b[i] = o := by
        cases hs : sameO b[i].id b[i].kind b[i].links b[i].text o.id o.kind o.links o.text with
        | true => exact sameO_eq hs
        | false => rw [hs] at h; cases h
      rw [← this]
      exact rises_one hr hy (List.getElem_mem hi) (by rw [e, hid])
    · intro h
      rw [h b[i] (List.getElem_mem hi) hid, sameO_refl]; rfl
theorem missL_length (a b : List Ob) : (missL a b).length ≤ a.length := List.length_filter_le _ _
end

section
open Go.RowKit
set_option maxRecDepth 100000

/-! Repair of a replica. -/
/-! Replicas put in the place of others. -/
/-! Repair of all. -/
end
end Go.Proofs.YtehmlpkapjdhkaaGreatDoor
