import Derived.Test.YtbppoffhpmoplacDoorD13
namespace Go.Proofs.YtbppoffhpmoplacDoor
open Go.RowKit

/-- what Add answers. -/
def addE (l m : List Ob) : Int := if checkS l ≠ 0 then checkS l else if 12 < m.length then 2 else if eachE m ≠ 0 then eachE m else if takeErr l m ≠ 0 then takeErr l m else checkS (takeRes l m)

theorem err_links {x : Ob} (h : x.err = 0) : x.links.length ≤ 1000 := by
  have := (checkE_zero h).2.2.1
  omega
theorem eachE_all {m : List Ob} (h : eachE m = 0) : ∀ x ∈ m, x.err = 0 := by
  induction m with
  | nil => intro x hx; cases hx
  | cons y m ih =>
    rw [eachE] at h
    split at h
    · rename_i hy; exact absurd h hy
    · rename_i hy
      have hy' : y.err = 0 := Classical.byContradiction hy
      intro x hx
      rcases List.mem_cons.1 hx with rfl | hx
      · exact hy'
      · exact ih h x hx

theorem takeRes_length (m : List Ob) : ∀ L : List Ob, (takeRes L m).length ≤ L.length + m.length := by
  induction m with
  | nil => intro L; simp [takeRes]
  | cons x m ih =>
    intro L
    have h1 := ih (takeL L x)
    have h2 := takeL_length L x
    rw [takeRes, List.length_cons]; omega

/-- what Add hands back. -/
def AddPost (l m : List Ob) (w : World) (e : Ending) (w' : World) : Prop :=
  Below w.heap.size w w' ∧ ((addE l m ≠ 0 ∧ e = .returned (.tuple #[.slice none 0 0, .int .i64 (addE l m)])) ∨
    (addE l m = 0 ∧ ∃ a' c', e = .returned (.tuple #[.slice a' (takeRes l m).length c', .int .i64 0]) ∧ HoldsS w' a' (takeRes l m) ∧ (takeRes l m).length ≤ c'))

theorem AddPost.bad {l m : List Ob} {w w' : World} {r : Int} (hr : addE l m = r) (h0 : r ≠ 0) (hb : Below w.heap.size w w') : AddPost l m w (.returned (.tuple #[.slice none 0 0, .int .i64 r])) w' :=
  ⟨hb, .inl ⟨by rw [hr]; exact h0, by rw [hr]⟩⟩

end Go.Proofs.YtbppoffhpmoplacDoor
