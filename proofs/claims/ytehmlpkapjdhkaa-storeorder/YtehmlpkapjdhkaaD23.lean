import Derived.Test.YtehmlpkapjdhkaaD22
namespace Go.Proofs.Ytehmlpkapjdhkaa
open Go.RowKit

theorem eachE_iff {m : List Ob} : eachE m = 0 ↔ ∀ x ∈ m, x.err = 0 := by
  refine ⟨eachE_all, fun h => ?_⟩
  induction m with
  | nil => rfl
  | cons y m ih =>
    rw [eachE, if_neg (fun e => e (h y (by simp)))]
    exact ih (fun x hx => h x (by simp [hx]))

theorem addE_iff {l m : List Ob} : addE l m = 0 ↔ checkS l = 0 ∧ m.length ≤ 12 ∧ (∀ x ∈ m, x.err = 0) ∧ Agree (l ++ m) ∧ checkS (takeRes l m) = 0 := by
  constructor
  · intro h
    obtain ⟨h1, h2, h3, h4, h5⟩ := addE_zero h
    exact ⟨h1, h2, eachE_iff.1 h3, (takeErr_iff m (checkS_iff.1 h1).2.2).1 h4, h5⟩
  · rintro ⟨h1, h2, h3, h4, h5⟩
    have q := (takeErr_iff m (checkS_iff.1 h1).2.2).2 h4
    rw [addE, if_neg (fun e => e h1), if_neg (by omega), if_neg (fun e => e (eachE_iff.2 h3)), if_neg (fun e => e q)]
    exact h5

theorem takeRes_iff {l m : List Ob} (h : takeErr l m = 0) {x : Ob} : x ∈ takeRes l m ↔ x ∈ l ∨ x ∈ m :=
  ⟨takeRes_mem, fun q => q.elim takeRes_old (takeRes_new h x)⟩

/-- in whatever order objects come, the store is the same. -/
theorem takeRes_order {l m m' : List Ob} (hr : Rises l) (hm : ∀ x, x ∈ m ↔ x ∈ m') (h : Agree (l ++ m)) : takeRes l m = takeRes l m' := by
  have h' : Agree (l ++ m') := fun x hx y hy e => h x (by simpa [hm] using hx) y (by simpa [hm] using hy) e
  have q := (takeErr_iff m hr).2 h
  have q' := (takeErr_iff m' hr).2 h'
  exact rises_ext (takeRes_rises m hr) (takeRes_rises m' hr) (fun x => by rw [takeRes_iff q, takeRes_iff q', hm])

theorem add_turned {l m : List Ob} : (addE l m = 0 ↔ addE l m.reverse = 0) ∧ (addE l m = 0 → takeRes l m.reverse = takeRes l m) := by
  have key : ∀ {m m' : List Ob}, (∀ x, x ∈ m ↔ x ∈ m') → m.length = m'.length → addE l m = 0 → addE l m' = 0 ∧ takeRes l m' = takeRes l m := by
    intro m m' hm hl h
    obtain ⟨h1, h2, h3, h4, h5⟩ := addE_iff.1 h
    have e := takeRes_order (checkS_iff.1 h1).2.2 hm h4
    refine ⟨addE_iff.2 ⟨h1, by omega, fun x hx => h3 x ((hm x).2 hx), fun x hx y hy e => h4 x (by simpa [hm] using hx) y (by simpa [hm] using hy) e, by rw [← e]; exact h5⟩, e.symm⟩
  refine ⟨⟨fun h => (key (by simp) (by simp) h).1, fun h => ?_⟩, fun h => (key (by simp) (by simp) h).2⟩
  exact (key (m := m.reverse) (m' := m) (by simp) (by simp) h).1

/-- in two parts or one. -/
theorem add_parts {l m : List Ob} (n : Nat) (h : addE l m = 0) (h1 : addE l (m.take n) = 0) : addE (takeRes l (m.take n)) (m.drop n) = 0 ∧ takeRes (takeRes l (m.take n)) (m.drop n) = takeRes l m := by
  obtain ⟨a1, a2, a3, a4, a5⟩ := addE_iff.1 h
  obtain ⟨b1, b2, b3, b4, b5⟩ := addE_iff.1 h1
  have hr := (checkS_iff.1 a1).2.2
  have hrc := (checkS_iff.1 b5).2.2
  have q := (takeErr_iff m hr).2 a4
  have q1 := (takeErr_iff (m.take n) hr).2 b4
  have hin : ∀ x, x ∈ takeRes l (m.take n) ++ m.drop n → x ∈ l ++ m := fun x hx => by
    rcases List.mem_append.1 hx with c | c
    · rcases (takeRes_iff q1).1 c with c | c
      · simp [c]
      · simp [List.mem_of_mem_take c]
    · simp [List.mem_of_mem_drop c]
  have hA : Agree (takeRes l (m.take n) ++ m.drop n) := fun x hx y hy e => a4 x (hin x hx) y (hin y hy) e
  have q2 := (takeErr_iff (m.drop n) hrc).2 hA
  have e : takeRes (takeRes l (m.take n)) (m.drop n) = takeRes l m := by
    refine rises_ext (takeRes_rises _ hrc) (takeRes_rises m hr) (fun x => ?_)
    rw [takeRes_iff q2, takeRes_iff q, takeRes_iff q1]
    constructor
    · rintro ((c | c) | c)
      · exact .inl c
      · exact .inr (List.mem_of_mem_take c)
      · exact .inr (List.mem_of_mem_drop c)
    · rintro (c | c)
      · exact .inl (.inl c)
      · rw [← List.take_append_drop n m] at c
        rcases List.mem_append.1 c with c | c
        · exact .inl (.inr c)
        · exact .inr c
  exact ⟨addE_iff.2 ⟨b5, by rw [List.length_drop]; omega, fun x hx => a3 x (List.mem_of_mem_drop hx), hA, by rw [e]; exact a5⟩, e⟩
end Go.Proofs.Ytehmlpkapjdhkaa
