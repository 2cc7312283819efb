import Derived.Test.YtehmlpkapjdhkaaD20
namespace Go.Proofs.Ytehmlpkapjdhkaa
open Go.RowKit

theorem rises_before {L : List Ob} (hr : Rises L) (id : Int) : ∀ k (hk : k < L.length), k < belowN L id ↔ L[k].id < id := by
  induction L with
  | nil => intro k hk; simp at hk
  | cons y L ih =>
    obtain ⟨hy, hr'⟩ := List.pairwise_cons.1 hr
    intro k hk
    by_cases c : y.id < id
    · have hb : belowN (y :: L) id = belowN L id + 1 := by simp [belowN, c]
      rw [hb]
      match k, hk with
      | 0, _ => simp [c]
      | k + 1, hk =>
        have := ih hr' k (by simpa using hk)
        simp only [List.getElem_cons_succ]
        omega
    · have hz : belowN L id = 0 := by
        simp only [belowN, List.length_eq_zero_iff, List.filter_eq_nil_iff, decide_eq_true_eq]
        intro z hz
        have := hy z hz
        omega
      have hb : belowN (y :: L) id = 0 := by
        have : belowN (y :: L) id = belowN L id := by simp [belowN, c]
        omega
      rw [hb]
      match k, hk with
      | 0, _ => simp [c]
      | k + 1, hk =>
        have hk' : k < L.length := by simpa using hk
        have := hy L[k] (List.getElem_mem hk')
        simp only [List.getElem_cons_succ]
        omega

theorem takeL_rises {L : List Ob} (hr : Rises L) (x : Ob) : Rises (takeL L x) := by
  unfold takeL
  split
  · rename_i hp
    have hno : ∀ k (hk : k < L.length), L[k].id ≠ x.id := fun k hk e => by
      have := placeI_rise hr hk
      rw [e] at this; omega
    have hs : L = L.take (belowN L x.id) ++ L.drop (belowN L x.id) := (List.take_append_drop _ _).symm
    have h0 : Rises (L.take (belowN L x.id) ++ L.drop (belowN L x.id)) := by rw [← hs]; exact hr
    obtain ⟨h1, h2, h3⟩ := List.pairwise_append.1 h0
    have hle := belowN_le L x.id
    rw [List.append_assoc]
    refine List.pairwise_append.2 ⟨h1, List.pairwise_append.2 ⟨by simp, h2, ?_⟩, ?_⟩
    · intro a ha b hb
      obtain rfl := List.mem_singleton.1 ha
      obtain ⟨j, hj, rfl⟩ := List.getElem_of_mem hb
      rw [List.length_drop] at hj
      rw [List.getElem_drop]
      have q1 := (rises_before hr a.id (belowN L a.id + j) (by omega))
      have q2 := hno (belowN L a.id + j) (by omega)
      omega
    · intro a ha b hb
      rcases List.mem_append.1 hb with hb | hb
      · obtain rfl := List.mem_singleton.1 hb
        obtain ⟨j, hj, rfl⟩ := List.getElem_of_mem ha
        rw [List.length_take] at hj
        rw [List.getElem_take]
        exact (rises_before hr b.id j (by omega)).1 (by omega)
      · exact h3 a ha b hb
  · exact hr
theorem takeRes_rises (m : List Ob) : ∀ {L : List Ob}, Rises L → Rises (takeRes L m) := by
  induction m with
  | nil => intro L h; exact h
  | cons x m ih => intro L h; exact ih (takeL_rises h x)

/-- rising lists of the same objects are the same. -/
theorem rises_ext : ∀ {A B : List Ob}, Rises A → Rises B → (∀ x, x ∈ A ↔ x ∈ B) → A = B := by
  intro A
  induction A with
  | nil =>
    intro B _ _ h
    cases B with
    | nil => rfl
    | cons y B => have := (h y).2 (by simp); cases this
  | cons x A ih =>
    intro B ha hb h
    cases B with
    | nil => have := (h x).1 (by simp); cases this
    | cons y B =>
      obtain ⟨hx, ha'⟩ := List.pairwise_cons.1 ha
      obtain ⟨hy, hb'⟩ := List.pairwise_cons.1 hb
      have hxy : x = y := by
        rcases List.mem_cons.1 ((h x).1 (by simp)) with e | e
        · exact e
        · rcases List.mem_cons.1 ((h y).2 (by simp)) with e' | e'
          · exact e'.symm
          · have q1 := hy x e; have q2 := hx y e'; omega
      subst hxy
      congr 1
      refine ih ha' hb' fun z => ⟨fun hz => ?_, fun hz => ?_⟩
      · rcases List.mem_cons.1 ((h z).1 (by simp [hz])) with e | e
        · subst e; have := hx z hz; omega
        · exact e
      · rcases List.mem_cons.1 ((h z).2 (by simp [hz])) with e | e
        · subst e; have := hy z hz; omega
        · exact e

/-- takes go through just where no two have one id and are not the same. -/
def Agree (l : List Ob) : Prop := ∀ x ∈ l, ∀ y ∈ l, x.id = y.id → x = y
theorem takeErr_iff (m : List Ob) : ∀ {L : List Ob}, Rises L → (takeErr L m = 0 ↔ Agree (L ++ m)) := by
  induction m with
  | nil =>
    intro L hr
    simp only [takeErr, List.append_nil, true_iff]
    intro x hx y hy e
    obtain ⟨i, hi, rfl⟩ := List.getElem_of_mem hx
    obtain ⟨j, hj, rfl⟩ := List.getElem_of_mem hy
    have h1 := placeI_rise hr hi
    have h2 := placeI_rise hr hj
    rw [e] at h1
    have : i = j := by omega
    subst this; rfl
  | cons z m ih =>
    intro L hr
    rw [takeErr]
    constructor
    · intro h
      split at h
      · rename_i h0; exact absurd h h0
      · rename_i h0
        have h0' : takeE L z = 0 := Classical.byContradiction h0
        have hA := (ih (takeL_rises hr z)).1 h
        have hin : ∀ x ∈ L ++ z :: m, x ∈ takeL L z ++ m := fun x hx => by
          simp only [List.mem_append, List.mem_cons] at hx ⊢
          rcases hx with hx | rfl | hx
          · exact .inl (takeL_old hx)
          · exact .inl (takeL_new h0')
          · exact .inr hx
        exact fun x hx y hy e => hA x (hin x hx) y (hin y hy) e
    · intro h
      have h0 : takeE L z = 0 := by
        rcases placeI_cases L z.id with hp | ⟨i, hp, hi⟩
        · unfold takeE
          split
          · rw [if_pos hp]
          · rfl
        · obtain ⟨_, hid⟩ := placeI_get hp
          have := h L[i] (by simp) z (by simp) hid
          rw [takeE_hit hp hi, this, same_same]; rfl
      rw [if_neg (fun e => e h0), ih (takeL_rises hr z)]
      have hin : ∀ x ∈ takeL L z ++ m, x ∈ L ++ z :: m := fun x hx => by
        simp only [List.mem_append, List.mem_cons] at hx ⊢
        rcases hx with hx | hx
        · rcases takeL_mem hx with hx | hx
          · exact .inl hx
          · exact .inr (.inl hx)
        · exact .inr (.inr hx)
      exact fun x hx y hy e => h x (hin x hx) y (hin y hy) e
end Go.Proofs.Ytehmlpkapjdhkaa
