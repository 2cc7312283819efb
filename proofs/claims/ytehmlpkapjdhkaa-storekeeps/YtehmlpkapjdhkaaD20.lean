import Derived.Test.YtehmlpkapjdhkaaD17
namespace Go.Proofs.Ytehmlpkapjdhkaa
open Go.RowKit

theorem sameO_eq {x y : Ob} (h : sameO x.id x.kind x.links x.text y.id y.kind y.links y.text = true) : x = y := by
  obtain ⟨i, k, L, t⟩ := x
  obtain ⟨i', k', L', t'⟩ := y
  simp only [sameO, sameB, Bool.and_eq_true, decide_eq_true_eq] at h
  obtain ⟨⟨⟨h1, h2⟩, h3⟩, h4⟩ := h
  have h5 : t = t' := by
    rw [ByteArray.toList_eq, ByteArray.toList_eq] at h3
    obtain ⟨⟨a⟩⟩ := t
    obtain ⟨⟨b⟩⟩ := t'
    simp at h3
    rw [h3]
  rw [h1, h2, h4, h5]

theorem takeL_old {L : List Ob} {x y : Ob} (h : y ∈ L) : y ∈ takeL L x := by
  unfold takeL
  split
  · have := List.take_append_drop (belowN L x.id) L
    rw [← this] at h
    rcases List.mem_append.1 h with h | h
    · simp [h]
    · simp [h]
  · exact h
theorem takeL_mem {L : List Ob} {x y : Ob} (h : y ∈ takeL L x) : y ∈ L ∨ y = x := by
  unfold takeL at h
  split at h
  · simp only [List.mem_append, List.mem_singleton] at h
    rcases h with (h | h) | h
    · exact .inl (List.mem_of_mem_take h)
    · exact .inr h
    · exact .inl (List.mem_of_mem_drop h)
  · exact .inl h
theorem takeE_hit {L : List Ob} {x : Ob} {i : Nat} (hp : placeI L x.id = i) (hi : i < L.length) : takeE L x = hitE (sameO L[i].id L[i].kind L[i].links L[i].text x.id x.kind x.links x.text) := by
  unfold takeE
  rw [show (placeI L x.id).toNat = i by omega, List.getElem?_eq_getElem hi]
  simp only
  rw [if_neg (by omega)]
theorem takeL_new {L : List Ob} {x : Ob} (h : takeE L x = 0) : x ∈ takeL L x := by
  rcases placeI_cases L x.id with hp | ⟨i, hp, hi⟩
  · rw [takeL, if_pos hp]; simp
  · rw [takeE_hit hp hi] at h
    have hs : sameO L[i].id L[i].kind L[i].links L[i].text x.id x.kind x.links x.text = true := by
      cases hq : sameO L[i].id L[i].kind L[i].links L[i].text x.id x.kind x.links x.text with
      | true => rfl
      | false => rw [hq] at h; cases h
    exact takeL_old (by rw [← sameO_eq hs]; exact List.getElem_mem hi)

theorem takeRes_old {m : List Ob} : ∀ {L : List Ob} {y : Ob}, y ∈ L → y ∈ takeRes L m := by
  induction m with
  | nil => intro L y h; exact h
  | cons x m ih => intro L y h; exact ih (takeL_old h)
theorem takeRes_new {m : List Ob} : ∀ {L : List Ob}, takeErr L m = 0 → ∀ y ∈ m, y ∈ takeRes L m := by
  induction m with
  | nil => intro L _ y hy; cases hy
  | cons x m ih =>
    intro L h y hy
    rw [takeErr] at h
    split at h
    · rename_i h0; exact absurd h h0
    · rename_i h0
      have h0' : takeE L x = 0 := Classical.byContradiction h0
      rcases List.mem_cons.1 hy with rfl | hy
      · show y ∈ takeRes (takeL L y) m
        exact takeRes_old (takeL_new h0')
      · exact ih h y hy
theorem takeRes_mem {m : List Ob} : ∀ {L : List Ob} {y : Ob}, y ∈ takeRes L m → y ∈ L ∨ y ∈ m := by
  induction m with
  | nil => intro L y h; exact .inl h
  | cons x m ih =>
    intro L y h
    rcases ih h with h | h
    · rcases takeL_mem h with h | h
      · exact .inl h
      · exact .inr (by simp [h])
    · exact .inr (by simp [h])

/-- what is there already changes nothing. -/
theorem take_there {A : List Ob} (hr : Rises A) {x : Ob} (hx : x ∈ A) : takeE A x = 0 ∧ takeL A x = A := by
  obtain ⟨i, hi, rfl⟩ := List.getElem_of_mem hx
  have hp := placeI_rise hr hi
  rw [takeE_hit hp hi, same_same, takeL, if_neg (by omega)]
  exact ⟨rfl, rfl⟩
theorem takeAll_there {A : List Ob} (hr : Rises A) : ∀ m : List Ob, (∀ x ∈ m, x ∈ A) → takeErr A m = 0 ∧ takeRes A m = A := by
  intro m
  induction m with
  | nil => intro _; exact ⟨rfl, rfl⟩
  | cons x m ih =>
    intro h
    obtain ⟨h1, h2⟩ := take_there hr (h x (by simp))
    obtain ⟨h3, h4⟩ := ih (fun y hy => h y (by simp [hy]))
    rw [takeErr, takeRes, if_neg (fun e => e h1), h2]
    exact ⟨h3, h4⟩

theorem addE_zero {l m : List Ob} (h : addE l m = 0) : checkS l = 0 ∧ m.length ≤ 12 ∧ eachE m = 0 ∧ takeErr l m = 0 ∧ checkS (takeRes l m) = 0 := by
  unfold addE at h
  split at h
  · rename_i h0; exact absurd h h0
  split at h
  · omega
  split at h
  · rename_i h0; exact absurd h h0
  split at h
  · rename_i h0; exact absurd h h0
  rename_i h1 h2 h3 h4
  exact ⟨Classical.byContradiction h1, by omega, Classical.byContradiction h3, Classical.byContradiction h4, h⟩

/-- added again nothing is other. -/
theorem add_again {l m : List Ob} (h : addE l m = 0) : addE (takeRes l m) m = 0 ∧ takeRes (takeRes l m) m = takeRes l m := by
  obtain ⟨h1, h2, h3, h4, h5⟩ := addE_zero h
  have hr := (checkS_iff.1 h5).2.2
  obtain ⟨q1, q2⟩ := takeAll_there hr m (fun x hx => takeRes_new h4 x hx)
  refine ⟨?_, q2⟩
  rw [addE, if_neg (fun e => e h5), if_neg (by omega), if_neg (fun e => e h3), if_neg (fun e => e q1), q2]
  exact h5

/-- all that came is found, and what it links to. -/
theorem add_keeps {l m : List Ob} (h : addE l m = 0) {x : Ob} (hx : x ∈ l ++ m) : ∃ i, ∃ hi : i < (takeRes l m).length, (takeRes l m)[i] = x ∧ placeI (takeRes l m) x.id = i := by
  obtain ⟨_, _, _, h4, h5⟩ := addE_zero h
  have hm : x ∈ takeRes l m := by
    rcases List.mem_append.1 hx with q | q
    · exact takeRes_old q
    · exact takeRes_new h4 x q
  obtain ⟨i, hi, rfl⟩ := List.getElem_of_mem hm
  exact ⟨i, hi, rfl, placeI_rise (checkS_iff.1 h5).2.2 hi⟩
theorem store_links {A : List Ob} (h : checkS A = 0) {x : Ob} (hx : x ∈ A) {j : Nat} (hj : j < x.links.length) : ∃ i, i < A.length ∧ placeI A x.links[j] = (i : Nat) := by
  have hl := ((checkS_iff.1 h).2.1 x hx).2
  have := ((linkS_iff _ 0).1 hl j hj).1
  rcases placeI_cases A x.links[j] with c | ⟨i, c, hi⟩
  · omega
  · exact ⟨i, hi, c⟩
end Go.Proofs.Ytehmlpkapjdhkaa
