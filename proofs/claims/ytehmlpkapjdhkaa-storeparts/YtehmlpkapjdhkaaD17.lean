import Derived.Test.YtehmlpkapjdhkaaD16
namespace Go.Proofs.Ytehmlpkapjdhkaa
open Go.RowKit

/-- ids rise. -/
def Rises (l : List Ob) : Prop := l.Pairwise (fun x y => x.id < y.id)

theorem eachC_iff {l : List Ob} (m : List Ob) : ∀ last : Int, eachC l last m = 0 ↔ (∀ x ∈ m, x.err = 0 ∧ last < x.id ∧ linkS l x.kind 0 x.links = 0) ∧ Rises m := by
  induction m with
  | nil => intro last; simp [eachC, Rises]
  | cons y ys ih =>
    intro last
    constructor
    · intro h
      refine ⟨eachC_all _ _ h, ?_⟩
      rw [eachC] at h
      split at h
      · omega
      · obtain ⟨h1, h2⟩ := (ih y.id).1 h
        exact List.pairwise_cons.2 ⟨fun x hx => (h1 x hx).2.1, h2⟩
    · rintro ⟨h1, h2⟩
      obtain ⟨hy, hr⟩ := List.pairwise_cons.1 h2
      obtain ⟨e1, e2, e3⟩ := h1 y (by simp)
      have hc : chk1 l last y = 0 := by rw [chk1, if_neg (fun e => e e1), if_neg (by omega), e3]
      rw [eachC, if_neg (fun e => e hc), ih]
      exact ⟨fun x hx => ⟨(h1 x (by simp [hx])).1, hy x hx, (h1 x (by simp [hx])).2.2⟩, hr⟩

theorem checkS_iff {l : List Ob} : checkS l = 0 ↔ l.length ≤ 40 ∧ (∀ x ∈ l, x.err = 0 ∧ linkS l x.kind 0 x.links = 0) ∧ Rises l := by
  unfold checkS
  split
  · constructor
    · intro h; omega
    · intro h; omega
  · rw [eachC_iff]
    constructor
    · rintro ⟨h1, h2⟩
      exact ⟨by omega, fun x hx => ⟨(h1 x hx).1, (h1 x hx).2.2⟩, h2⟩
    · rintro ⟨_, h1, h2⟩
      exact ⟨fun x hx => ⟨(h1 x hx).1, by have := (checkE_zero (h1 x hx).1).1; omega, (h1 x hx).2⟩, h2⟩

theorem Rises.lt {l : List Ob} (h : Rises l) {i j : Nat} (hi : i < l.length) (hj : j < l.length) (hij : i < j) : l[i].id < l[j].id := List.pairwise_iff_getElem.1 h i j hi hj hij
theorem Rises.of_lt {l : List Ob} (h : Rises l) {i j : Nat} (hi : i < l.length) (hj : j < l.length) (hid : l[i].id < l[j].id) : i < j := by
  rcases Nat.lt_trichotomy i j with c | c | c
  · exact c
  · subst c; omega
  · have := h.lt hj hi c; omega
theorem Rises.take {l : List Ob} (h : Rises l) (n : Nat) : Rises (l.take n) := h.sublist (List.take_sublist n l)

theorem placeI_get {l : List Ob} {x : Int} {i : Nat} (h : placeI l x = i) : ∃ hi : i < l.length, l[i].id = x := by
  unfold placeI at h
  split at h
  · rename_i k hk
    rw [List.findIdx?_eq_some_iff_getElem] at hk
    obtain ⟨hk', hid, _⟩ := hk
    have : k = i := by omega
    subst this
    exact ⟨hk', by simpa using hid⟩
  · omega
theorem placeI_rise {l : List Ob} (h : Rises l) {i : Nat} (hi : i < l.length) : placeI l l[i].id = i :=
  findIdx_hit hi (fun j hj hji => by have := h.lt hj hi hji; simp; omega) (by simp)
theorem placeI_take {l : List Ob} (h : Rises l) {n i : Nat} (hi : i < l.length) (hn : i < n) : placeI (l.take n) l[i].id = i := by
  have hi' : i < (l.take n).length := by rw [List.length_take]; omega
  have := placeI_rise (h.take n) hi'
  rwa [List.getElem_take] at this
theorem placeI_past {l : List Ob} (h : Rises l) {n i : Nat} (hi : i < l.length) (hn : n ≤ i) : placeI (l.take n) l[i].id = -1 :=
  findIdx_miss (fun j hj => by
    rw [List.length_take] at hj
    rw [List.getElem_take]
    have := h.lt (by omega) hi (show j < i by omega)
    simp; omega)

theorem linkS_iff {l : List Ob} {kind : Int} (L : List Int) : ∀ i : Nat, linkS l kind i L = 0 ↔ ∀ j (h : j < L.length), 0 ≤ placeI l L[j] ∧ mayB kind ((i + j : Nat) : Int) (kindAt l L[j]) = true := by
  induction L with
  | nil => intro i; simp [linkS]
  | cons x xs ih =>
    intro i
    rw [linkS]
    constructor
    · intro h j hj
      split at h
      · omega
      split at h
      · omega
      rename_i h1 h2
      match j, hj with
      | 0, _ => exact ⟨by simpa using h1, by simpa using h2⟩
      | j + 1, hj =>
        have := (ih (i + 1)).1 h j (by simpa using hj)
        rw [show i + (j + 1) = i + 1 + j by omega]
        simpa using this
    · intro h
      have h0 := h 0 (by simp)
      simp only [List.getElem_cons_zero, Nat.add_zero] at h0
      rw [if_neg (by omega), if_neg (by rw [h0.2]; simp), ih]
      intro j hj
      have := h (j + 1) (by simpa using hj)
      rw [show i + (j + 1) = i + 1 + j by omega] at this
      simpa using this

theorem kindAt_at {l : List Ob} {x : Int} {i : Nat} (h : placeI l x = i) (hi : i < l.length) : kindAt l x = l[i].kind := by
  unfold kindAt
  rw [show (placeI l x).toNat = i by omega, List.getElem?_eq_getElem hi]

/-- each beginning of a store is one. -/
theorem checkS_take {l : List Ob} (h : checkS l = 0) (n : Nat) : checkS (l.take n) = 0 := by
  obtain ⟨h1, h2, h3⟩ := checkS_iff.1 h
  refine checkS_iff.2 ⟨by rw [List.length_take]; omega, fun x hx => ?_, h3.take n⟩
  obtain ⟨k, hk, rfl⟩ := List.getElem_of_mem hx
  rw [List.length_take] at hk
  rw [List.getElem_take]
  obtain ⟨e1, e2⟩ := h2 l[k] (List.getElem_mem _)
  refine ⟨e1, (linkS_iff _ 0).2 fun j hj => ?_⟩
  obtain ⟨q1, q2⟩ := (linkS_iff _ 0).1 e2 j hj
  have hlt := (linksE_mem _ 0 0 (checkE_zero e1).2.2.2.2.1 _ (List.getElem_mem hj)).2
  rcases placeI_cases l l[k].links[j] with c | ⟨i, c, hi⟩
  · omega
  obtain ⟨_, hid⟩ := placeI_get c
  have hik : i < k := h3.of_lt hi (by omega) (by rw [hid]; exact hlt)
  have hp := placeI_take h3 hi (show i < n by omega)
  rw [hid] at hp
  refine ⟨by omega, ?_⟩
  rw [kindAt_at c hi] at q2
  rw [kindAt_at hp (by rw [List.length_take]; omega), List.getElem_take]
  exact q2
end Go.Proofs.Ytehmlpkapjdhkaa
