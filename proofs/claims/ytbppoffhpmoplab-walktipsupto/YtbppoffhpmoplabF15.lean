import Derived.Test.YtbppoffhpmoplabF14
namespace Go.Proofs.Ytbppoffhpmoplab
open Go.RowKit

set_option maxHeartbeats 400000 in
theorem objectAt_any (a : Option Addr) (c : Nat) (l : List Ob) (id : Int) (w : World) (h : HoldsS w a l) (hl : l.length ≤ 9223372036854775807) :
    Calls Try.prog 26 #[.slice a l.length c, .int .i64 id] w fun e w' => e = .returned (.int .i64 (placeI l id)) ∧ Below w.heap.size w w' := by
  go_enter Try.func26, Try.ntmps26
  go_wp2
  go_loopw [5] (fun i wr => ∃ k : Nat, i = .int .i64 k ∧ k ≤ l.length ∧ Below w.heap.size w wr ∧ Hid (∀ j (hj : j < l.length), j < k → (l[j].id == id) = false)) (fun i _ => l.length - (intOf i).toNat)
  case atStart => exact ⟨0, rfl, Nat.zero_le _, Below.refl _ _, fun j _ h => absurd h (Nat.not_lt_zero j)⟩
  case round =>
    obtain ⟨k, rfl, hk, hB, H⟩ := hrel
    by_cases hkl : k < l.length
    · obtain ⟨b, off, rfl, hb, hc⟩ := (h.below hB) k hkl
      obtain ⟨sa, sc, x0, x1, x2, x3, x4, x5⟩ := hc k hkl
      clear hc
      by_cases hq : l[k].id = id
      · have HR : Hid (placeI l id = k) := findIdx_hit hkl H.out (by simpa using hq)
        have hq' : (l[k].id == id) = true := by simpa using hq
        clear hq
        go_wp2
        go_ret
        exact ⟨ret_int HR.out.symm, hB⟩
      · have hq' : (l[k].id == id) = false := by simpa using hq
        have HN : Hid (∀ j (hj : j < l.length), j < k + 1 → (l[j].id == id) = false) := fun j hj hjk => by
          rcases Nat.lt_or_ge j k with h1 | h1
          · exact H.out j hj h1
          · have : j = k := by omega
            subst this
            exact hq'
        clear hq
        go_wp2
        go_roundw
        case rel => exact ⟨k + 1, by go_num, by omega, hB, HN⟩
        case measure => simp [intOf]; omega
    · have HR : Hid (placeI l id = -1) := findIdx_miss (fun j hj => H.out j hj (by omega))
      go_wp2
      go_ret
      exact ⟨ret_int HR.out.symm, hB⟩

theorem reachE_zero {l : List Ob} {ids : List Int} (h : reachE l ids = 0) : checkS l = 0 ∧ ∀ i ∈ ids, ∃ x ∈ l, x.id = i := by
  unfold reachE at h
  split at h
  · rename_i q; exact absurd h q
  · rename_i q; exact ⟨Classical.byContradiction q, thereE_iff.1 h⟩
theorem reachE_mk {l : List Ob} {ids : List Int} (h1 : checkS l = 0) (h2 : ∀ i ∈ ids, ∃ x ∈ l, x.id = i) : reachE l ids = 0 := by
  rw [reachE, if_neg (fun e => e h1)]
  exact thereE_iff.2 h2
theorem links_less {l : List Ob} (h : checkS l = 0) : ∀ x ∈ l, ∀ y ∈ x.links, y < x.id := fun x hx y hy => (right_links h x hx y hy).2
theorem reachL_closed {l : List Ob} (h : checkS l = 0) (ids : List Int) : ∀ x ∈ l, x.id ∈ reachL l ids → ∀ y ∈ x.links, y ∈ reachL l ids := reachBy_closed (checkS_iff.1 h).2.2 (links_less h)
theorem partL_mem {l : List Ob} {ids : List Int} {x : Ob} : x ∈ partL l ids ↔ x ∈ l ∧ x.id ∈ reachL l ids := by
  unfold partL
  rw [List.mem_filter]
  simp
/-- what is reached is there. -/
theorem reachL_there {l : List Ob} {ids : List Int} (h : reachE l ids = 0) : ∀ i ∈ reachL l ids, ∃ x ∈ l, x.id = i := by
  obtain ⟨h1, h2⟩ := reachE_zero h
  exact reachBy_min (fun i => ∃ x ∈ l, x.id = i) h2 (fun x hx _ y hy => right_there h1 x hx y hy)
theorem rises_one {l : List Ob} (h : Rises l) {x y : Ob} (hx : x ∈ l) (hy : y ∈ l) (e : x.id = y.id) : x = y := by
  obtain ⟨i, hi, rfl⟩ := List.getElem_of_mem hx
  obtain ⟨j, hj, rfl⟩ := List.getElem_of_mem hy
  rcases Nat.lt_trichotomy i j with c | c | c
  · have := h.lt hi hj c; omega
  · subst c; rfl
  · have := h.lt hj hi c; omega
theorem kindAt_mem {l : List Ob} (h : Rises l) {x : Ob} (hx : x ∈ l) : kindAt l x.id = x.kind := by
  obtain ⟨i, hi, rfl⟩ := List.getElem_of_mem hx
  exact kindAt_at (placeI_rise h hi) hi

/-- a part is a store by itself. -/
theorem partL_right {l : List Ob} {ids : List Int} (h : reachE l ids = 0) : checkS (partL l ids) = 0 := by
  obtain ⟨h1, h2⟩ := reachE_zero h
  obtain ⟨q1, q2, q3⟩ := checkS_iff.1 h1
  have hr : Rises (partL l ids) := q3.sublist List.filter_sublist
  refine checkS_iff.2 ⟨Nat.le_trans (partL_length l ids) q1, fun x hx => ?_, hr⟩
  obtain ⟨hxl, hxr⟩ := partL_mem.1 hx
  obtain ⟨e1, e2⟩ := q2 x hxl
  refine ⟨e1, (linkS_iff _ 0).2 fun j hj => ?_⟩
  obtain ⟨p1, p2⟩ := (linkS_iff _ 0).1 e2 j hj
  obtain ⟨z, hz, ez⟩ := place_mem.1 p1
  have hzr : z ∈ partL l ids := partL_mem.2 ⟨hz, by rw [ez]; exact reachL_closed h1 ids x hxl hxr _ (List.getElem_mem hj)⟩
  refine ⟨place_mem.2 ⟨z, hzr, ez⟩, ?_⟩
  rw [← ez] at p2 ⊢
  rw [kindAt_mem q3 hz] at p2
  rw [kindAt_mem hr hzr]
  exact p2

/-- walked again it is all of it. -/
theorem partL_again {l : List Ob} {ids : List Int} (h : reachE l ids = 0) : reachE (partL l ids) ids = 0 ∧ partL (partL l ids) ids = partL l ids := by
  obtain ⟨h1, h2⟩ := reachE_zero h
  have hp := partL_right h
  have hthere : ∀ i ∈ ids, ∃ x ∈ partL l ids, x.id = i := fun i hi => by
    obtain ⟨x, hx, e⟩ := h2 i hi
    exact ⟨x, partL_mem.2 ⟨hx, by rw [e]; exact reachBy_sub hi⟩, e⟩
  refine ⟨reachE_mk hp hthere, ?_⟩
  have hsub : ∀ i ∈ reachL l ids, i ∈ reachL (partL l ids) ids := by
    have key : ∀ i ∈ reachL l ids, i ∈ reachL l ids ∧ i ∈ reachL (partL l ids) ids := by
      refine reachBy_min (fun i => i ∈ reachL l ids ∧ i ∈ reachL (partL l ids) ids) (fun i hi => ⟨reachBy_sub hi, reachBy_sub hi⟩) (fun x hx hxr y hy => ?_)
      exact ⟨reachL_closed h1 ids x hx hxr.1 y hy, reachL_closed hp ids x (partL_mem.2 ⟨hx, hxr.1⟩) hxr.2 y hy⟩
    exact fun i hi => (key i hi).2
  show List.filter (fun x => decide (x.id ∈ reachL (partL l ids) ids)) (partL l ids) = partL l ids
  rw [List.filter_eq_self]
  intro x hx
  simpa using hsub _ (partL_mem.1 hx).2

/-- what is behind a tip is in it. -/
theorem part_behind {l : List Ob} {ids : List Int} {old t : Int} (h : reachE l ids = 0) (ht : t ∈ ids) (hb : behindB l old t = true) : 0 ≤ placeI (partL l ids) old := by
  obtain ⟨h1, h2⟩ := reachE_zero h
  have hr : old ∈ reachL l ids := reachBy_min (fun i => i ∈ reachL l ids) (fun i hi => by simp at hi; rw [hi]; exact reachBy_sub ht) (fun x hx hxr y hy => reachL_closed h1 ids x hx hxr y (List.mem_of_mem_tail hy)) old (behindB_iff.1 hb).2
  obtain ⟨x, hx, e⟩ := reachL_there h old hr
  exact place_mem.2 ⟨x, partL_mem.2 ⟨hx, by rw [e]; exact hr⟩, e⟩
theorem part_tip {l : List Ob} {ids : List Int} {t : Int} (h : reachE l ids = 0) (ht : t ∈ ids) : 0 ≤ placeI (partL l ids) t := by
  obtain ⟨x, hx, e⟩ := (reachE_zero h).2 t ht
  exact place_mem.2 ⟨x, partL_mem.2 ⟨hx, by rw [e]; exact reachBy_sub ht⟩, e⟩
end Go.Proofs.Ytbppoffhpmoplab
