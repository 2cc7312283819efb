import Derived.Test.YtdclffgbmcecdaaB3
namespace Go.Proofs.Ytdclffgbmcecdaa
open Go.RowKit

theorem linksE_snoc {id kind x : Int} : ∀ (L : List Int) (i : Nat) (last : Int), linksE id kind i last (L ++ [x]) = 0 → linksE id kind i last L = 0 := by
  intro L
  induction L with
  | nil => intro _ _ _; rfl
  | cons y ys ih =>
    intro i last h
    rw [List.cons_append, linksE] at h
    rw [linksE]
    split at h
    · cases h
    · rename_i h1
      split at h
      · cases h
      · rename_i h2
        rw [if_neg h1, if_neg h2]
        exact ih _ _ h

theorem check_self {id kind : Int} {L : List Int} {n : Nat} : checkE id kind (L ++ [id]) n ≠ 0 := fun h => by
  have := linksE_mem _ _ _ (checkE_zero h).2.2.2.2.1 id (by simp)
  omega

theorem check_less {id kind : Int} {L : List Int} {x : Int} {n : Nat} (h : checkE id kind (L ++ [x]) n = 0) :
    kind ≠ 1 ∧ (checkE id kind L n = 0 ↔ (1 < (L ++ [x]).length ∨ kind = 2)) := by
  obtain ⟨h1, h2, h3, h4, h5, h6⟩ := checkE_zero h
  have h7 := linksE_snoc _ _ _ h5
  simp at h3 h6
  refine ⟨fun e => h6 e, ?_⟩
  by_cases hk : kind = 2
  · subst hk
    simp only [or_true, iff_true]
    exact ck_ok h1 h2 (by omega) h7 (by omega)
  · have hk3 : kind = 3 := by omega
    subst hk3
    cases L with
    | nil =>
      simp only [List.nil_append, List.length_cons, List.length_nil]
      rw [ck_form h1 h2 (by simp; omega) h7 (by simp)]
      simp
    | cons y ys =>
      simp only [List.cons_append, List.length_cons, List.length_append, List.length_nil]
      rw [ck_ok h1 h2 (by simp at h3 ⊢; omega) h7 (by simp)]
      simp

theorem Holds.grown {w w' : World} {a : Option Addr} {L : List Int} {row : Option Nat} (h : Holds w a L) (hg : w.grownBy w' row) (hr : ∀ b off, a = some ⟨b, off, none⟩ → some b ≠ row) : Holds w' a L := by
  intro i hi
  obtain ⟨b, off, e, hlt, hc⟩ := h i hi
  exact ⟨b, off, e, Nat.lt_of_lt_of_le hlt hg.size, fun j hj => (World.cell?_of_block (a := ⟨b, off + j, none⟩) (hg.block b hlt (hr b off e))).trans (hc j hj)⟩

/-- what is kept over 'more.Links = append(..)'. -/
structure Keep6 (w : World) (M : Nat) (id kind : Int) (a : Option Addr) (c : Nat) (L : List Int) (t : ByteArray) (w' : World) : Prop where
  below : Below w.heap.size w w'
  holds : Holds w' a L
  box : Cells4 w.heap.size (.int .i64 id) (.int .i64 kind) (.slice a L.length c) (.string t) w'
  m0 : w'.cell? ⟨M, 0, none⟩ = some (.int .i64 id)
  m1 : w'.cell? ⟨M, 1, none⟩ = some (.int .i64 kind)
  m2 : ∃ v, w'.cell? ⟨M, 2, none⟩ = some v
  m3 : w'.cell? ⟨M, 3, none⟩ = some (.string t)
  f2 : w'.frozen? ⟨M, 2, none⟩ = false
  lt : M < w'.heap.size
  le : w.heap.size < M
  old : ∀ b off, a = some ⟨b, off, none⟩ → 0 < L.length → b < w.heap.size

theorem Keep6.grown {w : World} {M : Nat} {id kind : Int} {a : Option Addr} {c : Nat} {L : List Int} {t : ByteArray} {w' w1 : World} {row : Option Nat} (h : Keep6 w M id kind a c L t w') (hg : w'.grownBy w1 row) (hr : ∀ g, row = some g → M < g) : Keep6 w M id kind a c L t w1 := by
  have hl := h.lt
  have hle := h.le
  have hblk : ∀ k, k ≤ M → w1.heap[k]? = w'.heap[k]? := fun k hk => hg.block k (by omega) (fun e => by have := hr k e.symm; omega)
  have hB : Below (M + 1) w' w1 := ⟨hg.os, hg.tape, hg.output, hg.size, fun k hk => hblk k (by omega)⟩
  refine ⟨h.below.trans (hB.mono (by omega)), ?_, h.box.below hB (by omega), (hB.cell (p := ⟨M, 0, none⟩) (by simp)).trans h.m0, (hB.cell (p := ⟨M, 1, none⟩) (by simp)).trans h.m1, ?_, (hB.cell (p := ⟨M, 3, none⟩) (by simp)).trans h.m3, (hB.frozen (p := ⟨M, 2, none⟩) (by simp)).trans h.f2, Nat.lt_of_lt_of_le hl hg.size, h.le, h.old⟩
  · intro i hi
    obtain ⟨b, off, e, hlt, hc⟩ := h.holds i hi
    have hb := h.old b off e (by omega)
    exact ⟨b, off, e, Nat.lt_of_lt_of_le hlt hg.size, fun j hj => (hB.cell (p := ⟨b, off + j, none⟩) (by show b < M + 1; omega)).trans (hc j hj)⟩
  · obtain ⟨v, hv⟩ := h.m2
    exact ⟨v, (hB.cell (p := ⟨M, 2, none⟩) (by simp)).trans hv⟩
theorem Keep6.alloc {w : World} {M : Nat} {id kind : Int} {a : Option Addr} {c : Nat} {L : List Int} {t : ByteArray} {w' : World} (h : Keep6 w M id kind a c L t w') (o : Obj) : Keep6 w M id kind a c L t (w'.alloc o) :=
  h.grown (World.grownBy_alloc w' o none) (by simp)
theorem Keep6.drew {w : World} {M : Nat} {id kind : Int} {a : Option Addr} {c : Nat} {L : List Int} {t : ByteArray} {w' : World} (h : Keep6 w M id kind a c L t w') : Keep6 w M id kind a c L t w'.drew :=
  h.grown (row := none) ⟨rfl, rfl, rfl, Nat.le_refl _, fun _ _ _ => rfl⟩ (by simp)
theorem Keep6.below' {w : World} {M : Nat} {id kind : Int} {a : Option Addr} {c : Nat} {L : List Int} {t : ByteArray} {w' w1 : World} (h : Keep6 w M id kind a c L t w') (hb : Below w'.heap.size w' w1) : Keep6 w M id kind a c L t w1 :=
  h.grown (row := none) ⟨hb.os, hb.tape, hb.output, hb.size, fun k hk _ => hb.block k hk⟩ (by simp)
theorem Keep6.set {w : World} {M : Nat} {id kind : Int} {a : Option Addr} {c : Nat} {L : List Int} {t : ByteArray} {w' : World} (h : Keep6 w M id kind a c L t w') (y : Value) : Keep6 w M id kind a c L t (w'.setCell ⟨M, 2, none⟩ y) := by
  have hle := h.le
  obtain ⟨v, hv⟩ := h.m2
  refine ⟨h.below.setCell (by show w.heap.size ≤ M; omega) _, ?_, ?_, (World.cell?_setCell_other _ _ _ _ (by simp)).trans h.m0, (World.cell?_setCell_other _ _ _ _ (by simp)).trans h.m1, ⟨y, World.cell?_setCell_same _ _ _ hv⟩, (World.cell?_setCell_other _ _ _ _ (by simp)).trans h.m3, (World.frozen?_setCell _ _ _ _).trans h.f2, by simpa [World.setCell] using h.lt, h.le, h.old⟩
  · intro i hi
    obtain ⟨b, off, e, hlt, hc⟩ := h.holds i hi
    have hb := h.old b off e (by omega)
    exact ⟨b, off, e, by simpa [World.setCell] using hlt, fun j hj => (World.cell?_setCell_other _ _ _ _ (by intro e; have := congrArg Addr.block e; simp at this; omega)).trans (hc j hj)⟩
  · have hB : Below M w' (w'.setCell ⟨M, 2, none⟩ y) := (Below.refl M w').setCell (p := ⟨M, 2, none⟩) (Nat.le_refl _) _
    exact h.box.below hB (by omega)
theorem Keep6.two {w : World} {M : Nat} {id kind : Int} {a : Option Addr} {c : Nat} {L : List Int} {t : ByteArray} {w' : World} (h : Keep6 w M id kind a c L t w') :
    (w'.cell? ⟨w.heap.size, 0, none⟩ = some (.int .i64 id) ∧ w'.cell? ⟨w.heap.size, 2, none⟩ = some (.slice a L.length c)) ∧ Keep6 w M id kind a c L t w' := ⟨⟨h.box.c0, h.box.c2⟩, h⟩

set_option maxHeartbeats 400000 in
theorem objectLinks_bad (id kind : Int) (a : Option Addr) (c : Nat) (L : List Int) (t : ByteArray) (w : World)
    (h : Holds w a L) (l : L.length ≤ 9223372036854775807) (he : checkE id kind L t.size ≠ 0) :
    Calls Try.prog 3 #[.agg #[.int .i64 id, .int .i64 kind, .slice a L.length c, .string t]] w fun e w' => e = .returned (.bool true) ∧ Below w.heap.size w w' := by
  have he' : (checkE id kind L t.size != 0) = true := by simpa using he
  go_enter Try.func3, Try.ntmps3
  go_wp2_with fail
  refine (objectBegun_any _).mono ?_
  rintro e w1 ⟨rfl, hb1⟩
  obtain ⟨g0, g1, g2, g3, hlt⟩ := boxed hb1
  have hB1 := (below_alloc _ _).trans (hb1.mono (by simp))
  have h1 := h.below hB1
  clear hb1
  go_wp2_with fail
  refine (check_any id kind a c L t _ h1 l).mono ?_
  rintro e w2 ⟨rfl, hb2⟩
  have hB2 := hB1.trans (hb2.mono hB1.size)
  go_wp2
  go_ret
  exact ⟨rfl, hB2⟩

set_option maxHeartbeats 400000 in
theorem objectLinks_good (id kind : Int) (a : Option Addr) (c : Nat) (L : List Int) (t : ByteArray) (w : World)
    (h : Holds w a L) (hcap : L.length ≤ c) (he : checkE id kind L t.size = 0) :
    Calls Try.prog 3 #[.agg #[.int .i64 id, .int .i64 kind, .slice a L.length c, .string t]] w fun e w' => e = .returned (.bool true) ∧ Below w.heap.size w w' := by
  obtain ⟨hid, hki, hL4, ht8, _, hform⟩ := checkE_zero he
  have HE : Hid (checkE id kind L t.size = 0) := he
  clear he
  go_enter Try.func3, Try.ntmps3
  go_wp2_with fail
  refine (objectBegun_any _).mono ?_
  rintro e w1 ⟨rfl, hb1⟩
  obtain ⟨g0, g1, g2, g3, hlt⟩ := boxed hb1
  have hB1 := (below_alloc _ _).trans (hb1.mono (by simp))
  have C1 := (Cells4.new w (.int .i64 id) (.int .i64 kind) (.slice a L.length c) (.string t) 24).below hb1 (by simp)
  have h1 := h.below hB1
  clear hb1
  go_wp2_with fail
  refine (check_any id kind a c L t _ h1 (by omega)).mono ?_
  rintro e w2 ⟨rfl, hb2⟩
  rw [HE.out]
  have hB2 := hB1.trans (hb2.mono hB1.size)
  have h2 := h1.below hb2
  have k0 := (hb2.cell (p := ⟨w.heap.size, 0, none⟩) hlt).trans g0
  have k1 := (hb2.cell (p := ⟨w.heap.size, 1, none⟩) hlt).trans g1
  have k2 := (hb2.cell (p := ⟨w.heap.size, 2, none⟩) hlt).trans g2
  have k3 := (hb2.cell (p := ⟨w.heap.size, 3, none⟩) hlt).trans g3
  have hlt2 : w.heap.size < w2.heap.size := Nat.lt_of_lt_of_le hlt hb2.size
  have C2 := C1.below hb2 hlt
  clear C1
  clear g0 g1 g2 g3 hb2 h1 hB1 hlt
  go_wp2_with fail
  have HK : Keep6 w w2.heap.size id kind a c L t (w2.alloc (.cells #[.int .i64 id, .int .i64 kind, .slice a L.length c, .string t] 24)) := by
    have D := Cells4.new w2 (.int .i64 id) (.int .i64 kind) (.slice a L.length c) (.string t) 24
    exact ⟨hB2.alloc hB2.size _, h2.below (below_alloc _ _), C2.below (below_alloc _ _) C2.lt, D.c0, D.c1, ⟨_, D.c2⟩, D.c3, D.f2, D.lt, hlt2, fun b off e h0 => by obtain ⟨b', off', e', hb', _⟩ := h 0 h0; rw [e] at e'; simp at e'; omega⟩
  clear C2
  clear k0 k1 k2 k3
  generalize w2.alloc (.cells #[.int .i64 id, .int .i64 kind, .slice a L.length c, .string t] 24) = W3 at *
  generalize w2.heap.size = M at *
  refine wp_region_held_drew (S := fun w' => (w'.cell? ⟨w.heap.size, 0, none⟩ = some (.int .i64 id) ∧ w'.cell? ⟨w.heap.size, 2, none⟩ = some (.slice a L.length c)) ∧ Keep6 w M id kind a c L t w') (by kernel_rfl) ?_ (fun hHeld => ?_)
  · exact HK.drew.two
  clear HK
  refine wpAnyH_take (i := 1) (v := ?_) rfl (by kernel_rfl) (by kernel_rfl) (by kernel_rfl) (fun _ _ _ h => h) (Or.inl ⟨by rfl, ?_⟩) (by assumption) ?_
  rotate_left
  · intro w hSw; obtain ⟨⟨z0, z2⟩, _⟩ := hSw; go_simp; with_reducible rfl
  try simp only [Act.put, List.getElem_toArray, List.getElem_cons_succ, List.getElem_cons_zero, List.setIfInBounds_toArray, List.set_cons_zero, List.set_cons_succ]
  refine wpAnyH_take (i := 2) (v := ?_) rfl (by kernel_rfl) (by kernel_rfl) (by kernel_rfl) (fun _ _ _ h => h) (Or.inl ⟨by rfl, ?_⟩) (by assumption) ?_
  rotate_left
  · intro w hSw; obtain ⟨⟨z0, z2⟩, _⟩ := hSw; go_simp; with_reducible rfl
  try simp only [Act.put, List.getElem_toArray, List.getElem_cons_succ, List.getElem_cons_zero, List.setIfInBounds_toArray, List.set_cons_zero, List.set_cons_succ]
  refine wpAnyH_take (i := 4) (v := ?_) rfl (by kernel_rfl) (by kernel_rfl) (by kernel_rfl) (fun _ _ _ h => h) (Or.inl ⟨by rfl, ?_⟩) (by assumption) ?_
  rotate_left
  · intro w hSw; obtain ⟨⟨z0, z2⟩, _⟩ := hSw; go_simp; with_reducible rfl
  try simp only [Act.put, List.getElem_toArray, List.getElem_cons_succ, List.getElem_cons_zero, List.setIfInBounds_toArray, List.set_cons_zero, List.set_cons_succ]
  refine wpAnyH_take (i := 5) (v := ?_) rfl (by kernel_rfl) (by kernel_rfl) (by kernel_rfl) (fun _ _ _ h => h) (Or.inl ⟨by rfl, ?_⟩) (by assumption) ?_
  rotate_left
  · intro w hSw; obtain ⟨⟨z0, z2⟩, _⟩ := hSw; go_simp; with_reducible rfl
  try simp only [Act.put, List.getElem_toArray, List.getElem_cons_succ, List.getElem_cons_zero, List.setIfInBounds_toArray, List.set_cons_zero, List.set_cons_succ]
  refine wpAnyH_ready (rs := [0, 6]) (by kernel_rfl) (by simp) ?_
  refine AllReadyH.cons rfl (fun K hK => ?_) (AllReadyH.cons rfl (fun K hK => ?_) AllReadyH.nil)
  · go_simp
    have hA : Keep6 w M id kind a c L t (W3.alloc (.cells #[] 3)).drew := hHeld.2.alloc (.cells #[] 3)
    have hl := hHeld.2.lt
    have o13 : ((W3.alloc (.cells #[] 3)).drew).ownsRow (M + 1) 3 1 (.slice (some ⟨W3.heap.size, 0, none⟩) 0 0) 0 (([] : List Int).map (Value.int .i64)) := World.ownsRow_made W3.drew #[] 0 hl (by decide) rfl
    have hk13 : M < W3.heap.size := hl
    refine hK.out _ _ hA.two (fun hHeld => ?_)
    clear hK K hA hl
    try simp only [Act.put, List.getElem_toArray, List.getElem_cons_succ, List.getElem_cons_zero, List.setIfInBounds_toArray, List.set_cons_zero, List.set_cons_succ]
    generalize (W3.alloc (.cells #[] 3)).drew = Wa at *
    generalize W3.heap.size = k13 at *
    refine wpAnyH_ready (rs := [3, 6]) (by kernel_rfl) (by simp) ?_
    refine AllReadyH.cons rfl (fun K hK => ?_) (AllReadyH.cons rfl (fun K hK => ?_) AllReadyH.nil)
    · refine step_append_ints Wa (by rfl) (.tmp 13) (.tmp 15) (by rfl) (M + 1) 0 (.slice (some ⟨k13, 0, none⟩) 0 0) [] (by rfl) o13 a L.length c L rfl (by rfl) hHeld.2.holds (by omega) hHeld.2.lt ?_
      intro g16 N16 cap16 w6 hN16 o16 gr16
      have hA := hHeld.2.grown gr16 (fun g hg => by simp [Value.ownBlock] at hg; omega)
      have hN16' : N16 ≤ 4 := by omega
      have HN16 : Hid (N16 = 0 + L.length) := hN16
      clear hN16
      refine hK.out _ _ hA.two (fun hHeld => ?_)
      clear hK K hA gr16 o13
      try simp only [Act.put, List.getElem_toArray, List.getElem_cons_succ, List.getElem_cons_zero, List.setIfInBounds_toArray, List.set_cons_zero, List.set_cons_succ]
      refine wpAnyH_ready (rs := [6]) (by kernel_rfl) (by simp) ?_
      refine AllReadyH.cons rfl (fun K hK => ?_) AllReadyH.nil
      go_simp
      have hA : Keep6 w M id kind a c L t (w6.alloc (.cells #[.int .i64 id] 3)) := hHeld.2.alloc (.cells #[.int .i64 id] 3)
      have h19 : Holds ((w6.alloc (.cells #[.int .i64 id] 3))) (some ⟨w6.heap.size, 0, none⟩) [id] := holds_new w6 [id] 3 _ rfl
      have hk19 : M < w6.heap.size := hHeld.2.lt
      have o16' := o16.alloc (.cells #[.int .i64 id] 3)
      have lt_o16 : ∀ k, Value.ownBlock (.slice g16 N16 cap16) = some k → k < w6.heap.size := fun k hk => (o16.lt k hk).2
      refine hK.out _ _ hA.two (fun hHeld => ?_)
      clear hK K hA
      try simp only [Act.put, List.getElem_toArray, List.getElem_cons_succ, List.getElem_cons_zero, List.setIfInBounds_toArray, List.set_cons_zero, List.set_cons_succ]
      clear o16
      generalize (w6.alloc (.cells #[.int .i64 id] 3)) = Wb at *
      generalize w6.heap.size = k19 at *
      refine wpAnyH_ready (rs := [7]) (by kernel_rfl) (by simp) ?_
      refine AllReadyH.cons rfl (fun K hK => ?_) AllReadyH.nil
      refine step_append_ints Wb (by rfl) (.tmp 16) (.tmp 19) (by rfl) (M + 1) N16 (.slice g16 N16 cap16) ([] ++ L) (by rfl) o16' (some ⟨k19, 0, none⟩) 1 1 [id] rfl (by rfl) h19 (by omega) hHeld.2.lt ?_
      intro g20 N20 cap20 w7 hN20 o20 gr20
      have hA := hHeld.2.grown gr20 (fun g hg => (o16'.lt g hg).1)
      have HN20 : Hid (N20 = N16 + 1) := hN20
      clear hN20
      refine hK.out _ _ hA.two (fun hHeld => ?_)
      clear hK K hA gr20 o16' h19
      try simp only [Act.put, List.getElem_toArray, List.getElem_cons_succ, List.getElem_cons_zero, List.setIfInBounds_toArray, List.set_cons_zero, List.set_cons_succ]
      refine wpAnyH_take (i := 8) (v := ?_) rfl (by kernel_rfl) (by kernel_rfl) (by kernel_rfl) (fun _ _ _ h => h) (Or.inl ⟨by rfl, ?_⟩) (by assumption) ?_
      rotate_left
      · intro w hSw; obtain ⟨⟨z0, z2⟩, _⟩ := hSw; go_simp; with_reducible rfl
      try simp only [Act.put, List.getElem_toArray, List.getElem_cons_succ, List.getElem_cons_zero, List.setIfInBounds_toArray, List.set_cons_zero, List.set_cons_succ]
      refine wpAnyH_ready (rs := [9]) (by kernel_rfl) (by simp) ?_
      refine AllReadyH.cons rfl (fun K hK => ?_) AllReadyH.nil
      obtain ⟨x2, hx2⟩ := hHeld.2.m2
      have hf2 := hHeld.2.f2
      go_simp
      have hA := hHeld.2.set (.slice g20 N20 cap20)
      have o21 := ownsRow_setCell_below o20 (a := ⟨M, 2, none⟩) (by simp) (.slice g20 N20 cap20)
      have hm2 : (w7.setCell ⟨M, 2, none⟩ (.slice g20 N20 cap20)).cell? ⟨M, 2, none⟩ = some (.slice g20 N20 cap20) := World.cell?_setCell_same _ _ _ hx2
      refine hK.out _ _ hA.two (fun hHeld => ?_)
      clear hK K hA o20 hx2 hf2
      try simp only [Act.put, List.getElem_toArray, List.getElem_cons_succ, List.getElem_cons_zero, List.setIfInBounds_toArray, List.set_cons_zero, List.set_cons_succ]
      generalize w7.setCell ⟨M, 2, none⟩ (.slice g20 N20 cap20) = w8 at *
      refine wpAnyH_done (by kernel_rfl) ?_ _
      have hl20 : N20 = L.length + 1 := by have := HN20.out; have := HN16.out; omega
      obtain ⟨X, hX⟩ : ∃ X, X = [] ++ L ++ [id] := ⟨_, rfl⟩
      rw [← hX] at o21
      have hXl : N20 = X.length := by rw [hX]; simp; omega
      subst hXl
      obtain ⟨a', cap', hv, hh, _⟩ := own_shape o21 rfl
      cases hv
      have hne : checkE id kind X t.size ≠ 0 := by rw [hX]; exact check_self
      have hne' : (checkE id kind X t.size == 0) = false := by simpa using hne
      have hXs : X.length ≤ 5 := by omega
      clear hl20 HN20 HN16 hN16' hX hne o21
      have m0 := hHeld.2.m0
      have m1 := hHeld.2.m1
      have m3 := hHeld.2.m3
      go_wp2_with fail
      refine (check_any id kind g20 cap20 X t _ hh (by omega)).mono ?_
      rintro e w9 ⟨rfl, hb9⟩
      have K9 := hHeld.2.below' hb9
      clear m0 m1 m3 hm2 hHeld hb9 hh
      obtain ⟨hB9, hh9, ⟨b0, b1, b2, b3, _, _, _, _, bl⟩, _, _, _, _, _, _, _, hold⟩ := K9
      by_cases hL0 : L.length = 0
      · have hk3 : (kind != 3) = true := by simp; omega
        have hz : ((L.length : Int) == 0) = true := by simp; exact List.eq_nil_of_length_eq_zero hL0
        have HL : Hid (L.length = 0) := hL0
        clear hL0
        go_wp2
        go_ret
        exact ⟨rfl, hB9⟩
      · have hz : ((L.length : Int) == 0) = false := by simp; exact fun e => hL0 (by rw [e]; rfl)
        obtain ⟨b, off, ha, hbl, hbc⟩ := hh9 0 (by omega)
        subst ha
        have hi1 : (0 : Int) ≤ (L.length : Int) - 1 := by omega
        have hi2 : (L.length : Int) - 1 ≤ (c : Int) := by omega
        go_wp2_with fail
        obtain ⟨Y, x, hY⟩ : ∃ Y x, L = Y ++ [x] := ⟨_, _, (List.dropLast_concat_getLast (fun e => hL0 (by rw [e]; rfl))).symm⟩
        have hYl : L.length - 1 = Y.length := by rw [hY]; simp
        rw [hYl]
        have hhY : Holds (w9.alloc (.cells #[.int .i64 id, .int .i64 kind, .slice (some ⟨b, off, none⟩) Y.length c, .string t] 24)) (some ⟨b, off, none⟩) Y := by
          intro i hi
          refine ⟨b, off, rfl, by simp; omega, fun j hj => ?_⟩
          rw [World.cell?_alloc_past _ _ _ hbl, hbc j (by rw [hY]; simp; omega), hY]
          simp [List.getElem?_append_left hj]
        have hfull := HE.out
        rw [hY] at hfull
        obtain ⟨hk1, hiff⟩ := check_less hfull
        rw [← hY] at hiff
        have hYs : Y.length ≤ 4 := by omega
        have Hiff : Hid (checkE id kind Y t.size = 0 ↔ (1 < L.length ∨ kind = 2)) := hiff
        have HK1 : Hid (kind ≠ 1) := hk1
        clear hfull hiff hk1 hY hYl
        refine (check_any id kind _ c Y t _ hhY (by omega)).mono ?_
        rintro e w10 ⟨rfl, hb10⟩
        have hB10 := (hB9.alloc hB9.size _).trans (hb10.mono (by have := hB9.size; simp; omega))
        have c1 : w10.cell? ⟨w.heap.size, 1, none⟩ = some (.int .i64 kind) := (hb10.cell (p := ⟨w.heap.size, 1, none⟩) (by simp; omega)).trans ((World.cell?_alloc_past _ _ _ bl).trans b1)
        clear hb10 hhY hbc hB9 b0 b1 b2 b3 hh9
        have e1 : (kind != 1) = true := by simpa using HK1.out
        by_cases h1 : (1 : Int) < (L.length : Int)
        · have e2 : (checkE id kind Y t.size == 0) = true := by rw [beq_iff_eq]; exact Hiff.out.2 (Or.inl (by omega))
          go_wp2
          go_ret
          exact ⟨rfl, hB10⟩
        · by_cases h2 : kind = 2
          · have e2 : (checkE id kind Y t.size == 0) = true := by rw [beq_iff_eq]; exact Hiff.out.2 (Or.inr h2)
            have e3 : (kind == 2) = true := by simpa using h2
            clear h2
            go_wp2
            go_ret
            exact ⟨rfl, hB10⟩
          · have e2 : (checkE id kind Y t.size == 0) = false := by rw [beq_eq_false_iff_ne]; exact fun e => by have := Hiff.out.1 e; omega
            have e3 : (kind == 2) = false := by simpa using h2
            clear h2
            go_wp2
            go_ret
            exact ⟨ret_bool (by simp; omega), hB10⟩
    · go_simp
      have hA : Keep6 w M id kind a c L t (Wa.alloc (.cells #[.int .i64 id] 3)) := hHeld.2.alloc (.cells #[.int .i64 id] 3)
      have h19 : Holds ((Wa.alloc (.cells #[.int .i64 id] 3))) (some ⟨Wa.heap.size, 0, none⟩) [id] := holds_new Wa [id] 3 _ rfl
      have hk19 : M < Wa.heap.size := hHeld.2.lt
      have o13' := o13.alloc (.cells #[.int .i64 id] 3)
      have lt_o13 : ∀ k, Value.ownBlock (.slice (some ⟨k13, 0, none⟩) 0 0) = some k → k < Wa.heap.size := fun k hk => (o13.lt k hk).2
      refine hK.out _ _ hA.two (fun hHeld => ?_)
      clear hK K hA
      try simp only [Act.put, List.getElem_toArray, List.getElem_cons_succ, List.getElem_cons_zero, List.setIfInBounds_toArray, List.set_cons_zero, List.set_cons_succ]
      clear o13
      generalize (Wa.alloc (.cells #[.int .i64 id] 3)) = Wb at *
      generalize Wa.heap.size = k19 at *
      refine wpAnyH_ready (rs := [3]) (by kernel_rfl) (by simp) ?_
      refine AllReadyH.cons rfl (fun K hK => ?_) AllReadyH.nil
      refine step_append_ints Wb (by rfl) (.tmp 13) (.tmp 15) (by rfl) (M + 1) 0 (.slice (some ⟨k13, 0, none⟩) 0 0) [] (by rfl) o13' a L.length c L rfl (by rfl) hHeld.2.holds (by omega) hHeld.2.lt ?_
      intro g16 N16 cap16 w6 hN16 o16 gr16
      have hA := hHeld.2.grown gr16 (fun g hg => by simp [Value.ownBlock] at hg; omega)
      have hN16' : N16 ≤ 4 := by omega
      have h19 := h19.grown gr16 (fun b off e => by simp at e; have := lt_o13 k13 rfl; simp [Value.ownBlock]; omega)
      have HN16 : Hid (N16 = 0 + L.length) := hN16
      clear hN16
      refine hK.out _ _ hA.two (fun hHeld => ?_)
      clear hK K hA gr16 o13'
      try simp only [Act.put, List.getElem_toArray, List.getElem_cons_succ, List.getElem_cons_zero, List.setIfInBounds_toArray, List.set_cons_zero, List.set_cons_succ]
      refine wpAnyH_ready (rs := [7]) (by kernel_rfl) (by simp) ?_
      refine AllReadyH.cons rfl (fun K hK => ?_) AllReadyH.nil
      refine step_append_ints w6 (by rfl) (.tmp 16) (.tmp 19) (by rfl) (M + 1) N16 (.slice g16 N16 cap16) ([] ++ L) (by rfl) o16 (some ⟨k19, 0, none⟩) 1 1 [id] rfl (by rfl) h19 (by omega) hHeld.2.lt ?_
      intro g20 N20 cap20 w7 hN20 o20 gr20
      have hA := hHeld.2.grown gr20 (fun g hg => (o16.lt g hg).1)
      have HN20 : Hid (N20 = N16 + 1) := hN20
      clear hN20
      refine hK.out _ _ hA.two (fun hHeld => ?_)
      clear hK K hA gr20 o16 h19
      try simp only [Act.put, List.getElem_toArray, List.getElem_cons_succ, List.getElem_cons_zero, List.setIfInBounds_toArray, List.set_cons_zero, List.set_cons_succ]
      refine wpAnyH_take (i := 8) (v := ?_) rfl (by kernel_rfl) (by kernel_rfl) (by kernel_rfl) (fun _ _ _ h => h) (Or.inl ⟨by rfl, ?_⟩) (by assumption) ?_
      rotate_left
      · intro w hSw; obtain ⟨⟨z0, z2⟩, _⟩ := hSw; go_simp; with_reducible rfl
      try simp only [Act.put, List.getElem_toArray, List.getElem_cons_succ, List.getElem_cons_zero, List.setIfInBounds_toArray, List.set_cons_zero, List.set_cons_succ]
      refine wpAnyH_ready (rs := [9]) (by kernel_rfl) (by simp) ?_
      refine AllReadyH.cons rfl (fun K hK => ?_) AllReadyH.nil
      obtain ⟨x2, hx2⟩ := hHeld.2.m2
      have hf2 := hHeld.2.f2
      go_simp
      have hA := hHeld.2.set (.slice g20 N20 cap20)
      have o21 := ownsRow_setCell_below o20 (a := ⟨M, 2, none⟩) (by simp) (.slice g20 N20 cap20)
      have hm2 : (w7.setCell ⟨M, 2, none⟩ (.slice g20 N20 cap20)).cell? ⟨M, 2, none⟩ = some (.slice g20 N20 cap20) := World.cell?_setCell_same _ _ _ hx2
      refine hK.out _ _ hA.two (fun hHeld => ?_)
      clear hK K hA o20 hx2 hf2
      try simp only [Act.put, List.getElem_toArray, List.getElem_cons_succ, List.getElem_cons_zero, List.setIfInBounds_toArray, List.set_cons_zero, List.set_cons_succ]
      generalize w7.setCell ⟨M, 2, none⟩ (.slice g20 N20 cap20) = w8 at *
      refine wpAnyH_done (by kernel_rfl) ?_ _
      have hl20 : N20 = L.length + 1 := by have := HN20.out; have := HN16.out; omega
      obtain ⟨X, hX⟩ : ∃ X, X = [] ++ L ++ [id] := ⟨_, rfl⟩
      rw [← hX] at o21
      have hXl : N20 = X.length := by rw [hX]; simp; omega
      subst hXl
      obtain ⟨a', cap', hv, hh, _⟩ := own_shape o21 rfl
      cases hv
      have hne : checkE id kind X t.size ≠ 0 := by rw [hX]; exact check_self
      have hne' : (checkE id kind X t.size == 0) = false := by simpa using hne
      have hXs : X.length ≤ 5 := by omega
      clear hl20 HN20 HN16 hN16' hX hne o21
      have m0 := hHeld.2.m0
      have m1 := hHeld.2.m1
      have m3 := hHeld.2.m3
      go_wp2_with fail
      refine (check_any id kind g20 cap20 X t _ hh (by omega)).mono ?_
      rintro e w9 ⟨rfl, hb9⟩
      have K9 := hHeld.2.below' hb9
      clear m0 m1 m3 hm2 hHeld hb9 hh
      obtain ⟨hB9, hh9, ⟨b0, b1, b2, b3, _, _, _, _, bl⟩, _, _, _, _, _, _, _, hold⟩ := K9
      by_cases hL0 : L.length = 0
      · have hk3 : (kind != 3) = true := by simp; omega
        have hz : ((L.length : Int) == 0) = true := by simp; exact List.eq_nil_of_length_eq_zero hL0
        have HL : Hid (L.length = 0) := hL0
        clear hL0
        go_wp2
        go_ret
        exact ⟨rfl, hB9⟩
      · have hz : ((L.length : Int) == 0) = false := by simp; exact fun e => hL0 (by rw [e]; rfl)
        obtain ⟨b, off, ha, hbl, hbc⟩ := hh9 0 (by omega)
        subst ha
        have hi1 : (0 : Int) ≤ (L.length : Int) - 1 := by omega
        have hi2 : (L.length : Int) - 1 ≤ (c : Int) := by omega
        go_wp2_with fail
        obtain ⟨Y, x, hY⟩ : ∃ Y x, L = Y ++ [x] := ⟨_, _, (List.dropLast_concat_getLast (fun e => hL0 (by rw [e]; rfl))).symm⟩
        have hYl : L.length - 1 = Y.length := by rw [hY]; simp
        rw [hYl]
        have hhY : Holds (w9.alloc (.cells #[.int .i64 id, .int .i64 kind, .slice (some ⟨b, off, none⟩) Y.length c, .string t] 24)) (some ⟨b, off, none⟩) Y := by
          intro i hi
          refine ⟨b, off, rfl, by simp; omega, fun j hj => ?_⟩
          rw [World.cell?_alloc_past _ _ _ hbl, hbc j (by rw [hY]; simp; omega), hY]
          simp [List.getElem?_append_left hj]
        have hfull := HE.out
        rw [hY] at hfull
        obtain ⟨hk1, hiff⟩ := check_less hfull
        rw [← hY] at hiff
        have hYs : Y.length ≤ 4 := by omega
        have Hiff : Hid (checkE id kind Y t.size = 0 ↔ (1 < L.length ∨ kind = 2)) := hiff
        have HK1 : Hid (kind ≠ 1) := hk1
        clear hfull hiff hk1 hY hYl
        refine (check_any id kind _ c Y t _ hhY (by omega)).mono ?_
        rintro e w10 ⟨rfl, hb10⟩
        have hB10 := (hB9.alloc hB9.size _).trans (hb10.mono (by have := hB9.size; simp; omega))
        have c1 : w10.cell? ⟨w.heap.size, 1, none⟩ = some (.int .i64 kind) := (hb10.cell (p := ⟨w.heap.size, 1, none⟩) (by simp; omega)).trans ((World.cell?_alloc_past _ _ _ bl).trans b1)
        clear hb10 hhY hbc hB9 b0 b1 b2 b3 hh9
        have e1 : (kind != 1) = true := by simpa using HK1.out
        by_cases h1 : (1 : Int) < (L.length : Int)
        · have e2 : (checkE id kind Y t.size == 0) = true := by rw [beq_iff_eq]; exact Hiff.out.2 (Or.inl (by omega))
          go_wp2
          go_ret
          exact ⟨rfl, hB10⟩
        · by_cases h2 : kind = 2
          · have e2 : (checkE id kind Y t.size == 0) = true := by rw [beq_iff_eq]; exact Hiff.out.2 (Or.inr h2)
            have e3 : (kind == 2) = true := by simpa using h2
            clear h2
            go_wp2
            go_ret
            exact ⟨rfl, hB10⟩
          · have e2 : (checkE id kind Y t.size == 0) = false := by rw [beq_eq_false_iff_ne]; exact fun e => by have := Hiff.out.1 e; omega
            have e3 : (kind == 2) = false := by simpa using h2
            clear h2
            go_wp2
            go_ret
            exact ⟨ret_bool (by simp; omega), hB10⟩
  · go_simp
    have hA : Keep6 w M id kind a c L t (W3.alloc (.cells #[.int .i64 id] 3)).drew := hHeld.2.alloc (.cells #[.int .i64 id] 3)
    have h19 : Holds ((W3.alloc (.cells #[.int .i64 id] 3)).drew) (some ⟨W3.heap.size, 0, none⟩) [id] := holds_new W3.drew [id] 3 _ rfl
    have hk19 : M < W3.heap.size := hHeld.2.lt
    refine hK.out _ _ hA.two (fun hHeld => ?_)
    clear hK K hA
    try simp only [Act.put, List.getElem_toArray, List.getElem_cons_succ, List.getElem_cons_zero, List.setIfInBounds_toArray, List.set_cons_zero, List.set_cons_succ]
    generalize (W3.alloc (.cells #[.int .i64 id] 3)).drew = Wb at *
    generalize W3.heap.size = k19 at *
    refine wpAnyH_ready (rs := [0]) (by kernel_rfl) (by simp) ?_
    refine AllReadyH.cons rfl (fun K hK => ?_) AllReadyH.nil
    have hk19s : k19 < Wb.heap.size := by obtain ⟨b, off, e, hb, _⟩ := h19 0 (by simp); simp at e; omega
    have h19' := h19.below (below_alloc Wb (.cells #[] 3))
    go_simp
    have hA : Keep6 w M id kind a c L t (Wb.alloc (.cells #[] 3)) := hHeld.2.alloc (.cells #[] 3)
    have hl := hHeld.2.lt
    have o13 : ((Wb.alloc (.cells #[] 3))).ownsRow (M + 1) 3 1 (.slice (some ⟨Wb.heap.size, 0, none⟩) 0 0) 0 (([] : List Int).map (Value.int .i64)) := World.ownsRow_made Wb #[] 0 hl (by decide) rfl
    have hk13 : M < Wb.heap.size := hl
    refine hK.out _ _ hA.two (fun hHeld => ?_)
    clear hK K hA hl
    try simp only [Act.put, List.getElem_toArray, List.getElem_cons_succ, List.getElem_cons_zero, List.setIfInBounds_toArray, List.set_cons_zero, List.set_cons_succ]
    generalize (Wb.alloc (.cells #[] 3)) = Wc at *
    generalize Wb.heap.size = k13 at *
    refine wpAnyH_ready (rs := [3]) (by kernel_rfl) (by simp) ?_
    refine AllReadyH.cons rfl (fun K hK => ?_) AllReadyH.nil
    refine step_append_ints Wc (by rfl) (.tmp 13) (.tmp 15) (by rfl) (M + 1) 0 (.slice (some ⟨k13, 0, none⟩) 0 0) [] (by rfl) o13 a L.length c L rfl (by rfl) hHeld.2.holds (by omega) hHeld.2.lt ?_
    intro g16 N16 cap16 w6 hN16 o16 gr16
    have hA := hHeld.2.grown gr16 (fun g hg => by simp [Value.ownBlock] at hg; omega)
    have hN16' : N16 ≤ 4 := by omega
    have h19 := h19'.grown gr16 (fun b off e => by simp at e; simp [Value.ownBlock]; omega)
    have HN16 : Hid (N16 = 0 + L.length) := hN16
    clear hN16
    refine hK.out _ _ hA.two (fun hHeld => ?_)
    clear hK K hA gr16 o13
    try simp only [Act.put, List.getElem_toArray, List.getElem_cons_succ, List.getElem_cons_zero, List.setIfInBounds_toArray, List.set_cons_zero, List.set_cons_succ]
    refine wpAnyH_ready (rs := [7]) (by kernel_rfl) (by simp) ?_
    refine AllReadyH.cons rfl (fun K hK => ?_) AllReadyH.nil
    refine step_append_ints w6 (by rfl) (.tmp 16) (.tmp 19) (by rfl) (M + 1) N16 (.slice g16 N16 cap16) ([] ++ L) (by rfl) o16 (some ⟨k19, 0, none⟩) 1 1 [id] rfl (by rfl) h19 (by omega) hHeld.2.lt ?_
    intro g20 N20 cap20 w7 hN20 o20 gr20
    have hA := hHeld.2.grown gr20 (fun g hg => (o16.lt g hg).1)
    have HN20 : Hid (N20 = N16 + 1) := hN20
    clear hN20
    refine hK.out _ _ hA.two (fun hHeld => ?_)
    clear hK K hA gr20 o16 h19
    try simp only [Act.put, List.getElem_toArray, List.getElem_cons_succ, List.getElem_cons_zero, List.setIfInBounds_toArray, List.set_cons_zero, List.set_cons_succ]
    refine wpAnyH_take (i := 8) (v := ?_) rfl (by kernel_rfl) (by kernel_rfl) (by kernel_rfl) (fun _ _ _ h => h) (Or.inl ⟨by rfl, ?_⟩) (by assumption) ?_
    rotate_left
    · intro w hSw; obtain ⟨⟨z0, z2⟩, _⟩ := hSw; go_simp; with_reducible rfl
    try simp only [Act.put, List.getElem_toArray, List.getElem_cons_succ, List.getElem_cons_zero, List.setIfInBounds_toArray, List.set_cons_zero, List.set_cons_succ]
    refine wpAnyH_ready (rs := [9]) (by kernel_rfl) (by simp) ?_
    refine AllReadyH.cons rfl (fun K hK => ?_) AllReadyH.nil
    obtain ⟨x2, hx2⟩ := hHeld.2.m2
    have hf2 := hHeld.2.f2
    go_simp
    have hA := hHeld.2.set (.slice g20 N20 cap20)
    have o21 := ownsRow_setCell_below o20 (a := ⟨M, 2, none⟩) (by simp) (.slice g20 N20 cap20)
    have hm2 : (w7.setCell ⟨M, 2, none⟩ (.slice g20 N20 cap20)).cell? ⟨M, 2, none⟩ = some (.slice g20 N20 cap20) := World.cell?_setCell_same _ _ _ hx2
    refine hK.out _ _ hA.two (fun hHeld => ?_)
    clear hK K hA o20 hx2 hf2
    try simp only [Act.put, List.getElem_toArray, List.getElem_cons_succ, List.getElem_cons_zero, List.setIfInBounds_toArray, List.set_cons_zero, List.set_cons_succ]
    generalize w7.setCell ⟨M, 2, none⟩ (.slice g20 N20 cap20) = w8 at *
    refine wpAnyH_done (by kernel_rfl) ?_ _
    have hl20 : N20 = L.length + 1 := by have := HN20.out; have := HN16.out; omega
    obtain ⟨X, hX⟩ : ∃ X, X = [] ++ L ++ [id] := ⟨_, rfl⟩
    rw [← hX] at o21
    have hXl : N20 = X.length := by rw [hX]; simp; omega
    subst hXl
    obtain ⟨a', cap', hv, hh, _⟩ := own_shape o21 rfl
    cases hv
    have hne : checkE id kind X t.size ≠ 0 := by rw [hX]; exact check_self
    have hne' : (checkE id kind X t.size == 0) = false := by simpa using hne
    have hXs : X.length ≤ 5 := by omega
    clear hl20 HN20 HN16 hN16' hX hne o21
    have m0 := hHeld.2.m0
    have m1 := hHeld.2.m1
    have m3 := hHeld.2.m3
    go_wp2_with fail
    refine (check_any id kind g20 cap20 X t _ hh (by omega)).mono ?_
    rintro e w9 ⟨rfl, hb9⟩
    have K9 := hHeld.2.below' hb9
    clear m0 m1 m3 hm2 hHeld hb9 hh
    obtain ⟨hB9, hh9, ⟨b0, b1, b2, b3, _, _, _, _, bl⟩, _, _, _, _, _, _, _, hold⟩ := K9
    by_cases hL0 : L.length = 0
    · have hk3 : (kind != 3) = true := by simp; omega
      have hz : ((L.length : Int) == 0) = true := by simp; exact List.eq_nil_of_length_eq_zero hL0
      have HL : Hid (L.length = 0) := hL0
      clear hL0
      go_wp2
      go_ret
      exact ⟨rfl, hB9⟩
    · have hz : ((L.length : Int) == 0) = false := by simp; exact fun e => hL0 (by rw [e]; rfl)
      obtain ⟨b, off, ha, hbl, hbc⟩ := hh9 0 (by omega)
      subst ha
      have hi1 : (0 : Int) ≤ (L.length : Int) - 1 := by omega
      have hi2 : (L.length : Int) - 1 ≤ (c : Int) := by omega
      go_wp2_with fail
      obtain ⟨Y, x, hY⟩ : ∃ Y x, L = Y ++ [x] := ⟨_, _, (List.dropLast_concat_getLast (fun e => hL0 (by rw [e]; rfl))).symm⟩
      have hYl : L.length - 1 = Y.length := by rw [hY]; simp
      rw [hYl]
      have hhY : Holds (w9.alloc (.cells #[.int .i64 id, .int .i64 kind, .slice (some ⟨b, off, none⟩) Y.length c, .string t] 24)) (some ⟨b, off, none⟩) Y := by
        intro i hi
        refine ⟨b, off, rfl, by simp; omega, fun j hj => ?_⟩
        rw [World.cell?_alloc_past _ _ _ hbl, hbc j (by rw [hY]; simp; omega), hY]
        simp [List.getElem?_append_left hj]
      have hfull := HE.out
      rw [hY] at hfull
      obtain ⟨hk1, hiff⟩ := check_less hfull
      rw [← hY] at hiff
      have hYs : Y.length ≤ 4 := by omega
      have Hiff : Hid (checkE id kind Y t.size = 0 ↔ (1 < L.length ∨ kind = 2)) := hiff
      have HK1 : Hid (kind ≠ 1) := hk1
      clear hfull hiff hk1 hY hYl
      refine (check_any id kind _ c Y t _ hhY (by omega)).mono ?_
      rintro e w10 ⟨rfl, hb10⟩
      have hB10 := (hB9.alloc hB9.size _).trans (hb10.mono (by have := hB9.size; simp; omega))
      have c1 : w10.cell? ⟨w.heap.size, 1, none⟩ = some (.int .i64 kind) := (hb10.cell (p := ⟨w.heap.size, 1, none⟩) (by simp; omega)).trans ((World.cell?_alloc_past _ _ _ bl).trans b1)
      clear hb10 hhY hbc hB9 b0 b1 b2 b3 hh9
      have e1 : (kind != 1) = true := by simpa using HK1.out
      by_cases h1 : (1 : Int) < (L.length : Int)
      · have e2 : (checkE id kind Y t.size == 0) = true := by rw [beq_iff_eq]; exact Hiff.out.2 (Or.inl (by omega))
        go_wp2
        go_ret
        exact ⟨rfl, hB10⟩
      · by_cases h2 : kind = 2
        · have e2 : (checkE id kind Y t.size == 0) = true := by rw [beq_iff_eq]; exact Hiff.out.2 (Or.inr h2)
          have e3 : (kind == 2) = true := by simpa using h2
          clear h2
          go_wp2
          go_ret
          exact ⟨rfl, hB10⟩
        · have e2 : (checkE id kind Y t.size == 0) = false := by rw [beq_eq_false_iff_ne]; exact fun e => by have := Hiff.out.1 e; omega
          have e3 : (kind == 2) = false := by simpa using h2
          clear h2
          go_wp2
          go_ret
          exact ⟨ret_bool (by simp; omega), hB10⟩
end Go.Proofs.Ytdclffgbmcecdaa
