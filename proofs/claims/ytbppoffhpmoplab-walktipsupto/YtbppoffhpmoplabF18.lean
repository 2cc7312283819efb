import Derived.Test.YtbppoffhpmoplabF17
namespace Go.Proofs.Ytbppoffhpmoplab
open Go.RowKit

theorem ReachPost.bad {l : List Ob} {ids : List Int} {w w' : World} {e : Ending} (h : ReachPost l ids w e w') (hz : reachE l ids ≠ 0) : e = .returned (.tuple #[.slice none 0 0, .int .i64 (reachE l ids)]) ∧ Below w.heap.size w w' := by
  rcases h with ⟨hb, ⟨_, q⟩ | ⟨q, _⟩⟩
  · exact ⟨q, hb⟩
  · exact absurd q hz
theorem ReachPost.good {l : List Ob} {ids : List Int} {w w' : World} {e : Ending} (h : ReachPost l ids w e w') (hz : reachE l ids = 0) : ∃ a' c', e = .returned (.tuple #[.slice a' ((partL l ids).map Ob.id).length c', .int .i64 0]) ∧ Holds w' a' ((partL l ids).map Ob.id) ∧ Below w.heap.size w w' := by
  rcases h with ⟨hb, ⟨q, _⟩ | ⟨_, a', c', q, hh, _⟩⟩
  · exact absurd hz q
  · exact ⟨a', c', q, hh, hb⟩

set_option maxHeartbeats 2000000 in
theorem walkTips_bad (p : Option Addr) (cp : Nat) (l : List Ob) (a1 : Option Addr) (c1 : Nat) (A : List Int) (a2 : Option Addr) (c2 : Nat) (B : List Int) (w : World) (h : HoldsS w p l) (hl : l.length ≤ 9223372036854775807)
    (hA : Holds w a1 A) (hAl : A.length ≤ 9223372036854775807) (hB : Holds w a2 B) (hBl : B.length ≤ 9223372036854775807) (hno : ¬ (reachE l A = 0 ∧ reachE l B = 0)) :
    Calls Try.prog 5 #[.slice p l.length cp, .slice a1 A.length c1, .slice a2 B.length c2] w fun e w' => e = .returned (.bool true) ∧ Below w.heap.size w w' := by
  go_enter Try.func5, Try.ntmps5
  go_wp2_with fail
  refine (reach_any p cp l a1 c1 A w h hl hA hAl).mono ?_
  intro e w1 hP1
  have hb1 := hP1.1
  by_cases z1 : reachE l A = 0
  · have z2 : reachE l B ≠ 0 := fun q => hno ⟨z1, q⟩
    obtain ⟨a3, c3, rfl, -, -⟩ := hP1.good z1
    clear hP1
    go_wp2_with fail
    refine (reach_any p cp l a2 c2 B w1 (h.below hb1) hl (hB.below hb1) hBl).mono ?_
    intro e w2 hP2
    obtain ⟨rfl, hb2⟩ := hP2.bad z2
    have hB2 := hb1.trans (hb2.mono hb1.size)
    clear hP2 hb1 hb2
    have z3 : (reachE l B != 0) = true := by simpa using z2
    have z4 : (reachE l B == 0) = false := by simpa using z2
    clear z1 z2 hno
    go_wp2_with fail
    refine (walkBegun_any w2).mono ?_
    rintro e w3 ⟨rfl, hb3⟩
    have hB3 := hB2.trans (hb3.mono hB2.size)
    clear hb3 hB2
    go_wp2
    go_ret
    exact ⟨rfl, hB3⟩
  · obtain ⟨rfl, -⟩ := hP1.bad z1
    clear hP1
    have z5 : (reachE l A != 0) = true := by simpa using z1
    have z6 : (reachE l A == 0) = false := by simpa using z1
    clear hno z1
    go_wp2_with fail
    refine (reach_any p cp l a2 c2 B w1 (h.below hb1) hl (hB.below hb1) hBl).mono ?_
    intro e w2 hP2
    have hb2 := hP2.1
    have hB2 := hb1.trans (hb2.mono hb1.size)
    by_cases z2 : reachE l B = 0
    · obtain ⟨a3, c3, rfl, -, -⟩ := hP2.good z2
      clear hP2 hb1 hb2 z2
      go_wp2_with fail
      refine (walkBegun_any w2).mono ?_
      rintro e w3 ⟨rfl, hb3⟩
      have hB3 := hB2.trans (hb3.mono hB2.size)
      clear hb3 hB2
      go_wp2
      go_ret
      exact ⟨rfl, hB3⟩
    · obtain ⟨rfl, -⟩ := hP2.bad z2
      have z3 : (reachE l B != 0) = true := by simpa using z2
      have z4 : (reachE l B == 0) = false := by simpa using z2
      clear hP2 hb1 hb2 z2
      go_wp2_with fail
      refine (walkBegun_any w2).mono ?_
      rintro e w3 ⟨rfl, hb3⟩
      have hB3 := hB2.trans (hb3.mono hB2.size)
      clear hb3 hB2
      go_wp2
      go_ret
      exact ⟨rfl, hB3⟩

set_option maxHeartbeats 4000000 in
theorem walkTips_ok (p : Option Addr) (cp : Nat) (l : List Ob) (a1 : Option Addr) (c1 : Nat) (A : List Int) (a2 : Option Addr) (c2 : Nat) (B : List Int) (w : World) (h : HoldsS w p l)
    (hA : Holds w a1 A) (hB : Holds w a2 B) (hlen : A.length + B.length ≤ 3000000) (z1 : reachE l A = 0) (z2 : reachE l B = 0) :
    Calls Try.prog 5 #[.slice p l.length cp, .slice a1 A.length c1, .slice a2 B.length c2] w fun e w' => e = .returned (.bool true) ∧ Below w.heap.size w w' := by
  have hck := (reachE_zero z1).1
  have h40 : l.length ≤ 40 := (checkS_iff.1 hck).1
  have HZ : Hid (reachE l (A ++ B) = 0 ∧ reachE l (A ++ (partL l A).map Ob.id) = 0 ∧ partL l (A ++ (partL l A).map Ob.id) = partL l A) := ⟨reachE_both z1 z2, reach_anyhow z1⟩
  have HM : Hid (∀ x ∈ l, decide (x.id ∈ (partL l (A ++ B)).map Ob.id) = (decide (x.id ∈ (partL l A).map Ob.id) || decide (x.id ∈ (partL l B).map Ob.id))) := fun x hx => by
    rw [← Bool.decide_or, decide_eq_decide, part_has hx, part_has hx, part_has hx]
    exact reach_both hck
  have hX40 : ((partL l A).map Ob.id).length ≤ 40 := by rw [List.length_map]; exact Nat.le_trans (partL_length l A) h40
  have hY40 : ((partL l B).map Ob.id).length ≤ 40 := by rw [List.length_map]; exact Nat.le_trans (partL_length l B) h40
  have hZ40 : ((partL l (A ++ B)).map Ob.id).length ≤ 40 := by rw [List.length_map]; exact Nat.le_trans (partL_length l _) h40
  obtain ⟨X, hX⟩ : ∃ X, X = (partL l A).map Ob.id := ⟨_, rfl⟩
  obtain ⟨Y, hY⟩ : ∃ Y, Y = (partL l B).map Ob.id := ⟨_, rfl⟩
  obtain ⟨Z, hZ⟩ : ∃ Z, Z = (partL l (A ++ B)).map Ob.id := ⟨_, rfl⟩
  have HXE : Hid (X = (partL l A).map Ob.id) := hX
  have HYE : Hid (Y = (partL l B).map Ob.id) := hY
  have HZE : Hid (Z = (partL l (A ++ B)).map Ob.id) := hZ
  rw [← hX] at HZ HM hX40
  rw [← hY] at HM hY40
  rw [← hZ] at HM hZ40
  clear hX hY hZ
  go_enter Try.func5, Try.ntmps5
  go_wp2_with fail
  refine (reach_any p cp l a1 c1 A w h (by omega) hA (by omega)).mono ?_
  intro e w1 hP1
  obtain ⟨a3, c3, rfl, hx1, hb1⟩ := hP1.good z1
  rw [← HXE.out] at hx1
  rw [← HXE.out]
  clear hP1
  go_wp2_with fail
  refine (reach_any p cp l a2 c2 B w1 (h.below hb1) (by omega) (hB.below hb1) (by omega)).mono ?_
  intro e w2 hP2
  obtain ⟨a4, c4, rfl, hy2, hb2⟩ := hP2.good z2
  rw [← HYE.out] at hy2
  rw [← HYE.out]
  have hB2 := hb1.trans (hb2.mono hb1.size)
  have hx2 := hx1.below hb2
  clear hP2 hb1 hb2 hx1 z1 z2 hck
  go_wp2_with fail
  refine (walkBegun_any w2).mono ?_
  rintro e w3 ⟨rfl, hb3⟩
  have hB3 := hB2.trans (hb3.mono hB2.size)
  have hx3 := hx2.below hb3
  have hy3 := hy2.below hb3
  clear hb3 hB2 hx2 hy2
  obtain ⟨v5, W5, a6, c6, W6, r5, r6, hT6, hb6⟩ := both_ints w3 27 a1 c1 A (hA.below hB3) a2 c2 B (hB.below hB3) (by omega)
  have hB6 := hB3.trans (hb6.mono hB3.size)
  have hx6 := hx3.below hb6
  have hy6 := hy3.below hb6
  have hTl : (A ++ B).length ≤ 3000000 := by rw [List.length_append]; exact hlen
  go_wp2_with (first
    | (show wpList _ _ _ ({dst := some 56, op := _, type := _, pos := _, after := _, guard := _} :: _) _ _; refine wpList_append27 rfl (.tmp 54) (.tmp 55) rfl _ _ (by rfl) (by rfl) r5 ?_; simp only [Act.put, List.setIfInBounds_toArray, List.set_cons_zero, List.set_cons_succ])
    | (show wpList _ _ _ ({dst := some 58, op := _, type := _, pos := _, after := _, guard := _} :: _) _ _; refine wpList_append27 rfl (.tmp 56) (.tmp 57) rfl _ _ (by rfl) (by rfl) r6 ?_; simp only [Act.put, List.setIfInBounds_toArray, List.set_cons_zero, List.set_cons_succ]))
  clear r5 r6
  have hR6 := reach_any p cp l a6 c6 (A ++ B) W6 (h.below hB6) (by omega) hT6 (by omega)
  rw [List.length_append] at hR6
  refine hR6.mono ?_
  clear hR6
  intro e w7 hP7
  obtain ⟨a7, c7, rfl, hz7, hb7⟩ := hP7.good HZ.out.1
  rw [← HZE.out] at hz7
  rw [← HZE.out]
  have hB7 := hB6.trans (hb7.mono hB6.size)
  have hx7 := hx6.below hb7
  have hy7 := hy6.below hb7
  clear hP7 hb7 hB6 hx6 hy6 hb6 hB3 hx3 hy3 hT6
  obtain ⟨v8, W8, a9, c9, W9, r8, r9, hT9, hb9⟩ := both_ints w7 27 a1 c1 A (hA.below hB7) a3 c3 X hx7 (by omega)
  have hB9 := hB7.trans (hb9.mono hB7.size)
  have hx9 := hx7.below hb9
  have hy9 := hy7.below hb9
  have hz9 := hz7.below hb9
  have hTl9 : (A ++ X).length ≤ 4000000 := by rw [List.length_append]; omega
  go_wp2_with (first
    | (show wpList _ _ _ ({dst := some 66, op := _, type := _, pos := _, after := _, guard := _} :: _) _ _; refine wpList_append27 rfl (.tmp 64) (.tmp 65) rfl _ _ (by rfl) (by rfl) r8 ?_; simp only [Act.put, List.setIfInBounds_toArray, List.set_cons_zero, List.set_cons_succ])
    | (show wpList _ _ _ ({dst := some 68, op := _, type := _, pos := _, after := _, guard := _} :: _) _ _; refine wpList_append27 rfl (.tmp 66) (.tmp 67) rfl _ _ (by rfl) (by rfl) r9 ?_; simp only [Act.put, List.setIfInBounds_toArray, List.set_cons_zero, List.set_cons_succ]))
  clear r8 r9
  have hR9 := reach_any p cp l a9 c9 (A ++ X) W9 (h.below hB9) (by omega) hT9 (by omega)
  rw [List.length_append] at hR9
  refine hR9.mono ?_
  clear hR9
  intro e w10 hP10
  obtain ⟨a10, c10, rfl, hv10, hb10⟩ := hP10.good HZ.out.2.1
  rw [HZ.out.2.2, ← HXE.out] at hv10
  rw [HZ.out.2.2, ← HXE.out]
  have hB10 := hB9.trans (hb10.mono hB9.size)
  have hx10 := hx9.below hb10
  have hy10 := hy9.below hb10
  have hz10 := hz9.below hb10
  clear hP10 hb10 hB9 hx9 hy9 hz9 hb9 hB7 hx7 hy7 hz7 hT9
  go_wp2_with fail
  refine (sameInts_any a10 c10 X a3 c3 X w10 hv10 hx10 (by omega)).mono ?_
  rintro e w11 ⟨rfl, nn, rfl⟩
  have hb11 := below_drewN (Below.refl w10.heap.size w10) nn
  rw [show sameB X X = true by simp [sameB]]
  generalize w10.drewN nn = w11 at *
  have hB11 := hB10.trans (hb11.mono hB10.size)
  have hx11 := hx10.below hb11
  have hy11 := hy10.below hb11
  have hz11 := hz10.below hb11
  clear hb11 hB10 hx10 hy10 hz10 hv10
  go_wp2
  go_loopw [15] (fun i wr => ∃ k : Nat, i = .int .i64 k ∧ k ≤ l.length ∧ Below w11.heap.size w11 wr) (fun i _ => l.length - (intOf i).toNat)
  case atStart => exact ⟨0, rfl, Nat.zero_le _, Below.refl _ _⟩
  case round =>
    obtain ⟨k, rfl, hk, hBr⟩ := hrel
    have hBw := hB11.trans (hBr.mono hB11.size)
    by_cases hlt : k < l.length
    · obtain ⟨b, off, rfl, hb, hcc⟩ := h k hlt
      obtain ⟨sa, sc, x0, x1, x2, x3, x4, x5⟩ := hcc k hlt
      have y0 := (hBw.cell (p := ⟨b, off + k * 4, none⟩) hb).trans x0
      have HMk := HM.out l[k] (List.getElem_mem hlt)
      generalize l[k].id = id at *
      clear hcc x0 x1 x2 x3 x4 x5
      go_wp2_with fail
      have hlt' : (k : Int) < (l.length : Int) := by omega
      have hwd := (Below.refl wr.heap.size wr).drew
      have s0 : wr.drew.cell? ⟨b, off + k * 4, none⟩ = some (.int .i64 id) := y0
      have hBd := hBr.trans (hwd.mono hBr.size)
      have hBwd := hBw.trans (hwd.mono hBw.size)
      clear y0 hwd hBr hBw
      refine wp_region_E (fun W => W.cell? ⟨b, off + k * 4, none⟩ = some (.int .i64 id)) (fun _ => false) (by kernel_rfl) s0 (fun hS => ?_)
      generalize wr.drew = W0 at *
      refine wpAnyE.take (i := 0) (v := ?_) rfl (by kernel_rfl) (by kernel_rfl) (by kernel_rfl) (by kernel_rfl) (fun _ _ _ h => h) (Or.inl ⟨by rfl, ?_⟩) (by assumption) ?_
      rotate_left
      · intro w hSw; go_simp; with_reducible rfl
      try simp only [Act.put, List.getElem_toArray, List.getElem_cons_zero, List.setIfInBounds_toArray, List.set_cons_zero, List.set_cons_succ]
      refine wpAnyE.take (i := 1) (v := ?_) rfl (by kernel_rfl) (by kernel_rfl) (by kernel_rfl) (by kernel_rfl) (fun _ _ _ h => h) (Or.inl ⟨by rfl, ?_⟩) (by assumption) ?_
      rotate_left
      · intro w hSw; go_simp; with_reducible rfl
      try simp only [Act.put, List.getElem_toArray, List.getElem_cons_succ, List.getElem_cons_zero, List.setIfInBounds_toArray, List.set_cons_zero, List.set_cons_succ]
      refine wpAnyE.take (i := 2) (v := ?_) rfl (by kernel_rfl) (by kernel_rfl) (by kernel_rfl) (by kernel_rfl) (fun _ _ _ h => h) (Or.inl ⟨by rfl, ?_⟩) (by assumption) ?_
      rotate_left
      · intro w hSw; go_simp; with_reducible rfl
      try simp only [Act.put, List.getElem_toArray, List.getElem_cons_succ, List.getElem_cons_zero, List.setIfInBounds_toArray, List.set_cons_zero, List.set_cons_succ]
      refine wpAnyE.take (i := 3) (v := ?_) rfl (by kernel_rfl) (by kernel_rfl) (by kernel_rfl) (by kernel_rfl) (fun _ _ _ h => h) (Or.inl ⟨by rfl, ?_⟩) (by assumption) ?_
      rotate_left
      · intro w hSw; go_simp; with_reducible rfl
      try simp only [Act.put, List.getElem_toArray, List.getElem_cons_succ, List.getElem_cons_zero, List.setIfInBounds_toArray, List.set_cons_zero, List.set_cons_succ]
      refine wpAnyE.take (i := 4) (v := ?_) rfl (by kernel_rfl) (by kernel_rfl) (by kernel_rfl) (by kernel_rfl) (fun _ _ _ h => h) (Or.inl ⟨by rfl, ?_⟩) (by assumption) ?_
      rotate_left
      · intro w hSw; go_simp; with_reducible rfl
      try simp only [Act.put, List.getElem_toArray, List.getElem_cons_succ, List.getElem_cons_zero, List.setIfInBounds_toArray, List.set_cons_zero, List.set_cons_succ]
      refine wpAnyE.take (i := 5) (v := ?_) rfl (by kernel_rfl) (by kernel_rfl) (by kernel_rfl) (by kernel_rfl) (fun _ _ _ h => h) (Or.inl ⟨by rfl, ?_⟩) (by assumption) ?_
      rotate_left
      · intro w hSw; have z0 : w.cell? ⟨b, off + k * 4, none⟩ = some (.int .i64 id) := hSw; clear hSw; go_simp; with_reducible rfl
      try simp only [Act.put, List.getElem_toArray, List.getElem_cons_succ, List.getElem_cons_zero, List.setIfInBounds_toArray, List.set_cons_zero, List.set_cons_succ]
      refine wpAnyE.take (i := 7) (v := ?_) rfl (by kernel_rfl) (by kernel_rfl) (by kernel_rfl) (by kernel_rfl) (fun _ _ _ h => h) (Or.inl ⟨by rfl, ?_⟩) (by assumption) ?_
      rotate_left
      · intro w hSw; go_simp; with_reducible rfl
      try simp only [Act.put, List.getElem_toArray, List.getElem_cons_succ, List.getElem_cons_zero, List.setIfInBounds_toArray, List.set_cons_zero, List.set_cons_succ]
      refine wpAnyE.take (i := 8) (v := ?_) rfl (by kernel_rfl) (by kernel_rfl) (by kernel_rfl) (by kernel_rfl) (fun _ _ _ h => h) (Or.inl ⟨by rfl, ?_⟩) (by assumption) ?_
      rotate_left
      · intro w hSw; go_simp; with_reducible rfl
      try simp only [Act.put, List.getElem_toArray, List.getElem_cons_succ, List.getElem_cons_zero, List.setIfInBounds_toArray, List.set_cons_zero, List.set_cons_succ]
      refine wpAnyE.take (i := 9) (v := ?_) rfl (by kernel_rfl) (by kernel_rfl) (by kernel_rfl) (by kernel_rfl) (fun _ _ _ h => h) (Or.inl ⟨by rfl, ?_⟩) (by assumption) ?_
      rotate_left
      · intro w hSw; go_simp; with_reducible rfl
      try simp only [Act.put, List.getElem_toArray, List.getElem_cons_succ, List.getElem_cons_zero, List.setIfInBounds_toArray, List.set_cons_zero, List.set_cons_succ]
      refine wpAnyE.take (i := 10) (v := ?_) rfl (by kernel_rfl) (by kernel_rfl) (by kernel_rfl) (by kernel_rfl) (fun _ _ _ h => h) (Or.inl ⟨by rfl, ?_⟩) (by assumption) ?_
      rotate_left
      · intro w hSw; go_simp; with_reducible rfl
      try simp only [Act.put, List.getElem_toArray, List.getElem_cons_succ, List.getElem_cons_zero, List.setIfInBounds_toArray, List.set_cons_zero, List.set_cons_succ]
      refine wpAnyE.take (i := 11) (v := ?_) rfl (by kernel_rfl) (by kernel_rfl) (by kernel_rfl) (by kernel_rfl) (fun _ _ _ h => h) (Or.inl ⟨by rfl, ?_⟩) (by assumption) ?_
      rotate_left
      · intro w hSw; go_simp; with_reducible rfl
      try simp only [Act.put, List.getElem_toArray, List.getElem_cons_succ, List.getElem_cons_zero, List.setIfInBounds_toArray, List.set_cons_zero, List.set_cons_succ]
      refine wpAnyE.take (i := 12) (v := ?_) rfl (by kernel_rfl) (by kernel_rfl) (by kernel_rfl) (by kernel_rfl) (fun _ _ _ h => h) (Or.inl ⟨by rfl, ?_⟩) (by assumption) ?_
      rotate_left
      · intro w hSw; have z0 : w.cell? ⟨b, off + k * 4, none⟩ = some (.int .i64 id) := hSw; clear hSw; go_simp; with_reducible rfl
      try simp only [Act.put, List.getElem_toArray, List.getElem_cons_succ, List.getElem_cons_zero, List.setIfInBounds_toArray, List.set_cons_zero, List.set_cons_succ]
      refine wpAnyE.one (i := 6) (by kernel_rfl) rfl (fun K hK => ?_)
      go_simp
      refine (has_any a7 c7 Z id W0 (hz11.below hBd) (by omega)).mono ?_
      rintro e W1 ⟨rfl, hbc⟩
      have s1 : W1.cell? ⟨b, off + k * 4, none⟩ = some (.int .i64 id) := (hbc.cell (p := ⟨b, off + k * 4, none⟩) (Nat.lt_of_lt_of_le hb hBwd.size)).trans s0
      replace hBd := hBd.trans (hbc.mono hBd.size)
      replace hBwd := hBwd.trans (hbc.mono hBwd.size)
      clear hbc hS s0
      have hS := s1
      refine hK _ _ (fun _ => hS) ?_
      clear hK K
      try simp only [Act.put, List.getElem_toArray, List.getElem_cons_succ, List.getElem_cons_zero, List.setIfInBounds_toArray, List.set_cons_zero, List.set_cons_succ]
      refine wpAnyE.one (i := 13) (by kernel_rfl) rfl (fun K hK => ?_)
      go_simp
      refine (has_any a3 c3 X id W1 (hx11.below hBd) (by omega)).mono ?_
      rintro e W2 ⟨rfl, hbc⟩
      have s2 : W2.cell? ⟨b, off + k * 4, none⟩ = some (.int .i64 id) := (hbc.cell (p := ⟨b, off + k * 4, none⟩) (Nat.lt_of_lt_of_le hb hBwd.size)).trans s1
      replace hBd := hBd.trans (hbc.mono hBd.size)
      replace hBwd := hBwd.trans (hbc.mono hBwd.size)
      clear hbc hS s1
      have hS := s2
      refine hK _ _ (fun _ => hS) ?_
      clear hK K
      try simp only [Act.put, List.getElem_toArray, List.getElem_cons_succ, List.getElem_cons_zero, List.setIfInBounds_toArray, List.set_cons_zero, List.set_cons_succ]
      generalize decide (id ∈ Z) = dz at *
      generalize decide (id ∈ X) = dx at *
      cases dx with
      | true =>
        obtain rfl : dz = true := by simpa using HMk
        clear HMk
        refine wpAnyE.take (i := 14) (v := ?_) rfl (by kernel_rfl) (by kernel_rfl) (by kernel_rfl) (by kernel_rfl) (fun _ _ _ h => h) (Or.inl ⟨by rfl, ?_⟩) (by assumption) ?_
        rotate_left
        · intro w hSw; go_simp; with_reducible rfl
        try simp only [Act.put, List.getElem_toArray, List.getElem_cons_succ, List.getElem_cons_zero, List.setIfInBounds_toArray, List.set_cons_zero, List.set_cons_succ]
        refine wpAnyE.take (i := 15) (v := undef) rfl (by kernel_rfl) (by kernel_rfl) (by kernel_rfl) (by kernel_rfl) (fun _ _ _ h => h) (Or.inr ⟨by rfl, rfl⟩) (by assumption) ?_
        try simp only [Act.put, List.getElem_toArray, List.getElem_cons_succ, List.getElem_cons_zero, List.setIfInBounds_toArray, List.set_cons_zero, List.set_cons_succ]
        refine wpAnyE.take (i := 16) (v := undef) rfl (by kernel_rfl) (by kernel_rfl) (by kernel_rfl) (by kernel_rfl) (fun _ _ _ h => h) (Or.inr ⟨by rfl, rfl⟩) (by assumption) ?_
        try simp only [Act.put, List.getElem_toArray, List.getElem_cons_succ, List.getElem_cons_zero, List.setIfInBounds_toArray, List.set_cons_zero, List.set_cons_succ]
        refine wpAnyE.take (i := 17) (v := undef) rfl (by kernel_rfl) (by kernel_rfl) (by kernel_rfl) (by kernel_rfl) (fun _ _ _ h => h) (Or.inr ⟨by rfl, rfl⟩) (by assumption) ?_
        try simp only [Act.put, List.getElem_toArray, List.getElem_cons_succ, List.getElem_cons_zero, List.setIfInBounds_toArray, List.set_cons_zero, List.set_cons_succ]
        refine wpAnyE.take (i := 18) (v := undef) rfl (by kernel_rfl) (by kernel_rfl) (by kernel_rfl) (by kernel_rfl) (fun _ _ _ h => h) (Or.inr ⟨by rfl, rfl⟩) (by assumption) ?_
        try simp only [Act.put, List.getElem_toArray, List.getElem_cons_succ, List.getElem_cons_zero, List.setIfInBounds_toArray, List.set_cons_zero, List.set_cons_succ]
        refine wpAnyE.take (i := 19) (v := undef) rfl (by kernel_rfl) (by kernel_rfl) (by kernel_rfl) (by kernel_rfl) (fun _ _ _ h => h) (Or.inr ⟨by rfl, rfl⟩) (by assumption) ?_
        try simp only [Act.put, List.getElem_toArray, List.getElem_cons_succ, List.getElem_cons_zero, List.setIfInBounds_toArray, List.set_cons_zero, List.set_cons_succ]
        refine wpAnyE.take (i := 20) (v := undef) rfl (by kernel_rfl) (by kernel_rfl) (by kernel_rfl) (by kernel_rfl) (fun _ _ _ h => h) (Or.inr ⟨by rfl, rfl⟩) (by assumption) ?_
        try simp only [Act.put, List.getElem_toArray, List.getElem_cons_succ, List.getElem_cons_zero, List.setIfInBounds_toArray, List.set_cons_zero, List.set_cons_succ]
        refine wpAnyE.take (i := 21) (v := undef) rfl (by kernel_rfl) (by kernel_rfl) (by kernel_rfl) (by kernel_rfl) (fun _ _ _ h => h) (Or.inr ⟨by rfl, rfl⟩) (by assumption) ?_
        try simp only [Act.put, List.getElem_toArray, List.getElem_cons_succ, List.getElem_cons_zero, List.setIfInBounds_toArray, List.set_cons_zero, List.set_cons_succ]
        refine wpAnyE.take (i := 22) (v := ?_) rfl (by kernel_rfl) (by kernel_rfl) (by kernel_rfl) (by kernel_rfl) (fun _ _ _ h => h) (Or.inl ⟨by rfl, ?_⟩) (by assumption) ?_
        rotate_left
        · intro w hSw; go_simp; with_reducible rfl
        try simp only [Act.put, List.getElem_toArray, List.getElem_cons_succ, List.getElem_cons_zero, List.setIfInBounds_toArray, List.set_cons_zero, List.set_cons_succ]
        refine wpAnyE.take (i := 23) (v := ?_) rfl (by kernel_rfl) (by kernel_rfl) (by kernel_rfl) (by kernel_rfl) (fun _ _ _ h => h) (Or.inl ⟨by rfl, ?_⟩) (by assumption) ?_
        rotate_left
        · intro w hSw; go_simp; with_reducible rfl
        try simp only [Act.put, List.getElem_toArray, List.getElem_cons_succ, List.getElem_cons_zero, List.setIfInBounds_toArray, List.set_cons_zero, List.set_cons_succ]
        refine wpAnyE.done (by kernel_rfl) ?_
        clear hS
        go_wp2
        go_roundw
        case rel => exact ⟨k + 1, by go_num, by omega, hBd⟩
        case measure => simp [intOf]; omega
      | false =>
        refine wpAnyE.take (i := 14) (v := ?_) rfl (by kernel_rfl) (by kernel_rfl) (by kernel_rfl) (by kernel_rfl) (fun _ _ _ h => h) (Or.inl ⟨by rfl, ?_⟩) (by assumption) ?_
        rotate_left
        · intro w hSw; go_simp; with_reducible rfl
        try simp only [Act.put, List.getElem_toArray, List.getElem_cons_succ, List.getElem_cons_zero, List.setIfInBounds_toArray, List.set_cons_zero, List.set_cons_succ]
        refine wpAnyE.take (i := 15) (v := ?_) rfl (by kernel_rfl) (by kernel_rfl) (by kernel_rfl) (by kernel_rfl) (fun _ _ _ h => h) (Or.inl ⟨by rfl, ?_⟩) (by assumption) ?_
        rotate_left
        · intro w hSw; go_simp; with_reducible rfl
        try simp only [Act.put, List.getElem_toArray, List.getElem_cons_succ, List.getElem_cons_zero, List.setIfInBounds_toArray, List.set_cons_zero, List.set_cons_succ]
        refine wpAnyE.take (i := 16) (v := ?_) rfl (by kernel_rfl) (by kernel_rfl) (by kernel_rfl) (by kernel_rfl) (fun _ _ _ h => h) (Or.inl ⟨by rfl, ?_⟩) (by assumption) ?_
        rotate_left
        · intro w hSw; go_simp; with_reducible rfl
        try simp only [Act.put, List.getElem_toArray, List.getElem_cons_succ, List.getElem_cons_zero, List.setIfInBounds_toArray, List.set_cons_zero, List.set_cons_succ]
        refine wpAnyE.take (i := 17) (v := ?_) rfl (by kernel_rfl) (by kernel_rfl) (by kernel_rfl) (by kernel_rfl) (fun _ _ _ h => h) (Or.inl ⟨by rfl, ?_⟩) (by assumption) ?_
        rotate_left
        · intro w hSw; go_simp; with_reducible rfl
        try simp only [Act.put, List.getElem_toArray, List.getElem_cons_succ, List.getElem_cons_zero, List.setIfInBounds_toArray, List.set_cons_zero, List.set_cons_succ]
        refine wpAnyE.take (i := 18) (v := ?_) rfl (by kernel_rfl) (by kernel_rfl) (by kernel_rfl) (by kernel_rfl) (fun _ _ _ h => h) (Or.inl ⟨by rfl, ?_⟩) (by assumption) ?_
        rotate_left
        · intro w hSw; go_simp; with_reducible rfl
        try simp only [Act.put, List.getElem_toArray, List.getElem_cons_succ, List.getElem_cons_zero, List.setIfInBounds_toArray, List.set_cons_zero, List.set_cons_succ]
        refine wpAnyE.take (i := 19) (v := ?_) rfl (by kernel_rfl) (by kernel_rfl) (by kernel_rfl) (by kernel_rfl) (fun _ _ _ h => h) (Or.inl ⟨by rfl, ?_⟩) (by assumption) ?_
        rotate_left
        · intro w hSw; go_simp; with_reducible rfl
        try simp only [Act.put, List.getElem_toArray, List.getElem_cons_succ, List.getElem_cons_zero, List.setIfInBounds_toArray, List.set_cons_zero, List.set_cons_succ]
        refine wpAnyE.take (i := 20) (v := ?_) rfl (by kernel_rfl) (by kernel_rfl) (by kernel_rfl) (by kernel_rfl) (fun _ _ _ h => h) (Or.inl ⟨by rfl, ?_⟩) (by assumption) ?_
        rotate_left
        · intro w hSw; have z0 : w.cell? ⟨b, off + k * 4, none⟩ = some (.int .i64 id) := hSw; clear hSw; go_simp; with_reducible rfl
        try simp only [Act.put, List.getElem_toArray, List.getElem_cons_succ, List.getElem_cons_zero, List.setIfInBounds_toArray, List.set_cons_zero, List.set_cons_succ]
        refine wpAnyE.one (i := 21) (by kernel_rfl) rfl (fun K hK => ?_)
        go_simp
        refine (has_any a4 c4 Y id W2 (hy11.below hBd) (by omega)).mono ?_
        rintro e W3 ⟨rfl, hbc⟩
        have s3 : W3.cell? ⟨b, off + k * 4, none⟩ = some (.int .i64 id) := (hbc.cell (p := ⟨b, off + k * 4, none⟩) (Nat.lt_of_lt_of_le hb hBwd.size)).trans s2
        replace hBd := hBd.trans (hbc.mono hBd.size)
        replace hBwd := hBwd.trans (hbc.mono hBwd.size)
        clear hbc hS s2
        have hS := s3
        refine hK _ _ (fun _ => hS) ?_
        clear hK K
        try simp only [Act.put, List.getElem_toArray, List.getElem_cons_succ, List.getElem_cons_zero, List.setIfInBounds_toArray, List.set_cons_zero, List.set_cons_succ]
        generalize decide (id ∈ Y) = dy at *
        obtain rfl : dz = dy := by simpa using HMk
        clear HMk
        refine wpAnyE.take (i := 22) (v := ?_) rfl (by kernel_rfl) (by kernel_rfl) (by kernel_rfl) (by kernel_rfl) (fun _ _ _ h => h) (Or.inl ⟨by rfl, ?_⟩) (by assumption) ?_
        rotate_left
        · intro w hSw; go_simp; with_reducible rfl
        try simp only [Act.put, List.getElem_toArray, List.getElem_cons_succ, List.getElem_cons_zero, List.setIfInBounds_toArray, List.set_cons_zero, List.set_cons_succ]
        refine wpAnyE.take (i := 23) (v := ?_) rfl (by kernel_rfl) (by kernel_rfl) (by kernel_rfl) (by kernel_rfl) (fun _ _ _ h => h) (Or.inl ⟨by rfl, ?_⟩) (by assumption) ?_
        rotate_left
        · intro w hSw; go_simp; with_reducible rfl
        try simp only [Act.put, List.getElem_toArray, List.getElem_cons_succ, List.getElem_cons_zero, List.setIfInBounds_toArray, List.set_cons_zero, List.set_cons_succ]
        refine wpAnyE.done (by kernel_rfl) ?_
        clear hS
        cases dz with
        | true =>
          go_wp2
          go_roundw
          case rel => exact ⟨k + 1, by go_num, by omega, hBd⟩
          case measure => simp [intOf]; omega
        | false =>
          go_wp2
          go_roundw
          case rel => exact ⟨k + 1, by go_num, by omega, hBd⟩
          case measure => simp [intOf]; omega
    · go_wp2
      go_ret
      exact ⟨rfl, hBw⟩
end Go.Proofs.Ytbppoffhpmoplab
