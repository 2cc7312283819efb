import Derived.Test.YtdclffgbmcecdaaB5
import Derived.Deep.RegionHeld
namespace Go.Proofs.Ytdclffgbmcecdaa
open Go.RowKit

theorem nums_data {a b : ByteArray} (h : a.data.toList = b.data.toList) : a = b := nums_inj (by rw [nums, nums, h])
theorem strOf_append (A B : List Int) : strOfNums A ++ strOfNums B = strOfNums (A ++ B) := by
  refine nums_data ?_
  rw [ByteArray.data_append, Array.toList_append, strOfNums_data, strOfNums_data, strOfNums_data, List.map_append]

set_option maxHeartbeats 400000 in
theorem oneByte_any (n : Int) (w : World) (h : 0 ≤ n ∧ n ≤ 255) :
    Calls Try.prog 25 #[.int .i64 n] w fun e w' => e = .returned (.string (strOfNums [n])) ∧ Below w.heap.size w w' := by
  have hw8 := u8_same h
  have hcv : (convert 43 9 (.slice (some ⟨w.heap.size, 0, none⟩) 1 1)).run Try.prog (w.alloc (.cells #[.int .u8 n] 5)) = .ok (.string (strOfNums [n])) (w.alloc (.cells #[.int .u8 n] 5)) :=
    run_convert_bytes_arg _ 43 5 Try.underlying43 Try.underlying5 w.heap.size 0 1 1 [n] rfl (fun i hi => by
      have : i = 0 := by omega
      subst this
      rw [World.cell?_alloc_at _ _ _ _ rfl]; rfl) 9 Try.underlying9
  go_enter Try.func25, Try.ntmps25
  go_wp2
  go_ret
  exact ⟨rfl, below_alloc _ _⟩

/-- the box of an object, and its links, kept. -/
structure Box (w : World) (id kind : Int) (a : Option Addr) (c : Nat) (L : List Int) (t : ByteArray) (w' : World) : Prop where
  below : Below w.heap.size w w'
  holds : Holds w' a L
  box : Cells4 w.heap.size (.int .i64 id) (.int .i64 kind) (.slice a L.length c) (.string t) w'
theorem Box.step {w : World} {id kind : Int} {a : Option Addr} {c : Nat} {L : List Int} {t : ByteArray} {w' w1 : World} (h : Box w id kind a c L t w') (hb : Below w'.heap.size w' w1) : Box w id kind a c L t w1 :=
  ⟨h.below.trans (hb.mono h.below.size), h.holds.below hb, h.box.below hb h.box.lt⟩
theorem Box.drew {w : World} {id kind : Int} {a : Option Addr} {c : Nat} {L : List Int} {t : ByteArray} {w' : World} (h : Box w id kind a c L t w') : Box w id kind a c L t w'.drew := h.step (Below.refl _ _).drew
theorem Box.four {w : World} {id kind : Int} {a : Option Addr} {c : Nat} {L : List Int} {t : ByteArray} {w' : World} (h : Box w id kind a c L t w') :
    (w'.cell? ⟨w.heap.size, 0, none⟩ = some (.int .i64 id) ∧ w'.cell? ⟨w.heap.size, 1, none⟩ = some (.int .i64 kind) ∧ w'.cell? ⟨w.heap.size, 2, none⟩ = some (.slice a L.length c) ∧ w'.cell? ⟨w.heap.size, 3, none⟩ = some (.string t)) ∧ Box w id kind a c L t w' :=
  ⟨⟨h.box.c0, h.box.c1, h.box.c2, h.box.c3⟩, h⟩

set_option maxHeartbeats 1000000 in
theorem objectBytes_any (id kind : Int) (a : Option Addr) (c : Nat) (L : List Int) (t : ByteArray) (w : World)
    (h : Holds w a L) (he : checkE id kind L t.size = 0) :
    Calls Try.prog 13 #[.agg #[.int .i64 id, .int .i64 kind, .slice a L.length c, .string t]] w
      fun e w' => e = .returned (.string (strOfNums (encNums id kind L t.size) ++ t)) ∧ Below w.heap.size w w' := by
  obtain ⟨hid, hki, hL4, ht8, hlk, _⟩ := checkE_zero he
  have HM : Hid (∀ x ∈ L, 0 ≤ x ∧ x ≤ 255) := fun x hx => by have := linksE_mem L 0 0 hlk x hx; omega
  have HB : Box w id kind a c L t (w.alloc (.cells #[.int .i64 id, .int .i64 kind, .slice a L.length c, .string t] 24)) := ⟨below_alloc _ _, h.below (below_alloc _ _), Cells4.new _ _ _ _ _ _⟩
  clear he hlk
  go_enter Try.func13, Try.ntmps13
  go_wp2
  generalize w.alloc (.cells #[.int .i64 id, .int .i64 kind, .slice a L.length c, .string t] 24) = W0 at *
  have hz1 : ¬ 9223372036854775807 < (strOfNums [id]).size + (strOfNums [kind]).size := by rw [strOfNums_size, strOfNums_size]; simp
  have hz2 : ¬ 9223372036854775807 < (strOfNums [id]).size + (strOfNums [kind]).size + (strOfNums [(L.length : Int)]).size := by rw [strOfNums_size, strOfNums_size, strOfNums_size]; simp
  refine wp_region_held_drew (S := (fun w' => (w'.cell? ⟨w.heap.size, 0, none⟩ = some (.int .i64 id) ∧ w'.cell? ⟨w.heap.size, 1, none⟩ = some (.int .i64 kind) ∧ w'.cell? ⟨w.heap.size, 2, none⟩ = some (.slice a L.length c) ∧ w'.cell? ⟨w.heap.size, 3, none⟩ = some (.string t)) ∧ Box w id kind a c L t w')) (by kernel_rfl) ?_ (fun hHeld => ?_)
  · exact HB.drew.four
  clear HB
  refine wpAnyH_take (i := 0) (v := ?_) rfl (by kernel_rfl) (by kernel_rfl) (by kernel_rfl) (fun _ _ _ h => h) (Or.inl ⟨by rfl, ?_⟩) (by assumption) ?_
  rotate_left
  · intro w hSw; obtain ⟨⟨z0, z1, z2, z3⟩, _⟩ := hSw; go_simp; with_reducible rfl
  try simp only [Act.put, List.getElem_toArray, List.getElem_cons_zero, List.setIfInBounds_toArray, List.set_cons_zero, List.set_cons_succ]
  refine wpAnyH_take (i := 1) (v := ?_) rfl (by kernel_rfl) (by kernel_rfl) (by kernel_rfl) (fun _ _ _ h => h) (Or.inl ⟨by rfl, ?_⟩) (by assumption) ?_
  rotate_left
  · intro w hSw; obtain ⟨⟨z0, z1, z2, z3⟩, _⟩ := hSw; go_simp; with_reducible rfl
  try simp only [Act.put, List.getElem_toArray, List.getElem_cons_succ, List.getElem_cons_zero, List.setIfInBounds_toArray, List.set_cons_zero, List.set_cons_succ]
  refine wpAnyH_take (i := 3) (v := ?_) rfl (by kernel_rfl) (by kernel_rfl) (by kernel_rfl) (fun _ _ _ h => h) (Or.inl ⟨by rfl, ?_⟩) (by assumption) ?_
  rotate_left
  · intro w hSw; obtain ⟨⟨z0, z1, z2, z3⟩, _⟩ := hSw; go_simp; with_reducible rfl
  try simp only [Act.put, List.getElem_toArray, List.getElem_cons_succ, List.getElem_cons_zero, List.setIfInBounds_toArray, List.set_cons_zero, List.set_cons_succ]
  refine wpAnyH_take (i := 4) (v := ?_) rfl (by kernel_rfl) (by kernel_rfl) (by kernel_rfl) (fun _ _ _ h => h) (Or.inl ⟨by rfl, ?_⟩) (by assumption) ?_
  rotate_left
  · intro w hSw; obtain ⟨⟨z0, z1, z2, z3⟩, _⟩ := hSw; go_simp; with_reducible rfl
  try simp only [Act.put, List.getElem_toArray, List.getElem_cons_succ, List.getElem_cons_zero, List.setIfInBounds_toArray, List.set_cons_zero, List.set_cons_succ]
  refine wpAnyH_take (i := 7) (v := ?_) rfl (by kernel_rfl) (by kernel_rfl) (by kernel_rfl) (fun _ _ _ h => h) (Or.inl ⟨by rfl, ?_⟩) (by assumption) ?_
  rotate_left
  · intro w hSw; obtain ⟨⟨z0, z1, z2, z3⟩, _⟩ := hSw; go_simp; with_reducible rfl
  try simp only [Act.put, List.getElem_toArray, List.getElem_cons_succ, List.getElem_cons_zero, List.setIfInBounds_toArray, List.set_cons_zero, List.set_cons_succ]
  refine wpAnyH_take (i := 8) (v := ?_) rfl (by kernel_rfl) (by kernel_rfl) (by kernel_rfl) (fun _ _ _ h => h) (Or.inl ⟨by rfl, ?_⟩) (by assumption) ?_
  rotate_left
  · intro w hSw; obtain ⟨⟨z0, z1, z2, z3⟩, _⟩ := hSw; go_simp; with_reducible rfl
  try simp only [Act.put, List.getElem_toArray, List.getElem_cons_succ, List.getElem_cons_zero, List.setIfInBounds_toArray, List.set_cons_zero, List.set_cons_succ]
  refine wpAnyH_take (i := 9) (v := ?_) rfl (by kernel_rfl) (by kernel_rfl) (by kernel_rfl) (fun _ _ _ h => h) (Or.inl ⟨by rfl, ?_⟩) (by assumption) ?_
  rotate_left
  · intro w hSw; obtain ⟨⟨z0, z1, z2, z3⟩, _⟩ := hSw; go_simp; with_reducible rfl
  try simp only [Act.put, List.getElem_toArray, List.getElem_cons_succ, List.getElem_cons_zero, List.setIfInBounds_toArray, List.set_cons_zero, List.set_cons_succ]
  refine wpAnyH_ready (rs := [2]) (by kernel_rfl) (by simp) ?_
  refine AllReadyH.cons rfl (fun K hK => ?_) AllReadyH.nil
  go_simp
  refine (oneByte_any id _ (by omega)).mono ?_
  rintro e w1 ⟨rfl, hb⟩
  have hA := hHeld.2.step hb
  clear hb
  go_wp2_with fail
  refine hK.out _ _ hA.four (fun hHeld => ?_)
  clear hK K hA
  try simp only [Act.put, List.getElem_toArray, List.getElem_cons_succ, List.getElem_cons_zero, List.setIfInBounds_toArray, List.set_cons_zero, List.set_cons_succ]
  refine wpAnyH_ready (rs := [5]) (by kernel_rfl) (by simp) ?_
  refine AllReadyH.cons rfl (fun K hK => ?_) AllReadyH.nil
  go_simp
  refine (oneByte_any kind _ (by omega)).mono ?_
  rintro e w2 ⟨rfl, hb⟩
  have hA := hHeld.2.step hb
  clear hb
  go_wp2_with fail
  refine hK.out _ _ hA.four (fun hHeld => ?_)
  clear hK K hA
  try simp only [Act.put, List.getElem_toArray, List.getElem_cons_succ, List.getElem_cons_zero, List.setIfInBounds_toArray, List.set_cons_zero, List.set_cons_succ]
  refine wpAnyH_take (i := 6) (v := ?_) rfl (by kernel_rfl) (by kernel_rfl) (by kernel_rfl) (fun _ _ _ h => h) (Or.inl ⟨by rfl, ?_⟩) (by assumption) ?_
  rotate_left
  · intro w hSw; obtain ⟨⟨z0, z1, z2, z3⟩, _⟩ := hSw; go_simp; with_reducible rfl
  try simp only [Act.put, List.getElem_toArray, List.getElem_cons_succ, List.getElem_cons_zero, List.setIfInBounds_toArray, List.set_cons_zero, List.set_cons_succ]
  refine wpAnyH_ready (rs := [10]) (by kernel_rfl) (by simp) ?_
  refine AllReadyH.cons rfl (fun K hK => ?_) AllReadyH.nil
  go_simp
  refine (oneByte_any (L.length : Int) _ (by omega)).mono ?_
  rintro e w3 ⟨rfl, hb⟩
  have hA := hHeld.2.step hb
  clear hb
  go_wp2_with fail
  refine hK.out _ _ hA.four (fun hHeld => ?_)
  clear hK K hA
  try simp only [Act.put, List.getElem_toArray, List.getElem_cons_succ, List.getElem_cons_zero, List.setIfInBounds_toArray, List.set_cons_zero, List.set_cons_succ]
  refine wpAnyH_take (i := 11) (v := ?_) rfl (by kernel_rfl) (by kernel_rfl) (by kernel_rfl) (fun _ _ _ h => h) (Or.inl ⟨by rfl, ?_⟩) (by assumption) ?_
  rotate_left
  · intro w hSw; obtain ⟨⟨z0, z1, z2, z3⟩, _⟩ := hSw; go_simp; with_reducible rfl
  try simp only [Act.put, List.getElem_toArray, List.getElem_cons_succ, List.getElem_cons_zero, List.setIfInBounds_toArray, List.set_cons_zero, List.set_cons_succ]
  refine wpAnyH_take (i := 12) (v := ?_) rfl (by kernel_rfl) (by kernel_rfl) (by kernel_rfl) (fun _ _ _ h => h) (Or.inl ⟨by rfl, ?_⟩) (by assumption) ?_
  rotate_left
  · intro w hSw; obtain ⟨⟨z0, z1, z2, z3⟩, _⟩ := hSw; go_simp; with_reducible rfl
  try simp only [Act.put, List.getElem_toArray, List.getElem_cons_succ, List.getElem_cons_zero, List.setIfInBounds_toArray, List.set_cons_zero, List.set_cons_succ]
  refine wpAnyH_done (by kernel_rfl) ?_ _
  have HB := hHeld.2
  clear hHeld hz1 hz2
  rw [strOf_append, strOf_append]
  go_wp2
  go_loopw [3, 4] (fun s i wr => ∃ k : Nat, i = .int .i64 k ∧ k ≤ L.length ∧ s = .string (strOfNums ([id] ++ [kind] ++ [(L.length : Int)] ++ L.take k)) ∧ Box w id kind a c L t wr) (fun _ i _ => L.length - (intOf i).toNat)
  case atStart => exact ⟨0, rfl, Nat.zero_le _, by simp, HB⟩
  case round =>
    clear HB
    obtain ⟨k, rfl, hk, rfl, HW⟩ := hrel
    obtain ⟨⟨q0, q1, q2, q3⟩, _⟩ := HW.four
    by_cases hlt : k < L.length
    · obtain ⟨b1, o1, rfl, _, hc⟩ := HW.holds k hlt
      have hk1 : wr.cell? ⟨b1, o1 + k, none⟩ = some (.int .i64 L[k]) := by have := hc k hlt; simpa [hlt] using this
      have hx := HM.out L[k] (List.getElem_mem hlt)
      have hlt' : (k : Int) < (L.length : Int) := by omega
      have hsz : (strOfNums ([id] ++ [kind] ++ [(L.length : Int)] ++ L.take k)).size + (strOfNums [L[k]]).size ≤ 9223372036854775807 := by rw [strOfNums_size, strOfNums_size]; simp; omega
      have HT : Hid (strOfNums ([id] ++ [kind] ++ [(L.length : Int)] ++ L.take k) ++ strOfNums [L[k]] = strOfNums ([id] ++ [kind] ++ [(L.length : Int)] ++ L.take (k + 1))) := by unfold Hid; rw [strOf_append, List.take_succ_eq_append_getElem hlt]; simp only [List.append_assoc]
      generalize strOfNums ([id] ++ [kind] ++ [(L.length : Int)] ++ L.take k) = S at *
      clear hc
      go_wp2_with fail
      refine (oneByte_any L[k] _ hx).mono ?_
      rintro e w5 ⟨rfl, hb⟩
      have HW5 := HW.step hb
      clear hb q0 q1 q2 q3 hk1 HW
      go_wp2
      go_roundw
      case rel =>
        (repeat apply Exists.intro)
        exact ⟨⟨k + 1, by go_num, by omega, by rw [← HT.out], HW5⟩, rfl⟩
      case measure => simp [intOf]; omega
    · have hkn : k = L.length := by omega
      subst hkn
      rw [List.take_length]
      have hsz : ¬ 9223372036854775807 < (strOfNums ([id] ++ [kind] ++ [(L.length : Int)] ++ L)).size + (strOfNums [(t.size : Int)]).size := by rw [strOfNums_size, strOfNums_size]; simp; omega
      have HT : Hid (strOfNums ([id] ++ [kind] ++ [(L.length : Int)] ++ L) ++ strOfNums [(t.size : Int)] ++ t = strOfNums (encNums id kind L t.size) ++ t) := by unfold Hid; rw [strOf_append]; simp only [encNums, List.cons_append, List.nil_append]
      have hsz3 : ¬ 9223372036854775807 < (strOfNums ([id] ++ [kind] ++ [(L.length : Int)] ++ L)).size + (strOfNums [(t.size : Int)]).size + t.size := by rw [strOfNums_size, strOfNums_size]; simp; omega
      generalize strOfNums ([id] ++ [kind] ++ [(L.length : Int)] ++ L) = S at *
      clear q0 q1 q3
      go_wp2
      refine wp_region_held_drew (S := (fun w' => (w'.cell? ⟨w.heap.size, 0, none⟩ = some (.int .i64 id) ∧ w'.cell? ⟨w.heap.size, 1, none⟩ = some (.int .i64 kind) ∧ w'.cell? ⟨w.heap.size, 2, none⟩ = some (.slice a L.length c) ∧ w'.cell? ⟨w.heap.size, 3, none⟩ = some (.string t)) ∧ Box w id kind a c L t w')) (by kernel_rfl) ?_ (fun hHeld => ?_)
      · exact HW.drew.four
      clear HW
      refine wpAnyH_take (i := 0) (v := ?_) rfl (by kernel_rfl) (by kernel_rfl) (by kernel_rfl) (fun _ _ _ h => h) (Or.inl ⟨by rfl, ?_⟩) (by assumption) ?_
      rotate_left
      · intro w hSw; obtain ⟨⟨z0, z1, z2, z3⟩, _⟩ := hSw; go_simp; with_reducible rfl
      try simp only [Act.put, List.getElem_toArray, List.getElem_cons_zero, List.setIfInBounds_toArray, List.set_cons_zero, List.set_cons_succ]
      refine wpAnyH_take (i := 1) (v := ?_) rfl (by kernel_rfl) (by kernel_rfl) (by kernel_rfl) (fun _ _ _ h => h) (Or.inl ⟨by rfl, ?_⟩) (by assumption) ?_
      rotate_left
      · intro w hSw; obtain ⟨⟨z0, z1, z2, z3⟩, _⟩ := hSw; go_simp; with_reducible rfl
      try simp only [Act.put, List.getElem_toArray, List.getElem_cons_succ, List.getElem_cons_zero, List.setIfInBounds_toArray, List.set_cons_zero, List.set_cons_succ]
      refine wpAnyH_take (i := 2) (v := ?_) rfl (by kernel_rfl) (by kernel_rfl) (by kernel_rfl) (fun _ _ _ h => h) (Or.inl ⟨by rfl, ?_⟩) (by assumption) ?_
      rotate_left
      · intro w hSw; obtain ⟨⟨z0, z1, z2, z3⟩, _⟩ := hSw; go_simp; with_reducible rfl
      try simp only [Act.put, List.getElem_toArray, List.getElem_cons_succ, List.getElem_cons_zero, List.setIfInBounds_toArray, List.set_cons_zero, List.set_cons_succ]
      refine wpAnyH_take (i := 3) (v := ?_) rfl (by kernel_rfl) (by kernel_rfl) (by kernel_rfl) (fun _ _ _ h => h) (Or.inl ⟨by rfl, ?_⟩) (by assumption) ?_
      rotate_left
      · intro w hSw; obtain ⟨⟨z0, z1, z2, z3⟩, _⟩ := hSw; go_simp; with_reducible rfl
      try simp only [Act.put, List.getElem_toArray, List.getElem_cons_succ, List.getElem_cons_zero, List.setIfInBounds_toArray, List.set_cons_zero, List.set_cons_succ]
      refine wpAnyH_take (i := 6) (v := ?_) rfl (by kernel_rfl) (by kernel_rfl) (by kernel_rfl) (fun _ _ _ h => h) (Or.inl ⟨by rfl, ?_⟩) (by assumption) ?_
      rotate_left
      · intro w hSw; obtain ⟨⟨z0, z1, z2, z3⟩, _⟩ := hSw; go_simp; with_reducible rfl
      try simp only [Act.put, List.getElem_toArray, List.getElem_cons_succ, List.getElem_cons_zero, List.setIfInBounds_toArray, List.set_cons_zero, List.set_cons_succ]
      refine wpAnyH_take (i := 7) (v := ?_) rfl (by kernel_rfl) (by kernel_rfl) (by kernel_rfl) (fun _ _ _ h => h) (Or.inl ⟨by rfl, ?_⟩) (by assumption) ?_
      rotate_left
      · intro w hSw; obtain ⟨⟨z0, z1, z2, z3⟩, _⟩ := hSw; go_simp; with_reducible rfl
      try simp only [Act.put, List.getElem_toArray, List.getElem_cons_succ, List.getElem_cons_zero, List.setIfInBounds_toArray, List.set_cons_zero, List.set_cons_succ]
      refine wpAnyH_ready (rs := [4]) (by kernel_rfl) (by simp) ?_
      refine AllReadyH.cons rfl (fun K hK => ?_) AllReadyH.nil
      go_simp
      refine (oneByte_any (t.size : Int) _ (by omega)).mono ?_
      rintro e w6 ⟨rfl, hb⟩
      have hA := hHeld.2.step hb
      clear hb
      go_wp2_with fail
      refine hK.out _ _ hA.four (fun hHeld => ?_)
      clear hK K hA
      try simp only [Act.put, List.getElem_toArray, List.getElem_cons_succ, List.getElem_cons_zero, List.setIfInBounds_toArray, List.set_cons_zero, List.set_cons_succ]
      refine wpAnyH_take (i := 5) (v := ?_) rfl (by kernel_rfl) (by kernel_rfl) (by kernel_rfl) (fun _ _ _ h => h) (Or.inl ⟨by rfl, ?_⟩) (by assumption) ?_
      rotate_left
      · intro w hSw; obtain ⟨⟨z0, z1, z2, z3⟩, _⟩ := hSw; go_simp; with_reducible rfl
      try simp only [Act.put, List.getElem_toArray, List.getElem_cons_succ, List.getElem_cons_zero, List.setIfInBounds_toArray, List.set_cons_zero, List.set_cons_succ]
      refine wpAnyH_take (i := 8) (v := ?_) rfl (by kernel_rfl) (by kernel_rfl) (by kernel_rfl) (fun _ _ _ h => h) (Or.inl ⟨by rfl, ?_⟩) (by assumption) ?_
      rotate_left
      · intro w hSw; obtain ⟨⟨z0, z1, z2, z3⟩, _⟩ := hSw; go_simp; with_reducible rfl
      try simp only [Act.put, List.getElem_toArray, List.getElem_cons_succ, List.getElem_cons_zero, List.setIfInBounds_toArray, List.set_cons_zero, List.set_cons_succ]
      refine wpAnyH_take (i := 9) (v := ?_) rfl (by kernel_rfl) (by kernel_rfl) (by kernel_rfl) (fun _ _ _ h => h) (Or.inl ⟨by rfl, ?_⟩) (by assumption) ?_
      rotate_left
      · intro w hSw; obtain ⟨⟨z0, z1, z2, z3⟩, _⟩ := hSw; go_simp; with_reducible rfl
      try simp only [Act.put, List.getElem_toArray, List.getElem_cons_succ, List.getElem_cons_zero, List.setIfInBounds_toArray, List.set_cons_zero, List.set_cons_succ]
      refine wpAnyH_done (by kernel_rfl) ?_ _
      go_wp2
      go_ret
      exact ⟨by rw [← HT.out]; rfl, hHeld.2.below⟩
end Go.Proofs.Ytdclffgbmcecdaa
