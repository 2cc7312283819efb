import Derived.Test.YtehmlpkapjdhkaaD4
namespace Go.Proofs.Ytehmlpkapjdhkaa
open Go.RowKit

set_option maxHeartbeats 400000 in
theorem equal_any (a1 : Option Addr) (c1 : Nat) (A : List Int) (a2 : Option Addr) (c2 : Nat) (B : List Int) (w : World)
    (hA : Holds w a1 A) (hB : Holds w a2 B) (lA : A.length ≤ 9223372036854775807) :
    Calls Try.prog 48 #[.slice a1 A.length c1, .slice a2 B.length c2] w fun e w' => e = .returned (.bool (sameB A B)) ∧ ∃ n, w' = w.drewN n := by
  by_cases hl : A.length = B.length
  · have hd : ((A.length : Int) != (B.length : Int)) = false := by simp [hl]
    have HL : Hid (A.length = B.length) := hl
    clear hl
    go_enter Try.func48, Try.ntmps48
    go_wp2
    go_loopw [13] (fun i wr => ∃ k : Nat, i = .int .i64 k ∧ k ≤ A.length ∧ A.take k = B.take k ∧ ∃ n, wr = w.drewN n) (fun i _ => A.length - (intOf i).toNat)
    case atStart => exact ⟨0, rfl, Nat.zero_le _, rfl, 0, rfl⟩
    case round =>
      obtain ⟨k, rfl, hk, hkt, n, rfl⟩ := hrel
      by_cases hlt : k < A.length
      · obtain ⟨b1, o1, rfl, hb1, hc1⟩ := hA k hlt
        obtain ⟨b2, o2, rfl, hb2, hc2⟩ := hB k (by rw [← HL.out]; exact hlt)
        have hlt2 : (k : Int) < (B.length : Int) := by have := HL.out; omega
        have hk1 := hc1 k hlt
        have hk2 := hc2 k (by omega)
        have HT : Hid (A.take k = B.take k) := hkt
        clear hkt hc1 hc2
        have hk1' : ∀ m, (w.drewN m).cell? ⟨b1, o1 + k, none⟩ = some (.int .i64 A[k]) := fun m => by simpa [hlt] using hk1
        have hk2' : ∀ m, (w.drewN m).cell? ⟨b2, o2 + k, none⟩ = some (.int .i64 (B.getD k 0)) := fun m => by simpa using hk2
        clear hk1 hk2
        go_wp2
        go_quiet (fail)
        go_wp2
        · go_ret
          exact ⟨ret_bool (sameB_ne ‹_›).symm, n + nq, by simp⟩
        · go_roundw
          case rel => exact ⟨k + 1, by go_num, by omega, sameB_step HL.out HT.out hlt ‹_›, _, rfl⟩
          case measure => simp [intOf]; omega
      · go_wp2
        go_ret
        exact ⟨ret_bool (sameB_end hk hlt HL.out hkt).symm, _, rfl⟩
  · have hd : ((A.length : Int) != (B.length : Int)) = true := by simp; omega
    go_enter Try.func48, Try.ntmps48
    go_wp2
    go_ret
    exact ⟨by have : ¬ A = B := fun h => hl (by rw [h]); simp [sameB, this], 0, rfl⟩

set_option maxHeartbeats 400000 in
theorem same_any (x y : Ob) (a1 : Option Addr) (c1 : Nat) (a2 : Option Addr) (c2 : Nat) (w : World)
    (h1 : Holds w a1 x.links) (h2 : Holds w a2 y.links) (l1 : x.links.length ≤ 9223372036854775807) :
    Calls Try.prog 39 #[x.val a1 c1, y.val a2 c2] w
      fun e w' => e = .returned (.bool (sameO x.id x.kind x.links x.text y.id y.kind y.links y.text)) ∧ Below w.heap.size w w' := by
  obtain ⟨i1, k1, L1, t1⟩ := x
  obtain ⟨i2, k2, L2, t2⟩ := y
  dsimp only [Ob.val] at *
  go_enter Try.func39, Try.ntmps39
  go_wp2_with fail
  · refine (equal_any a1 c1 L1 a2 c2 L2 _ (h1.below (below_alloc2 _ _ _)) (h2.below (below_alloc2 _ _ _)) l1).mono ?_
    rintro e w' ⟨rfl, n, rfl⟩
    go_wp2
    go_ret
    exact ⟨ret_bool (by simp [sameO, *]), below_drewN (below_alloc2 _ _ _) n⟩
  all_goals go_ret
  all_goals exact ⟨ret_bool (by simp [sameO, *]), below_alloc2 _ _ _⟩

/-- how many objects have a lesser id. -/
def belowN (l : List Ob) (id : Int) : Nat := (l.filter (fun x => decide (x.id < id))).length
theorem belowN_step {l : List Ob} {id : Int} {k : Nat} (hk : k < l.length) : belowN (l.take (k + 1)) id = belowN (l.take k) id + if l[k].id < id then 1 else 0 := by
  unfold belowN
  rw [List.take_succ_eq_append_getElem hk, List.filter_append, List.length_append]
  by_cases h : l[k].id < id <;> simp [h]
theorem belowN_le (l : List Ob) (id : Int) : belowN l id ≤ l.length := List.length_filter_le _ _

set_option maxHeartbeats 400000 in
theorem countBelow_any (a : Option Addr) (c : Nat) (l : List Ob) (id : Int) (w : World) (h : HoldsS w a l) (hl : l.length ≤ 1000) :
    Calls Try.prog 41 #[.slice a l.length c, .int .i64 id] w fun e w' => e = .returned (.int .i64 (belowN l id)) ∧ Below w.heap.size w w' := by
  go_enter Try.func41, Try.ntmps41
  go_wp2
  go_loopw [5, 10] (fun n i wr => ∃ k : Nat, i = .int .i64 k ∧ k ≤ l.length ∧ n = .int .i64 (belowN (l.take k) id) ∧ Below w.heap.size w wr) (fun _ i _ => l.length - (intOf i).toNat)
  case atStart => exact ⟨0, rfl, Nat.zero_le _, by simp [belowN], Below.refl _ _⟩
  case round =>
    obtain ⟨k, rfl, hk, rfl, hB⟩ := hrel
    by_cases hlt : k < l.length
    · obtain ⟨b, off, rfl, hb, hc⟩ := (h.below hB) k hlt
      obtain ⟨sa, sc, x0, x1, x2, x3, x4, x5⟩ := hc k hlt
      have HS : Hid (belowN (l.take (k + 1)) id = belowN (l.take k) id + if l[k].id < id then 1 else 0) := belowN_step hlt
      have hbd : belowN (l.take k) id ≤ 1000 := by have := belowN_le (l.take k) id; rw [List.length_take] at this; omega
      clear hc
      go_wp2
      · go_roundw
        case rel => exact ⟨k + 1, by go_num, by omega, by rw [HS.out, if_pos ‹_›]; go_num, hB.alloc hB.size _⟩
        case measure => simp [intOf]; omega
      · go_roundw
        case rel => exact ⟨k + 1, by go_num, by omega, by rw [HS.out, if_neg (by omega)]; go_num, hB.alloc hB.size _⟩
        case measure => simp [intOf]; omega
    · have hkl : k = l.length := by omega
      subst hkl
      rw [List.take_length]
      go_wp2
      go_ret
      exact ⟨rfl, hB⟩

set_option maxHeartbeats 1000000 in
theorem sameStore_refl (a1 : Option Addr) (c1 : Nat) (a2 : Option Addr) (c2 : Nat) (l : List Ob) (w : World)
    (h1 : HoldsS w a1 l) (h2 : HoldsS w a2 l) (hl : l.length ≤ 9223372036854775807) :
    Calls Try.prog 12 #[.slice a1 l.length c1, .slice a2 l.length c2] w fun e w' => e = .returned (.bool true) ∧ Below w.heap.size w w' := by
  go_enter Try.func12, Try.ntmps12
  go_wp2
  go_loopw [5] (fun i wr => ∃ k : Nat, i = .int .i64 k ∧ k ≤ l.length ∧ Below w.heap.size w wr) (fun i _ => l.length - (intOf i).toNat)
  case atStart => exact ⟨0, rfl, Nat.zero_le _, Below.refl _ _⟩
  case round =>
    obtain ⟨k, rfl, hk, hB⟩ := hrel
    by_cases hlt : k < l.length
    · obtain ⟨b, off, rfl, hb, hc⟩ := (h1.below hB) k hlt
      obtain ⟨sa, sc, x0, x1, x2, x3, x4, x5⟩ := hc k hlt
      obtain ⟨b', off', rfl, hb', hc'⟩ := (h2.below hB) k hlt
      obtain ⟨ta, tc, y0, y1, y2, y3, y4, y5⟩ := hc' k hlt
      have hlt' : (k : Int) < (l.length : Int) := by omega
      clear hc hc'
      go_wp2
      refine wp_region_any (by kernel_rfl) ?_
      change wpAny _ _ _ _ _ _ _ (World.drew _)
      refine wpAny_take (i := 0) (v := ?_) rfl (by kernel_rfl) (by kernel_rfl) (by kernel_rfl) (fun _ _ _ h => h) (Or.inl ⟨by rfl, ?_⟩) ?_
      rotate_left
      · intro w; go_simp; with_reducible rfl
      try simp only [Act.put, List.getElem_toArray, List.getElem_cons_zero, List.setIfInBounds_toArray, List.set_cons_zero, List.set_cons_succ]
      refine wpAny_take (i := 1) (v := ?_) rfl (by kernel_rfl) (by kernel_rfl) (by kernel_rfl) (fun _ _ _ h => h) (Or.inl ⟨by rfl, ?_⟩) ?_
      rotate_left
      · intro w; go_simp; with_reducible rfl
      try simp only [Act.put, List.getElem_toArray, List.getElem_cons_succ, List.getElem_cons_zero, List.setIfInBounds_toArray, List.set_cons_zero, List.set_cons_succ]
      refine wpAny_take (i := 2) (v := ?_) rfl (by kernel_rfl) (by kernel_rfl) (by kernel_rfl) (fun _ _ _ h => h) (Or.inl ⟨by rfl, ?_⟩) ?_
      rotate_left
      · intro w; go_simp; with_reducible rfl
      try simp only [Act.put, List.getElem_toArray, List.getElem_cons_succ, List.getElem_cons_zero, List.setIfInBounds_toArray, List.set_cons_zero, List.set_cons_succ]
      refine wpAny_take (i := 4) (v := ?_) rfl (by kernel_rfl) (by kernel_rfl) (by kernel_rfl) (fun _ _ _ h => h) (Or.inl ⟨by rfl, ?_⟩) ?_
      rotate_left
      · intro w; go_simp; with_reducible rfl
      try simp only [Act.put, List.getElem_toArray, List.getElem_cons_succ, List.getElem_cons_zero, List.setIfInBounds_toArray, List.set_cons_zero, List.set_cons_succ]
      refine wpAny_take (i := 5) (v := ?_) rfl (by kernel_rfl) (by kernel_rfl) (by kernel_rfl) (fun _ _ _ h => h) (Or.inl ⟨by rfl, ?_⟩) ?_
      rotate_left
      · intro w; go_simp; with_reducible rfl
      try simp only [Act.put, List.getElem_toArray, List.getElem_cons_succ, List.getElem_cons_zero, List.setIfInBounds_toArray, List.set_cons_zero, List.set_cons_succ]
      refine wpAny_take (i := 6) (v := ?_) rfl (by kernel_rfl) (by kernel_rfl) (by kernel_rfl) (fun _ _ _ h => h) (Or.inl ⟨by rfl, ?_⟩) ?_
      rotate_left
      · intro w; go_simp; with_reducible rfl
      try simp only [Act.put, List.getElem_toArray, List.getElem_cons_succ, List.getElem_cons_zero, List.setIfInBounds_toArray, List.set_cons_zero, List.set_cons_succ]
      refine wpAny_ready (rs := [3, 7]) (by kernel_rfl) (by simp) ?_
      refine AllReady.cons rfl (fun K hK => ?_) (AllReady.cons rfl (fun K hK => ?_) AllReady.nil)
      · go_simp
        refine hK _ _ ?_
        clear hK K
        try simp only [Act.put, List.getElem_toArray, List.getElem_cons_succ, List.getElem_cons_zero, List.setIfInBounds_toArray, List.set_cons_zero, List.set_cons_succ]
        refine wpAny_ready (rs := [7]) (by kernel_rfl) (by simp) ?_
        refine AllReady.cons rfl (fun K hK => ?_) AllReady.nil
        go_simp
        refine hK _ _ ?_
        clear hK K
        try simp only [Act.put, List.getElem_toArray, List.getElem_cons_succ, List.getElem_cons_zero, List.setIfInBounds_toArray, List.set_cons_zero, List.set_cons_succ]
        refine wpAny_ready (rs := [8]) (by kernel_rfl) (by simp) ?_
        refine AllReady.cons rfl (fun K hK => ?_) AllReady.nil
        go_simp
        refine (sameObject_any _ _ sa sc l[k].links l[k].text _ _ ta tc l[k].links l[k].text _ x4.drew y4.drew x5).mono ?_
        rintro e w1 ⟨rfl, hb1⟩
        rw [sameO_refl]
        have hB1 := hB.drew.trans (hb1.mono hB.size)
        clear hb1 x0 x1 x2 x3 x4 y0 y1 y2 y3 y4
        go_wp2_with fail
        try simp only [Act.put, List.getElem_toArray, List.getElem_cons_succ, List.getElem_cons_zero, List.setIfInBounds_toArray, List.set_cons_zero, List.set_cons_succ]
        refine wpAny_take (i := 9) (v := ?_) rfl (by kernel_rfl) (by kernel_rfl) (by kernel_rfl) (fun _ _ _ h => h) (Or.inl ⟨by rfl, ?_⟩) ?_
        rotate_left
        · intro w; go_simp; with_reducible rfl
        try simp only [Act.put, List.getElem_toArray, List.getElem_cons_succ, List.getElem_cons_zero, List.setIfInBounds_toArray, List.set_cons_zero, List.set_cons_succ]
        refine wpAny_done (by kernel_rfl) ?_ _
        go_wp2
        go_roundw
        case rel => exact ⟨k + 1, by go_num, by omega, hB1⟩
        case measure => simp [intOf]; omega
      · go_simp
        refine hK _ _ ?_
        clear hK K
        try simp only [Act.put, List.getElem_toArray, List.getElem_cons_succ, List.getElem_cons_zero, List.setIfInBounds_toArray, List.set_cons_zero, List.set_cons_succ]
        refine wpAny_ready (rs := [3]) (by kernel_rfl) (by simp) ?_
        refine AllReady.cons rfl (fun K hK => ?_) AllReady.nil
        go_simp
        refine hK _ _ ?_
        clear hK K
        try simp only [Act.put, List.getElem_toArray, List.getElem_cons_succ, List.getElem_cons_zero, List.setIfInBounds_toArray, List.set_cons_zero, List.set_cons_succ]
        refine wpAny_ready (rs := [8]) (by kernel_rfl) (by simp) ?_
        refine AllReady.cons rfl (fun K hK => ?_) AllReady.nil
        go_simp
        refine (sameObject_any _ _ sa sc l[k].links l[k].text _ _ ta tc l[k].links l[k].text _ x4.drew y4.drew x5).mono ?_
        rintro e w1 ⟨rfl, hb1⟩
        rw [sameO_refl]
        have hB1 := hB.drew.trans (hb1.mono hB.size)
        clear hb1 x0 x1 x2 x3 x4 y0 y1 y2 y3 y4
        go_wp2_with fail
        try simp only [Act.put, List.getElem_toArray, List.getElem_cons_succ, List.getElem_cons_zero, List.setIfInBounds_toArray, List.set_cons_zero, List.set_cons_succ]
        refine wpAny_take (i := 9) (v := ?_) rfl (by kernel_rfl) (by kernel_rfl) (by kernel_rfl) (fun _ _ _ h => h) (Or.inl ⟨by rfl, ?_⟩) ?_
        rotate_left
        · intro w; go_simp; with_reducible rfl
        try simp only [Act.put, List.getElem_toArray, List.getElem_cons_succ, List.getElem_cons_zero, List.setIfInBounds_toArray, List.set_cons_zero, List.set_cons_succ]
        refine wpAny_done (by kernel_rfl) ?_ _
        go_wp2
        go_roundw
        case rel => exact ⟨k + 1, by go_num, by omega, hB1⟩
        case measure => simp [intOf]; omega
    · go_wp2
      go_ret
      exact ⟨rfl, hB⟩
end Go.Proofs.Ytehmlpkapjdhkaa
