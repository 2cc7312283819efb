import Derived.Test.YtgkmoehbjdmefaaGreatDoorMG
namespace Go.Proofs.YtgkmoehbjdmefaaGreatDoor
open Go.RowKit
set_option maxRecDepth 100000

theorem one1_iff {x v : ByteArray} : one1 x v = 1 ↔ x = v := by
  unfold one1
  split
  · rename_i h; exact ⟨fun _ => name_eq.1 h, fun _ => rfl⟩
  · rename_i h; exact ⟨fun e => by omega, fun e => absurd (name_eq.2 e) h⟩
theorem one1_two {x v u : ByteArray} (h : v ≠ u) : one1 x v + one1 x u ≤ 1 := by
  have h1 := one1_le x v
  have h2 := one1_le x u
  rcases Nat.lt_or_ge (one1 x v + one1 x u) 2 with c | c
  · omega
  · exact absurd ((one1_iff.1 (by omega : one1 x v = 1)).symm.trans (one1_iff.1 (by omega : one1 x u = 1))) h
theorem good_iff {a b c v : ByteArray} : good a b c v = true ↔ preB v = true ∧ 2 ≤ cnt a b c v := by simp [good, wonB]
/-- of two votes, both can't have more than half. -/
theorem good_one {a b c v u : ByteArray} (h : good a b c v = true) (k : good a b c u = true) : v = u := by
  refine Classical.byContradiction fun e => ?_
  have h1 := (good_iff.1 h).2
  have h2 := (good_iff.1 k).2
  have ha := one1_two (x := a) e
  have hb := one1_two (x := b) e
  have hc := one1_two (x := c) e
  unfold cnt at h1 h2
  omega
theorem talL_hit {a b c t : ByteArray} (h : good a b c t = true) : ∀ L : List ByteArray, t ∈ L → talL a b c L = (t, true)
  | [], hm => by cases hm
  | v :: r, hm => by
    unfold talL
    split
    · rename_i k; rw [good_one h k]
    · rename_i k
      refine talL_hit h r ?_
      rcases List.mem_cons.1 hm with e | e
      · exact absurd (e ▸ h) k
      · exact e
theorem talL_told {a b c : ByteArray} : ∀ L : List ByteArray, (talL a b c L).2 = true → good a b c (talL a b c L).1 = true
  | [], h => by cases h
  | v :: r, h => by
    unfold talL at h ⊢
    split
    · assumption
    · rename_i k
      rw [if_neg k] at h
      exact talL_told r h
theorem talL_none {a b c : ByteArray} : ∀ L : List ByteArray, (talL a b c L).2 = false → talL a b c L = (sNil, false)
  | [], _ => rfl
  | v :: r, h => by
    unfold talL at h ⊢
    split
    · rename_i k; rw [if_pos k] at h; cases h
    · rename_i k
      rw [if_neg k] at h
      exact talL_none r h
theorem cnt_in {a b c t : ByteArray} (h : 2 ≤ cnt a b c t) : t ∈ [a, b, c] := by
  have h1 := one1_le a t
  have h2 := one1_le b t
  have h3 := one1_le c t
  unfold cnt at h
  by_cases ea : one1 a t = 1
  · rw [← one1_iff.1 ea]; simp
  · rw [← one1_iff.1 (by omega : one1 b t = 1)]; simp
theorem tal3_hit {a b c t : ByteArray} (h : preB t = true) (k : 2 ≤ cnt a b c t) : tal3 a b c = (t, true) := talL_hit (good_iff.2 ⟨h, k⟩) _ (cnt_in k)
structure Told (a b c t : ByteArray) : Prop where
  is : tal3 a b c = (t, true)
  pre : preB t = true
  many : 2 ≤ cnt a b c t
theorem told_of {a b c : ByteArray} (h : (tal3 a b c).2 = true) : Told a b c (tal3 a b c).1 := by
  have := good_iff.1 (talL_told _ h)
  exact ⟨Prod.ext rfl h, this.1, this.2⟩
theorem Told.turned {a b c t : ByteArray} (h : Told a b c t) : tal3 c a b = (t, true) := tal3_hit h.pre (by have := h.many; unfold cnt at *; omega)
theorem Told.set0 {a b c t : ByteArray} (h : Told a b c t) (s : ByteArray) (hn : (a.toList == t.toList) = false) : tal3 s b c = (t, true) := tal3_hit h.pre (by have := h.many; have := one1_f hn; unfold cnt at *; omega)
theorem Told.set1 {a b c t : ByteArray} (h : Told a b c t) (s : ByteArray) (hn : (b.toList == t.toList) = false) : tal3 a s c = (t, true) := tal3_hit h.pre (by have := h.many; have := one1_f hn; unfold cnt at *; omega)
theorem Told.set2 {a b c t : ByteArray} (h : Told a b c t) (s : ByteArray) (hn : (c.toList == t.toList) = false) : tal3 a b s = (t, true) := tal3_hit h.pre (by have := h.many; have := one1_f hn; unfold cnt at *; omega)

theorem cell_keep {B ab o : Nat} {w w' : World} {v : Value} (hb : Below B w w') (h : ab < B) (e : w.cell? ⟨ab, o, none⟩ = some v) : w'.cell? ⟨ab, o, none⟩ = some v := (hb.cell (p := ⟨ab, o, none⟩) h).trans e

theorem Tryz.info9 : (Tryz.prog.info? 9).map (fun i => (i.zero, i.size, i.bytes)) = some (some (.string { data := #[] }), 1, 16) := by kernel_rfl
/-- a copy of three strings in a row of its own. -/
theorem app_three (W : World) (ty : TypeId) (ab off cc : Nat) (a b c : ByteArray) (hab : ab < W.heap.size) (e0 : W.cell? ⟨ab, off, none⟩ = some (.string a)) (e1 : W.cell? ⟨ab, off + 1, none⟩ = some (.string b)) (e2 : W.cell? ⟨ab, off + 2, none⟩ = some (.string c)) :
    ∃ g cap cur W1, (Builtin.append_ #[46, 46] ty #[.slice (some ⟨W.heap.size, 0, none⟩) 0 0, .slice (some ⟨ab, off, none⟩) 3 cc]).run Tryz.prog (W.alloc (.cells #[] 9)) = .ok (.slice (some ⟨g, 0, none⟩) 3 cap) W1 ∧
      3 ≤ cap ∧ W.heap.size ≤ g ∧ W1.heap[g]? = some (.cells cur 9) ∧ 3 ≤ cur.size ∧ cur[0]? = some (.string a) ∧ cur[1]? = some (.string b) ∧ cur[2]? = some (.string c) ∧ Below W.heap.size W W1 := by
  have hb0 := below_alloc W (.cells #[] 9)
  have o0 : (W.alloc (.cells #[] 9)).ownsRow W.heap.size 9 1 (.slice (some ⟨W.heap.size, 0, none⟩) 0 0) 0 [] := World.ownsRow_made W #[] 0 (Nat.le_refl _) (by unfold maxLen; omega) rfl
  have d0 := (cell_keep hb0 hab e0)
  have d1 := (cell_keep hb0 hab e1)
  have d2 := (cell_keep hb0 hab e2)
  obtain ⟨i0, hi0, hz0, hzs, hzb⟩ := info_parts Tryz.info9
  obtain ⟨v', w', hr, q1, q2, _⟩ := run_append_own (P := Tryz.prog) _ W.heap.size 46 ty 9 i0 _ 1 16 Tryz.underlying46 hi0 hz0 hzs hzb rfl (by omega) _ 0 [] o0 ⟨ab, off, none⟩ 3 cc [.string a, .string b, .string c] rfl
    (fun j v hj => by
      have hadd : ∀ j, (⟨ab, off, none⟩ : Addr).add j = ⟨ab, off + j, none⟩ := fun j => by unfold Addr.add; split <;> simp_all
      rw [hadd]
      match j, hj with
      | 0, hj => simp at hj; rw [← hj]; exact d0
      | 1, hj => simp at hj; rw [← hj]; exact d1
      | 2, hj => simp at hj; rw [← hj]; exact d2
      | j + 3, hj => simp at hj) (by intro v hv; simp only [List.mem_cons, List.not_mem_nil, or_false] at hv; rcases hv with rfl | rfl | rfl <;> rfl) (by unfold maxLen; omega) (by omega) hb0.size
  have B1 : Below W.heap.size W w' := hb0.trans ⟨q2.os, q2.tape, q2.output, q2.size, fun k hk => q2.block k (by have := hb0.size; omega) (fun e => by have := (o0.lt k e.symm).1; omega)⟩
  rcases q1.2 with ⟨_, e⟩ | ⟨g, cap, cur, rfl, h1, h2, h3, h4, h5, h6⟩
  · cases e
  · have hg : ∀ j, j < 3 → cur[j]? = [Value.string a, .string b, .string c][j]? := fun j hj => by
      have := congrArg (fun l => l[j]?) h6
      simp only [List.nil_append] at this
      rw [← this, List.getElem?_take, if_pos (by omega)]
      simp
    have hsz : 3 ≤ cur.size := by
      have := congrArg List.length h6
      simp at this
      omega
    exact ⟨g, cap, cur, w', hr, by omega, h1, h2, hsz, hg 0 (by omega), hg 1 (by omega), hg 2 (by omega), B1⟩

theorem holdsT3 {w : World} {g : Nat} {cur : Array Value} {a b c : ByteArray} (hk : w.heap[g]? = some (.cells cur 9)) (h0 : cur[0]? = some (.string a)) (h1 : cur[1]? = some (.string b)) (h2 : cur[2]? = some (.string c)) : HoldsT w (some ⟨g, 0, none⟩) [a, b, c] := by
  intro i _
  refine ⟨_, _, rfl, heap_lt hk, fun j hj => ?_⟩
  rw [cell_of_row _ _ _ _ _ _ hk]
  match j, hj with
  | 0, _ => exact h0
  | 1, _ => exact h1
  | 2, _ => exact h2
  | j + 3, hj => exact absurd hj (by simp)

set_option maxHeartbeats 8000000 in
theorem voteOne_0 (ab off cc : Nat) (a b c s : ByteArray) (w : World) (hg : Glob w) (ht : Tab w) (hab : ab < w.heap.size) (e0 : w.cell? ⟨ab, off, none⟩ = some (.string a)) (e1 : w.cell? ⟨ab, off + 1, none⟩ = some (.string b)) (e2 : w.cell? ⟨ab, off + 2, none⟩ = some (.string c)) (hok : (tal3 a b c).2 = true) :
    Calls Tryz.prog 5 #[.slice (some ⟨ab, off, none⟩) 3 cc, .int .i64 0, .string s] w fun e w' => e = .returned (.bool true) ∧ Below w.heap.size w w' := by
  have HT : Hid (Told a b c (tal3 a b c).1) := told_of hok
  have hta := tally_yes (some ⟨ab, off, none⟩) cc a b c w (fun i _ => ⟨_, _, rfl, hab, fun j hj => by
    match j, hj with
    | 0, _ => exact e0
    | 1, _ => exact e1
    | 2, _ => exact e2
    | j + 3, hj => exact absurd hj (by simp)⟩)
  rw [hok] at hta
  generalize (tal3 a b c).1 = t at *
  clear hok
  go_enter Tryz.func5, Tryz.ntmps5
  go_wp2_with fail
  refine hta.mono ?_
  clear hta
  rintro e W1 ⟨rfl, hb1⟩
  go_wp2_with fail
  refine (voteBegun_any W1 (hg.below hb1) (ht.below hb1)).mono ?_
  rintro e W2 ⟨rfl, hb2⟩
  have hB2 := hb1.trans (hb2.mono hb1.size)
  have d0 := (cell_keep hB2 hab e0)
  have d1 := (cell_keep hB2 hab e1)
  have d2 := (cell_keep hB2 hab e2)
  clear hb1 hb2 e0 e1 e2
  go_wp2
  go_loopw [9, 10] (fun n i wr => ∃ (m k : Nat), n = .int .i64 m ∧ i = .int .i64 k ∧ k ≤ 3 ∧ Hid (m = (if 0 < k then one1 a t else 0) + (if 1 < k then one1 b t else 0) + (if 2 < k then one1 c t else 0)) ∧ Below W2.heap.size W2 wr) (fun _ i _ => 3 - (intOf i).toNat)
  case atStart => exact ⟨0, 0, rfl, rfl, by omega, rfl, Below.refl _ _⟩
  case round =>
    obtain ⟨m, k, rfl, rfl, hk, hm, hBr⟩ := hrel
    have hBw := hB2.trans (hBr.mono hB2.size)
    have c0 := (cell_keep hBr (by have := hB2.size; omega) d0)
    have c1 := (cell_keep hBr (by have := hB2.size; omega) d1)
    have c2 := (cell_keep hBr (by have := hB2.size; omega) d2)
    have h1 := one1_le a t
    have h2 := one1_le b t
    have h3 := one1_le c t
    clear d0 d1 d2
    match k, hk with
    | 0, _ =>
      have hw1 : IntKind.i64.wrap ((m : Int) + 1) = (m : Int) + 1 := by have := hm.out; simp at this; simp [IntKind.wrap, IntKind.bits, IntKind.signed]; omega
      clear h1 h2 h3
      cases hq : (a.toList == t.toList) with
      | true =>
        have HO : Hid (one1 a t = 1) := one1_t hq
        go_wp2
        go_roundw
        case rel => exact ⟨m + 1, 1, by simp, by go_num, by omega, by have := HO.out; have := hm.out; unfold Hid; simp at this ⊢; omega, hBr⟩
        case measure => simp [intOf]
      | false =>
        have HO : Hid (one1 a t = 0) := one1_f hq
        go_wp2
        go_roundw
        case rel => exact ⟨m, 1, by go_num, by go_num, by omega, by have := HO.out; have := hm.out; unfold Hid; simp at this ⊢; omega, hBr⟩
        case measure => simp [intOf]
    | 1, _ =>
      have hw1 : IntKind.i64.wrap ((m : Int) + 1) = (m : Int) + 1 := by have := hm.out; simp at this; simp [IntKind.wrap, IntKind.bits, IntKind.signed]; omega
      clear h1 h2 h3
      cases hq : (b.toList == t.toList) with
      | true =>
        have HO : Hid (one1 b t = 1) := one1_t hq
        go_wp2
        go_roundw
        case rel => exact ⟨m + 1, 2, by simp, by go_num, by omega, by have := HO.out; have := hm.out; unfold Hid; simp at this ⊢; omega, hBr⟩
        case measure => simp [intOf]
      | false =>
        have HO : Hid (one1 b t = 0) := one1_f hq
        go_wp2
        go_roundw
        case rel => exact ⟨m, 2, by go_num, by go_num, by omega, by have := HO.out; have := hm.out; unfold Hid; simp at this ⊢; omega, hBr⟩
        case measure => simp [intOf]
    | 2, _ =>
      have hw1 : IntKind.i64.wrap ((m : Int) + 1) = (m : Int) + 1 := by have := hm.out; simp at this; simp [IntKind.wrap, IntKind.bits, IntKind.signed]; omega
      clear h1 h2 h3
      cases hq : (c.toList == t.toList) with
      | true =>
        have HO : Hid (one1 c t = 1) := one1_t hq
        go_wp2
        go_roundw
        case rel => exact ⟨m + 1, 3, by simp, by go_num, by omega, by have := HO.out; have := hm.out; unfold Hid; simp at this ⊢; omega, hBr⟩
        case measure => simp [intOf]
      | false =>
        have HO : Hid (one1 c t = 0) := one1_f hq
        go_wp2
        go_roundw
        case rel => exact ⟨m, 3, by go_num, by go_num, by omega, by have := HO.out; have := hm.out; unfold Hid; simp at this ⊢; omega, hBr⟩
        case measure => simp [intOf]
    | 3, _ =>
      have HM : Hid (m = cnt a b c t) := by have := hm.out; unfold Hid cnt; simpa using this
      have hm3 : m ≤ 3 := by have := HM.out; unfold cnt at this; omega
      have hm2 : 2 ≤ m := by rw [HM.out]; exact HT.out.many
      have hw2 : IntKind.i64.wrap (2 * (m : Int)) = 2 * (m : Int) := by simp [IntKind.wrap, IntKind.bits, IntKind.signed]; omega
      have hgt : (3 : Int) < 2 * (m : Int) := by omega
      clear hm h1 h2 h3 hm3 hm2 HM
      obtain ⟨g, cap, cur, W3, hr3, hc3, hg3, hk3, hz3, q0, q1, q2, hb3⟩ := app_three wr 46 ab off cc a b c (by have := hBw.size; omega) c0 c1 c2
      have hB3 := hBw.trans (hb3.mono hBw.size)
      have x0 := (cell_keep hb3 (by have := hBw.size; omega) c0)
      have x1 := (cell_keep hb3 (by have := hBw.size; omega) c1)
      have x2 := (cell_keep hb3 (by have := hBw.size; omega) c2)
      have hgw : w.heap.size ≤ g := Nat.le_trans hBw.size hg3
      have hne : ab ≠ g := by omega
      have k4 := heap_setCell_same W3 g 0 cur 9 (.string s) hk3
      have hb4 : Below w.heap.size w (W3.setCell ⟨g, 0, none⟩ (.string s)) := hB3.setCell hgw _
      have y0 := (World.cell?_of_block (a := ⟨ab, off, none⟩) (heap_setCell_other W3 ⟨g, 0, none⟩ ab (.string s) hne)).trans x0
      have y1 := (World.cell?_of_block (a := ⟨ab, off + 1, none⟩) (heap_setCell_other W3 ⟨g, 0, none⟩ ab (.string s) hne)).trans x1
      have y2 := (World.cell?_of_block (a := ⟨ab, off + 2, none⟩) (heap_setCell_other W3 ⟨g, 0, none⟩ ab (.string s) hne)).trans x2
      have hT4 : HoldsT (W3.setCell ⟨g, 0, none⟩ (.string s)) (some ⟨g, 0, none⟩) [s, b, c] := holdsT3 k4 (Array.getElem?_setIfInBounds_self_of_lt (by omega)) ((Array.getElem?_setIfInBounds_ne (by omega)).trans q1) ((Array.getElem?_setIfInBounds_ne (by omega)).trans q2)
      have hcell : (W3.cell? ⟨g, 0, none⟩).isSome = true := by rw [cell_of_row _ _ _ _ _ _ hk3]; simp [q0]
      obtain ⟨vo, hvo⟩ := Option.isSome_iff_exists.1 hcell
      have hfr := f_of (o := 0) hk3
      clear hcell x0 x1 x2 hk3 q0 q1 q2 hb3 hBr hBw c0 c1 c2 k4 hB3
      go_wp2_with (at_builtin; refine wpList_append_h (by rfl) (.tmp 57) (.tmp 58) (by rfl) _ _ (by rfl) (by rfl) hr3 ?_)
      generalize W3.setCell ⟨g, 0, none⟩ (.string s) = W4 at *
      clear hr3 hfr hvo
      refine (tally_yes (some ⟨g, 0, none⟩) cap s b c W4 hT4).mono ?_
      rintro e W5 ⟨rfl, hb5⟩
      have hB5 := hb4.trans (hb5.mono hb4.size)
      have c0 := (cell_keep hb5 (by have := hb4.size; omega) y0)
      have c1 := (cell_keep hb5 (by have := hb4.size; omega) y1)
      have c2 := (cell_keep hb5 (by have := hb4.size; omega) y2)
      clear hb5 hb4 y0 y1 y2 hT4
      have qt : (t.toList == t.toList) = true := by simp
      cases hq : (a.toList == t.toList) with
      | false =>
        rw [HT.out.set0 s hq]
        have hS7 : (W5.drew.cell? ⟨ab, off, none⟩ = some (.string a) ∧ W5.drew.cell? ⟨ab, off + 1, none⟩ = some (.string b) ∧ W5.drew.cell? ⟨ab, off + 2, none⟩ = some (.string c)) := ⟨c0, c1, c2⟩
        have hBd := hB5.trans ((Below.refl W5.heap.size W5).drew.mono hB5.size)
        go_wp2_with fail
        refine wp_region_E (fun W => W.cell? ⟨ab, off, none⟩ = some (.string a) ∧ W.cell? ⟨ab, off + 1, none⟩ = some (.string b) ∧ W.cell? ⟨ab, off + 2, none⟩ = some (.string c)) (fun _ => false) (by kernel_rfl) hS7 (fun hS => ?_)
        generalize W5.drew = W6 at *
        clear c0 c1 c2 hB5
        refine wpAnyE.take (i := 0) (v := ?_) rfl (by kernel_rfl) (by kernel_rfl) (by kernel_rfl) (by kernel_rfl) (fun _ _ _ h => h) (Or.inl ⟨by rfl, ?_⟩) (by assumption) ?_
        rotate_left
        · intro w hSw; obtain ⟨z0, z1, z2⟩ := hSw; go_simp; with_reducible rfl
        try simp only [Act.put, List.getElem_toArray, List.getElem_cons_zero, List.setIfInBounds_toArray, List.set_cons_zero, List.set_cons_succ]
        refine wpAnyE.take (i := 1) (v := ?_) rfl (by kernel_rfl) (by kernel_rfl) (by kernel_rfl) (by kernel_rfl) (fun _ _ _ h => h) (Or.inl ⟨by rfl, ?_⟩) (by assumption) ?_
        rotate_left
        · intro w hSw; obtain ⟨z0, z1, z2⟩ := hSw; go_simp; with_reducible rfl
        try simp only [Act.put, List.getElem_toArray, List.getElem_cons_succ, List.getElem_cons_zero, List.setIfInBounds_toArray, List.set_cons_zero, List.set_cons_succ]
        refine wpAnyE.take (i := 2) (v := ?_) rfl (by kernel_rfl) (by kernel_rfl) (by kernel_rfl) (by kernel_rfl) (fun _ _ _ h => h) (Or.inl ⟨by rfl, ?_⟩) (by assumption) ?_
        rotate_left
        · intro w hSw; obtain ⟨z0, z1, z2⟩ := hSw; go_simp; with_reducible rfl
        try simp only [Act.put, List.getElem_toArray, List.getElem_cons_succ, List.getElem_cons_zero, List.setIfInBounds_toArray, List.set_cons_zero, List.set_cons_succ]
        refine wpAnyE.take (i := 3) (v := ?_) rfl (by kernel_rfl) (by kernel_rfl) (by kernel_rfl) (by kernel_rfl) (fun _ _ _ h => h) (Or.inl ⟨by rfl, ?_⟩) (by assumption) ?_
        rotate_left
        · intro w hSw; obtain ⟨z0, z1, z2⟩ := hSw; go_simp; with_reducible rfl
        try simp only [Act.put, List.getElem_toArray, List.getElem_cons_succ, List.getElem_cons_zero, List.setIfInBounds_toArray, List.set_cons_zero, List.set_cons_succ]
        refine wpAnyE.take (i := 4) (v := ?_) rfl (by kernel_rfl) (by kernel_rfl) (by kernel_rfl) (by kernel_rfl) (fun _ _ _ h => h) (Or.inl ⟨by rfl, ?_⟩) (by assumption) ?_
        rotate_left
        · intro w hSw; obtain ⟨z0, z1, z2⟩ := hSw; go_simp; with_reducible rfl
        try simp only [Act.put, List.getElem_toArray, List.getElem_cons_succ, List.getElem_cons_zero, List.setIfInBounds_toArray, List.set_cons_zero, List.set_cons_succ]
        refine wpAnyE.take (i := 5) (v := ?_) rfl (by kernel_rfl) (by kernel_rfl) (by kernel_rfl) (by kernel_rfl) (fun _ _ _ h => h) (Or.inl ⟨by rfl, ?_⟩) (by assumption) ?_
        rotate_left
        · intro w hSw; obtain ⟨z0, z1, z2⟩ := hSw; go_simp; with_reducible rfl
        try simp only [Act.put, List.getElem_toArray, List.getElem_cons_succ, List.getElem_cons_zero, List.setIfInBounds_toArray, List.set_cons_zero, List.set_cons_succ]
        refine wpAnyE.take (i := 6) (v := ?_) rfl (by kernel_rfl) (by kernel_rfl) (by kernel_rfl) (by kernel_rfl) (fun _ _ _ h => h) (Or.inl ⟨by rfl, ?_⟩) (by assumption) ?_
        rotate_left
        · intro w hSw; obtain ⟨z0, z1, z2⟩ := hSw; go_simp; with_reducible rfl
        try simp only [Act.put, List.getElem_toArray, List.getElem_cons_succ, List.getElem_cons_zero, List.setIfInBounds_toArray, List.set_cons_zero, List.set_cons_succ]
        refine wpAnyE.take (i := 7) (v := ?_) rfl (by kernel_rfl) (by kernel_rfl) (by kernel_rfl) (by kernel_rfl) (fun _ _ _ h => h) (Or.inl ⟨by rfl, ?_⟩) (by assumption) ?_
        rotate_left
        · intro w hSw; obtain ⟨z0, z1, z2⟩ := hSw; go_simp; with_reducible rfl
        try simp only [Act.put, List.getElem_toArray, List.getElem_cons_succ, List.getElem_cons_zero, List.setIfInBounds_toArray, List.set_cons_zero, List.set_cons_succ]
        refine wpAnyE.take (i := 8) (v := ?_) rfl (by kernel_rfl) (by kernel_rfl) (by kernel_rfl) (by kernel_rfl) (fun _ _ _ h => h) (Or.inl ⟨by rfl, ?_⟩) (by assumption) ?_
        rotate_left
        · intro w hSw; obtain ⟨z0, z1, z2⟩ := hSw; go_simp; with_reducible rfl
        try simp only [Act.put, List.getElem_toArray, List.getElem_cons_succ, List.getElem_cons_zero, List.setIfInBounds_toArray, List.set_cons_zero, List.set_cons_succ]
        refine wpAnyE.one (i := 9) (by kernel_rfl) rfl (fun K hK => ?_)
        go_simp
        obtain ⟨W7, hW7⟩ : ∃ W7, W7 = W6.alloc (.cells #[.string c, .string a, .string b] 9) := ⟨_, rfl⟩
        have hb7 : Below W6.heap.size W6 W7 := by rw [hW7]; exact below_alloc _ _
        have hT7 : HoldsT W7 (some ⟨W6.heap.size, 0, none⟩) [c, a, b] := by rw [hW7]; exact holdsT_new3 W6 c a b
        rw [← hW7]
        have hS8 : (W7.cell? ⟨ab, off, none⟩ = some (.string a) ∧ W7.cell? ⟨ab, off + 1, none⟩ = some (.string b) ∧ W7.cell? ⟨ab, off + 2, none⟩ = some (.string c)) := ⟨(cell_keep hb7 (by have := hBd.size; omega) hS7.1), (cell_keep hb7 (by have := hBd.size; omega) hS7.2.1), (cell_keep hb7 (by have := hBd.size; omega) hS7.2.2)⟩
        have hB7 := hBd.trans (hb7.mono hBd.size)
        clear hW7
        refine hK _ _ (fun _ => hS8) ?_
        clear hK K hS7 hBd hS
        try simp only [Act.put, List.getElem_toArray, List.getElem_cons_succ, List.getElem_cons_zero, List.setIfInBounds_toArray, List.set_cons_zero, List.set_cons_succ]
        refine wpAnyE.one (i := 10) (by kernel_rfl) rfl (fun K hK => ?_)
        go_simp
        refine (tally_yes _ 3 c a b W7 hT7).mono ?_
        rw [HT.out.turned]
        rintro e W8 ⟨rfl, hb8⟩
        have hS9 : (W8.cell? ⟨ab, off, none⟩ = some (.string a) ∧ W8.cell? ⟨ab, off + 1, none⟩ = some (.string b) ∧ W8.cell? ⟨ab, off + 2, none⟩ = some (.string c)) := ⟨(cell_keep hb8 (by have := hB7.size; omega) hS8.1), (cell_keep hb8 (by have := hB7.size; omega) hS8.2.1), (cell_keep hb8 (by have := hB7.size; omega) hS8.2.2)⟩
        have hB8 := hB7.trans (hb8.mono hB7.size)
        refine hK _ _ (fun _ => hS9) ?_
        clear hK K hS8 hB7 hT7 hb7 hb8
        dsimp only
        refine wpAnyE.take (i := 11) (v := ?_) rfl (by kernel_rfl) (by kernel_rfl) (by kernel_rfl) (by kernel_rfl) (fun _ _ _ h => h) (Or.inl ⟨by rfl, ?_⟩) (by assumption) ?_
        rotate_left
        · intro w hSw; go_simp; with_reducible rfl
        try simp only [Act.put, List.getElem_toArray, List.getElem_cons_succ, List.getElem_cons_zero, List.setIfInBounds_toArray, List.set_cons_zero, List.set_cons_succ]
        refine wpAnyE.take (i := 12) (v := ?_) rfl (by kernel_rfl) (by kernel_rfl) (by kernel_rfl) (by kernel_rfl) (fun _ _ _ h => h) (Or.inl ⟨by rfl, ?_⟩) (by assumption) ?_
        rotate_left
        · intro w hSw; go_simp; with_reducible rfl
        try simp only [Act.put, List.getElem_toArray, List.getElem_cons_succ, List.getElem_cons_zero, List.setIfInBounds_toArray, List.set_cons_zero, List.set_cons_succ]
        refine wpAnyE.take (i := 13) (v := ?_) rfl (by kernel_rfl) (by kernel_rfl) (by kernel_rfl) (by kernel_rfl) (fun _ _ _ h => h) (Or.inl ⟨by rfl, ?_⟩) (by assumption) ?_
        rotate_left
        · intro w hSw; go_simp; with_reducible rfl
        try simp only [Act.put, List.getElem_toArray, List.getElem_cons_succ, List.getElem_cons_zero, List.setIfInBounds_toArray, List.set_cons_zero, List.set_cons_succ]
        refine wpAnyE.one (i := 14) (by kernel_rfl) rfl (fun K hK => ?_)
        go_simp
        refine hK _ _ (fun _ => hS9) ?_
        clear hK K
        try simp only [Act.put, List.getElem_toArray, List.getElem_cons_succ, List.getElem_cons_zero, List.setIfInBounds_toArray, List.set_cons_zero, List.set_cons_succ]
        refine wpAnyE.one (i := 15) (by kernel_rfl) rfl (fun K hK => ?_)
        go_simp
        refine hK _ _ (fun _ => hS9) ?_
        clear hK K
        try simp only [Act.put, List.getElem_toArray, List.getElem_cons_succ, List.getElem_cons_zero, List.setIfInBounds_toArray, List.set_cons_zero, List.set_cons_succ]
        refine wpAnyE.done (by kernel_rfl) ?_
        obtain ⟨z0, z1, z2⟩ := hS9
        go_wp2
        go_ret
        exact ⟨rfl, hB8⟩
      | true =>
        generalize (tal3 s b c).1 = u1
        generalize (tal3 s b c).2 = u2
        have hS7 : (W5.drew.cell? ⟨ab, off, none⟩ = some (.string a) ∧ W5.drew.cell? ⟨ab, off + 1, none⟩ = some (.string b) ∧ W5.drew.cell? ⟨ab, off + 2, none⟩ = some (.string c)) := ⟨c0, c1, c2⟩
        have hBd := hB5.trans ((Below.refl W5.heap.size W5).drew.mono hB5.size)
        go_wp2_with fail
        refine wp_region_E (fun W => W.cell? ⟨ab, off, none⟩ = some (.string a) ∧ W.cell? ⟨ab, off + 1, none⟩ = some (.string b) ∧ W.cell? ⟨ab, off + 2, none⟩ = some (.string c)) (fun _ => false) (by kernel_rfl) hS7 (fun hS => ?_)
        generalize W5.drew = W6 at *
        clear c0 c1 c2 hB5
        refine wpAnyE.take (i := 0) (v := ?_) rfl (by kernel_rfl) (by kernel_rfl) (by kernel_rfl) (by kernel_rfl) (fun _ _ _ h => h) (Or.inl ⟨by rfl, ?_⟩) (by assumption) ?_
        rotate_left
        · intro w hSw; obtain ⟨z0, z1, z2⟩ := hSw; go_simp; with_reducible rfl
        try simp only [Act.put, List.getElem_toArray, List.getElem_cons_zero, List.setIfInBounds_toArray, List.set_cons_zero, List.set_cons_succ]
        refine wpAnyE.take (i := 1) (v := ?_) rfl (by kernel_rfl) (by kernel_rfl) (by kernel_rfl) (by kernel_rfl) (fun _ _ _ h => h) (Or.inl ⟨by rfl, ?_⟩) (by assumption) ?_
        rotate_left
        · intro w hSw; obtain ⟨z0, z1, z2⟩ := hSw; go_simp; with_reducible rfl
        try simp only [Act.put, List.getElem_toArray, List.getElem_cons_succ, List.getElem_cons_zero, List.setIfInBounds_toArray, List.set_cons_zero, List.set_cons_succ]
        refine wpAnyE.take (i := 2) (v := ?_) rfl (by kernel_rfl) (by kernel_rfl) (by kernel_rfl) (by kernel_rfl) (fun _ _ _ h => h) (Or.inl ⟨by rfl, ?_⟩) (by assumption) ?_
        rotate_left
        · intro w hSw; obtain ⟨z0, z1, z2⟩ := hSw; go_simp; with_reducible rfl
        try simp only [Act.put, List.getElem_toArray, List.getElem_cons_succ, List.getElem_cons_zero, List.setIfInBounds_toArray, List.set_cons_zero, List.set_cons_succ]
        refine wpAnyE.take (i := 3) (v := ?_) rfl (by kernel_rfl) (by kernel_rfl) (by kernel_rfl) (by kernel_rfl) (fun _ _ _ h => h) (Or.inl ⟨by rfl, ?_⟩) (by assumption) ?_
        rotate_left
        · intro w hSw; obtain ⟨z0, z1, z2⟩ := hSw; go_simp; with_reducible rfl
        try simp only [Act.put, List.getElem_toArray, List.getElem_cons_succ, List.getElem_cons_zero, List.setIfInBounds_toArray, List.set_cons_zero, List.set_cons_succ]
        refine wpAnyE.take (i := 4) (v := ?_) rfl (by kernel_rfl) (by kernel_rfl) (by kernel_rfl) (by kernel_rfl) (fun _ _ _ h => h) (Or.inl ⟨by rfl, ?_⟩) (by assumption) ?_
        rotate_left
        · intro w hSw; obtain ⟨z0, z1, z2⟩ := hSw; go_simp; with_reducible rfl
        try simp only [Act.put, List.getElem_toArray, List.getElem_cons_succ, List.getElem_cons_zero, List.setIfInBounds_toArray, List.set_cons_zero, List.set_cons_succ]
        refine wpAnyE.take (i := 5) (v := ?_) rfl (by kernel_rfl) (by kernel_rfl) (by kernel_rfl) (by kernel_rfl) (fun _ _ _ h => h) (Or.inl ⟨by rfl, ?_⟩) (by assumption) ?_
        rotate_left
        · intro w hSw; obtain ⟨z0, z1, z2⟩ := hSw; go_simp; with_reducible rfl
        try simp only [Act.put, List.getElem_toArray, List.getElem_cons_succ, List.getElem_cons_zero, List.setIfInBounds_toArray, List.set_cons_zero, List.set_cons_succ]
        refine wpAnyE.take (i := 6) (v := ?_) rfl (by kernel_rfl) (by kernel_rfl) (by kernel_rfl) (by kernel_rfl) (fun _ _ _ h => h) (Or.inl ⟨by rfl, ?_⟩) (by assumption) ?_
        rotate_left
        · intro w hSw; obtain ⟨z0, z1, z2⟩ := hSw; go_simp; with_reducible rfl
        try simp only [Act.put, List.getElem_toArray, List.getElem_cons_succ, List.getElem_cons_zero, List.setIfInBounds_toArray, List.set_cons_zero, List.set_cons_succ]
        refine wpAnyE.take (i := 7) (v := ?_) rfl (by kernel_rfl) (by kernel_rfl) (by kernel_rfl) (by kernel_rfl) (fun _ _ _ h => h) (Or.inl ⟨by rfl, ?_⟩) (by assumption) ?_
        rotate_left
        · intro w hSw; obtain ⟨z0, z1, z2⟩ := hSw; go_simp; with_reducible rfl
        try simp only [Act.put, List.getElem_toArray, List.getElem_cons_succ, List.getElem_cons_zero, List.setIfInBounds_toArray, List.set_cons_zero, List.set_cons_succ]
        refine wpAnyE.take (i := 8) (v := ?_) rfl (by kernel_rfl) (by kernel_rfl) (by kernel_rfl) (by kernel_rfl) (fun _ _ _ h => h) (Or.inl ⟨by rfl, ?_⟩) (by assumption) ?_
        rotate_left
        · intro w hSw; obtain ⟨z0, z1, z2⟩ := hSw; go_simp; with_reducible rfl
        try simp only [Act.put, List.getElem_toArray, List.getElem_cons_succ, List.getElem_cons_zero, List.setIfInBounds_toArray, List.set_cons_zero, List.set_cons_succ]
        refine wpAnyE.one (i := 9) (by kernel_rfl) rfl (fun K hK => ?_)
        go_simp
        obtain ⟨W7, hW7⟩ : ∃ W7, W7 = W6.alloc (.cells #[.string c, .string a, .string b] 9) := ⟨_, rfl⟩
        have hb7 : Below W6.heap.size W6 W7 := by rw [hW7]; exact below_alloc _ _
        have hT7 : HoldsT W7 (some ⟨W6.heap.size, 0, none⟩) [c, a, b] := by rw [hW7]; exact holdsT_new3 W6 c a b
        rw [← hW7]
        have hS8 : (W7.cell? ⟨ab, off, none⟩ = some (.string a) ∧ W7.cell? ⟨ab, off + 1, none⟩ = some (.string b) ∧ W7.cell? ⟨ab, off + 2, none⟩ = some (.string c)) := ⟨(cell_keep hb7 (by have := hBd.size; omega) hS7.1), (cell_keep hb7 (by have := hBd.size; omega) hS7.2.1), (cell_keep hb7 (by have := hBd.size; omega) hS7.2.2)⟩
        have hB7 := hBd.trans (hb7.mono hBd.size)
        clear hW7
        refine hK _ _ (fun _ => hS8) ?_
        clear hK K hS7 hBd hS
        try simp only [Act.put, List.getElem_toArray, List.getElem_cons_succ, List.getElem_cons_zero, List.setIfInBounds_toArray, List.set_cons_zero, List.set_cons_succ]
        refine wpAnyE.one (i := 10) (by kernel_rfl) rfl (fun K hK => ?_)
        go_simp
        refine (tally_yes _ 3 c a b W7 hT7).mono ?_
        rw [HT.out.turned]
        rintro e W8 ⟨rfl, hb8⟩
        have hS9 : (W8.cell? ⟨ab, off, none⟩ = some (.string a) ∧ W8.cell? ⟨ab, off + 1, none⟩ = some (.string b) ∧ W8.cell? ⟨ab, off + 2, none⟩ = some (.string c)) := ⟨(cell_keep hb8 (by have := hB7.size; omega) hS8.1), (cell_keep hb8 (by have := hB7.size; omega) hS8.2.1), (cell_keep hb8 (by have := hB7.size; omega) hS8.2.2)⟩
        have hB8 := hB7.trans (hb8.mono hB7.size)
        refine hK _ _ (fun _ => hS9) ?_
        clear hK K hS8 hB7 hT7 hb7 hb8
        dsimp only
        refine wpAnyE.take (i := 11) (v := ?_) rfl (by kernel_rfl) (by kernel_rfl) (by kernel_rfl) (by kernel_rfl) (fun _ _ _ h => h) (Or.inl ⟨by rfl, ?_⟩) (by assumption) ?_
        rotate_left
        · intro w hSw; go_simp; with_reducible rfl
        try simp only [Act.put, List.getElem_toArray, List.getElem_cons_succ, List.getElem_cons_zero, List.setIfInBounds_toArray, List.set_cons_zero, List.set_cons_succ]
        refine wpAnyE.take (i := 12) (v := ?_) rfl (by kernel_rfl) (by kernel_rfl) (by kernel_rfl) (by kernel_rfl) (fun _ _ _ h => h) (Or.inl ⟨by rfl, ?_⟩) (by assumption) ?_
        rotate_left
        · intro w hSw; go_simp; with_reducible rfl
        try simp only [Act.put, List.getElem_toArray, List.getElem_cons_succ, List.getElem_cons_zero, List.setIfInBounds_toArray, List.set_cons_zero, List.set_cons_succ]
        refine wpAnyE.take (i := 13) (v := ?_) rfl (by kernel_rfl) (by kernel_rfl) (by kernel_rfl) (by kernel_rfl) (fun _ _ _ h => h) (Or.inl ⟨by rfl, ?_⟩) (by assumption) ?_
        rotate_left
        · intro w hSw; go_simp; with_reducible rfl
        try simp only [Act.put, List.getElem_toArray, List.getElem_cons_succ, List.getElem_cons_zero, List.setIfInBounds_toArray, List.set_cons_zero, List.set_cons_succ]
        refine wpAnyE.one (i := 14) (by kernel_rfl) rfl (fun K hK => ?_)
        go_simp
        refine hK _ _ (fun _ => hS9) ?_
        clear hK K
        try simp only [Act.put, List.getElem_toArray, List.getElem_cons_succ, List.getElem_cons_zero, List.setIfInBounds_toArray, List.set_cons_zero, List.set_cons_succ]
        refine wpAnyE.one (i := 15) (by kernel_rfl) rfl (fun K hK => ?_)
        go_simp
        refine hK _ _ (fun _ => hS9) ?_
        clear hK K
        try simp only [Act.put, List.getElem_toArray, List.getElem_cons_succ, List.getElem_cons_zero, List.setIfInBounds_toArray, List.set_cons_zero, List.set_cons_succ]
        refine wpAnyE.done (by kernel_rfl) ?_
        obtain ⟨z0, z1, z2⟩ := hS9
        go_wp2
        go_ret
        exact ⟨rfl, hB8⟩
set_option maxHeartbeats 8000000 in
theorem voteOne_1 (ab off cc : Nat) (a b c s : ByteArray) (w : World) (hg : Glob w) (ht : Tab w) (hab : ab < w.heap.size) (e0 : w.cell? ⟨ab, off, none⟩ = some (.string a)) (e1 : w.cell? ⟨ab, off + 1, none⟩ = some (.string b)) (e2 : w.cell? ⟨ab, off + 2, none⟩ = some (.string c)) (hok : (tal3 a b c).2 = true) :
    Calls Tryz.prog 5 #[.slice (some ⟨ab, off, none⟩) 3 cc, .int .i64 1, .string s] w fun e w' => e = .returned (.bool true) ∧ Below w.heap.size w w' := by
  have HT : Hid (Told a b c (tal3 a b c).1) := told_of hok
  have hta := tally_yes (some ⟨ab, off, none⟩) cc a b c w (fun i _ => ⟨_, _, rfl, hab, fun j hj => by
    match j, hj with
    | 0, _ => exact e0
    | 1, _ => exact e1
    | 2, _ => exact e2
    | j + 3, hj => exact absurd hj (by simp)⟩)
  rw [hok] at hta
  generalize (tal3 a b c).1 = t at *
  clear hok
  go_enter Tryz.func5, Tryz.ntmps5
  go_wp2_with fail
  refine hta.mono ?_
  clear hta
  rintro e W1 ⟨rfl, hb1⟩
  go_wp2_with fail
  refine (voteBegun_any W1 (hg.below hb1) (ht.below hb1)).mono ?_
  rintro e W2 ⟨rfl, hb2⟩
  have hB2 := hb1.trans (hb2.mono hb1.size)
  have d0 := (cell_keep hB2 hab e0)
  have d1 := (cell_keep hB2 hab e1)
  have d2 := (cell_keep hB2 hab e2)
  clear hb1 hb2 e0 e1 e2
  go_wp2
  go_loopw [9, 10] (fun n i wr => ∃ (m k : Nat), n = .int .i64 m ∧ i = .int .i64 k ∧ k ≤ 3 ∧ Hid (m = (if 0 < k then one1 a t else 0) + (if 1 < k then one1 b t else 0) + (if 2 < k then one1 c t else 0)) ∧ Below W2.heap.size W2 wr) (fun _ i _ => 3 - (intOf i).toNat)
  case atStart => exact ⟨0, 0, rfl, rfl, by omega, rfl, Below.refl _ _⟩
  case round =>
    obtain ⟨m, k, rfl, rfl, hk, hm, hBr⟩ := hrel
    have hBw := hB2.trans (hBr.mono hB2.size)
    have c0 := (cell_keep hBr (by have := hB2.size; omega) d0)
    have c1 := (cell_keep hBr (by have := hB2.size; omega) d1)
    have c2 := (cell_keep hBr (by have := hB2.size; omega) d2)
    have h1 := one1_le a t
    have h2 := one1_le b t
    have h3 := one1_le c t
    clear d0 d1 d2
    match k, hk with
    | 0, _ =>
      have hw1 : IntKind.i64.wrap ((m : Int) + 1) = (m : Int) + 1 := by have := hm.out; simp at this; simp [IntKind.wrap, IntKind.bits, IntKind.signed]; omega
      clear h1 h2 h3
      cases hq : (a.toList == t.toList) with
      | true =>
        have HO : Hid (one1 a t = 1) := one1_t hq
        go_wp2
        go_roundw
        case rel => exact ⟨m + 1, 1, by simp, by go_num, by omega, by have := HO.out; have := hm.out; unfold Hid; simp at this ⊢; omega, hBr⟩
        case measure => simp [intOf]
      | false =>
        have HO : Hid (one1 a t = 0) := one1_f hq
        go_wp2
        go_roundw
        case rel => exact ⟨m, 1, by go_num, by go_num, by omega, by have := HO.out; have := hm.out; unfold Hid; simp at this ⊢; omega, hBr⟩
        case measure => simp [intOf]
    | 1, _ =>
      have hw1 : IntKind.i64.wrap ((m : Int) + 1) = (m : Int) + 1 := by have := hm.out; simp at this; simp [IntKind.wrap, IntKind.bits, IntKind.signed]; omega
      clear h1 h2 h3
      cases hq : (b.toList == t.toList) with
      | true =>
        have HO : Hid (one1 b t = 1) := one1_t hq
        go_wp2
        go_roundw
        case rel => exact ⟨m + 1, 2, by simp, by go_num, by omega, by have := HO.out; have := hm.out; unfold Hid; simp at this ⊢; omega, hBr⟩
        case measure => simp [intOf]
      | false =>
        have HO : Hid (one1 b t = 0) := one1_f hq
        go_wp2
        go_roundw
        case rel => exact ⟨m, 2, by go_num, by go_num, by omega, by have := HO.out; have := hm.out; unfold Hid; simp at this ⊢; omega, hBr⟩
        case measure => simp [intOf]
    | 2, _ =>
      have hw1 : IntKind.i64.wrap ((m : Int) + 1) = (m : Int) + 1 := by have := hm.out; simp at this; simp [IntKind.wrap, IntKind.bits, IntKind.signed]; omega
      clear h1 h2 h3
      cases hq : (c.toList == t.toList) with
      | true =>
        have HO : Hid (one1 c t = 1) := one1_t hq
        go_wp2
        go_roundw
        case rel => exact ⟨m + 1, 3, by simp, by go_num, by omega, by have := HO.out; have := hm.out; unfold Hid; simp at this ⊢; omega, hBr⟩
        case measure => simp [intOf]
      | false =>
        have HO : Hid (one1 c t = 0) := one1_f hq
        go_wp2
        go_roundw
        case rel => exact ⟨m, 3, by go_num, by go_num, by omega, by have := HO.out; have := hm.out; unfold Hid; simp at this ⊢; omega, hBr⟩
        case measure => simp [intOf]
    | 3, _ =>
      have HM : Hid (m = cnt a b c t) := by have := hm.out; unfold Hid cnt; simpa using this
      have hm3 : m ≤ 3 := by have := HM.out; unfold cnt at this; omega
      have hm2 : 2 ≤ m := by rw [HM.out]; exact HT.out.many
      have hw2 : IntKind.i64.wrap (2 * (m : Int)) = 2 * (m : Int) := by simp [IntKind.wrap, IntKind.bits, IntKind.signed]; omega
      have hgt : (3 : Int) < 2 * (m : Int) := by omega
      clear hm h1 h2 h3 hm3 hm2 HM
      obtain ⟨g, cap, cur, W3, hr3, hc3, hg3, hk3, hz3, q0, q1, q2, hb3⟩ := app_three wr 46 ab off cc a b c (by have := hBw.size; omega) c0 c1 c2
      have hB3 := hBw.trans (hb3.mono hBw.size)
      have x0 := (cell_keep hb3 (by have := hBw.size; omega) c0)
      have x1 := (cell_keep hb3 (by have := hBw.size; omega) c1)
      have x2 := (cell_keep hb3 (by have := hBw.size; omega) c2)
      have hgw : w.heap.size ≤ g := Nat.le_trans hBw.size hg3
      have hne : ab ≠ g := by omega
      have k4 := heap_setCell_same W3 g 1 cur 9 (.string s) hk3
      have hb4 : Below w.heap.size w (W3.setCell ⟨g, 1, none⟩ (.string s)) := hB3.setCell hgw _
      have y0 := (World.cell?_of_block (a := ⟨ab, off, none⟩) (heap_setCell_other W3 ⟨g, 1, none⟩ ab (.string s) hne)).trans x0
      have y1 := (World.cell?_of_block (a := ⟨ab, off + 1, none⟩) (heap_setCell_other W3 ⟨g, 1, none⟩ ab (.string s) hne)).trans x1
      have y2 := (World.cell?_of_block (a := ⟨ab, off + 2, none⟩) (heap_setCell_other W3 ⟨g, 1, none⟩ ab (.string s) hne)).trans x2
      have hT4 : HoldsT (W3.setCell ⟨g, 1, none⟩ (.string s)) (some ⟨g, 0, none⟩) [a, s, c] := holdsT3 k4 ((Array.getElem?_setIfInBounds_ne (by omega)).trans q0) (Array.getElem?_setIfInBounds_self_of_lt (by omega)) ((Array.getElem?_setIfInBounds_ne (by omega)).trans q2)
      have hcell : (W3.cell? ⟨g, 1, none⟩).isSome = true := by rw [cell_of_row _ _ _ _ _ _ hk3]; simp [q1]
      obtain ⟨vo, hvo⟩ := Option.isSome_iff_exists.1 hcell
      have hfr := f_of (o := 1) hk3
      clear hcell x0 x1 x2 hk3 q0 q1 q2 hb3 hBr hBw c0 c1 c2 k4 hB3
      go_wp2_with (at_builtin; refine wpList_append_h (by rfl) (.tmp 57) (.tmp 58) (by rfl) _ _ (by rfl) (by rfl) hr3 ?_)
      generalize W3.setCell ⟨g, 1, none⟩ (.string s) = W4 at *
      clear hr3 hfr hvo
      refine (tally_yes (some ⟨g, 0, none⟩) cap a s c W4 hT4).mono ?_
      rintro e W5 ⟨rfl, hb5⟩
      have hB5 := hb4.trans (hb5.mono hb4.size)
      have c0 := (cell_keep hb5 (by have := hb4.size; omega) y0)
      have c1 := (cell_keep hb5 (by have := hb4.size; omega) y1)
      have c2 := (cell_keep hb5 (by have := hb4.size; omega) y2)
      clear hb5 hb4 y0 y1 y2 hT4
      have qt : (t.toList == t.toList) = true := by simp
      cases hq : (b.toList == t.toList) with
      | false =>
        rw [HT.out.set1 s hq]
        have hS7 : (W5.drew.cell? ⟨ab, off, none⟩ = some (.string a) ∧ W5.drew.cell? ⟨ab, off + 1, none⟩ = some (.string b) ∧ W5.drew.cell? ⟨ab, off + 2, none⟩ = some (.string c)) := ⟨c0, c1, c2⟩
        have hBd := hB5.trans ((Below.refl W5.heap.size W5).drew.mono hB5.size)
        go_wp2_with fail
        refine wp_region_E (fun W => W.cell? ⟨ab, off, none⟩ = some (.string a) ∧ W.cell? ⟨ab, off + 1, none⟩ = some (.string b) ∧ W.cell? ⟨ab, off + 2, none⟩ = some (.string c)) (fun _ => false) (by kernel_rfl) hS7 (fun hS => ?_)
        generalize W5.drew = W6 at *
        clear c0 c1 c2 hB5
        refine wpAnyE.take (i := 0) (v := ?_) rfl (by kernel_rfl) (by kernel_rfl) (by kernel_rfl) (by kernel_rfl) (fun _ _ _ h => h) (Or.inl ⟨by rfl, ?_⟩) (by assumption) ?_
        rotate_left
        · intro w hSw; obtain ⟨z0, z1, z2⟩ := hSw; go_simp; with_reducible rfl
        try simp only [Act.put, List.getElem_toArray, List.getElem_cons_zero, List.setIfInBounds_toArray, List.set_cons_zero, List.set_cons_succ]
        refine wpAnyE.take (i := 1) (v := ?_) rfl (by kernel_rfl) (by kernel_rfl) (by kernel_rfl) (by kernel_rfl) (fun _ _ _ h => h) (Or.inl ⟨by rfl, ?_⟩) (by assumption) ?_
        rotate_left
        · intro w hSw; obtain ⟨z0, z1, z2⟩ := hSw; go_simp; with_reducible rfl
        try simp only [Act.put, List.getElem_toArray, List.getElem_cons_succ, List.getElem_cons_zero, List.setIfInBounds_toArray, List.set_cons_zero, List.set_cons_succ]
        refine wpAnyE.take (i := 2) (v := ?_) rfl (by kernel_rfl) (by kernel_rfl) (by kernel_rfl) (by kernel_rfl) (fun _ _ _ h => h) (Or.inl ⟨by rfl, ?_⟩) (by assumption) ?_
        rotate_left
        · intro w hSw; obtain ⟨z0, z1, z2⟩ := hSw; go_simp; with_reducible rfl
        try simp only [Act.put, List.getElem_toArray, List.getElem_cons_succ, List.getElem_cons_zero, List.setIfInBounds_toArray, List.set_cons_zero, List.set_cons_succ]
        refine wpAnyE.take (i := 3) (v := ?_) rfl (by kernel_rfl) (by kernel_rfl) (by kernel_rfl) (by kernel_rfl) (fun _ _ _ h => h) (Or.inl ⟨by rfl, ?_⟩) (by assumption) ?_
        rotate_left
        · intro w hSw; obtain ⟨z0, z1, z2⟩ := hSw; go_simp; with_reducible rfl
        try simp only [Act.put, List.getElem_toArray, List.getElem_cons_succ, List.getElem_cons_zero, List.setIfInBounds_toArray, List.set_cons_zero, List.set_cons_succ]
        refine wpAnyE.take (i := 4) (v := ?_) rfl (by kernel_rfl) (by kernel_rfl) (by kernel_rfl) (by kernel_rfl) (fun _ _ _ h => h) (Or.inl ⟨by rfl, ?_⟩) (by assumption) ?_
        rotate_left
        · intro w hSw; obtain ⟨z0, z1, z2⟩ := hSw; go_simp; with_reducible rfl
        try simp only [Act.put, List.getElem_toArray, List.getElem_cons_succ, List.getElem_cons_zero, List.setIfInBounds_toArray, List.set_cons_zero, List.set_cons_succ]
        refine wpAnyE.take (i := 5) (v := ?_) rfl (by kernel_rfl) (by kernel_rfl) (by kernel_rfl) (by kernel_rfl) (fun _ _ _ h => h) (Or.inl ⟨by rfl, ?_⟩) (by assumption) ?_
        rotate_left
        · intro w hSw; obtain ⟨z0, z1, z2⟩ := hSw; go_simp; with_reducible rfl
        try simp only [Act.put, List.getElem_toArray, List.getElem_cons_succ, List.getElem_cons_zero, List.setIfInBounds_toArray, List.set_cons_zero, List.set_cons_succ]
        refine wpAnyE.take (i := 6) (v := ?_) rfl (by kernel_rfl) (by kernel_rfl) (by kernel_rfl) (by kernel_rfl) (fun _ _ _ h => h) (Or.inl ⟨by rfl, ?_⟩) (by assumption) ?_
        rotate_left
        · intro w hSw; obtain ⟨z0, z1, z2⟩ := hSw; go_simp; with_reducible rfl
        try simp only [Act.put, List.getElem_toArray, List.getElem_cons_succ, List.getElem_cons_zero, List.setIfInBounds_toArray, List.set_cons_zero, List.set_cons_succ]
        refine wpAnyE.take (i := 7) (v := ?_) rfl (by kernel_rfl) (by kernel_rfl) (by kernel_rfl) (by kernel_rfl) (fun _ _ _ h => h) (Or.inl ⟨by rfl, ?_⟩) (by assumption) ?_
        rotate_left
        · intro w hSw; obtain ⟨z0, z1, z2⟩ := hSw; go_simp; with_reducible rfl
        try simp only [Act.put, List.getElem_toArray, List.getElem_cons_succ, List.getElem_cons_zero, List.setIfInBounds_toArray, List.set_cons_zero, List.set_cons_succ]
        refine wpAnyE.take (i := 8) (v := ?_) rfl (by kernel_rfl) (by kernel_rfl) (by kernel_rfl) (by kernel_rfl) (fun _ _ _ h => h) (Or.inl ⟨by rfl, ?_⟩) (by assumption) ?_
        rotate_left
        · intro w hSw; obtain ⟨z0, z1, z2⟩ := hSw; go_simp; with_reducible rfl
        try simp only [Act.put, List.getElem_toArray, List.getElem_cons_succ, List.getElem_cons_zero, List.setIfInBounds_toArray, List.set_cons_zero, List.set_cons_succ]
        refine wpAnyE.one (i := 9) (by kernel_rfl) rfl (fun K hK => ?_)
        go_simp
        obtain ⟨W7, hW7⟩ : ∃ W7, W7 = W6.alloc (.cells #[.string c, .string a, .string b] 9) := ⟨_, rfl⟩
        have hb7 : Below W6.heap.size W6 W7 := by rw [hW7]; exact below_alloc _ _
        have hT7 : HoldsT W7 (some ⟨W6.heap.size, 0, none⟩) [c, a, b] := by rw [hW7]; exact holdsT_new3 W6 c a b
        rw [← hW7]
        have hS8 : (W7.cell? ⟨ab, off, none⟩ = some (.string a) ∧ W7.cell? ⟨ab, off + 1, none⟩ = some (.string b) ∧ W7.cell? ⟨ab, off + 2, none⟩ = some (.string c)) := ⟨(cell_keep hb7 (by have := hBd.size; omega) hS7.1), (cell_keep hb7 (by have := hBd.size; omega) hS7.2.1), (cell_keep hb7 (by have := hBd.size; omega) hS7.2.2)⟩
        have hB7 := hBd.trans (hb7.mono hBd.size)
        clear hW7
        refine hK _ _ (fun _ => hS8) ?_
        clear hK K hS7 hBd hS
        try simp only [Act.put, List.getElem_toArray, List.getElem_cons_succ, List.getElem_cons_zero, List.setIfInBounds_toArray, List.set_cons_zero, List.set_cons_succ]
        refine wpAnyE.one (i := 10) (by kernel_rfl) rfl (fun K hK => ?_)
        go_simp
        refine (tally_yes _ 3 c a b W7 hT7).mono ?_
        rw [HT.out.turned]
        rintro e W8 ⟨rfl, hb8⟩
        have hS9 : (W8.cell? ⟨ab, off, none⟩ = some (.string a) ∧ W8.cell? ⟨ab, off + 1, none⟩ = some (.string b) ∧ W8.cell? ⟨ab, off + 2, none⟩ = some (.string c)) := ⟨(cell_keep hb8 (by have := hB7.size; omega) hS8.1), (cell_keep hb8 (by have := hB7.size; omega) hS8.2.1), (cell_keep hb8 (by have := hB7.size; omega) hS8.2.2)⟩
        have hB8 := hB7.trans (hb8.mono hB7.size)
        refine hK _ _ (fun _ => hS9) ?_
        clear hK K hS8 hB7 hT7 hb7 hb8
        dsimp only
        refine wpAnyE.take (i := 11) (v := ?_) rfl (by kernel_rfl) (by kernel_rfl) (by kernel_rfl) (by kernel_rfl) (fun _ _ _ h => h) (Or.inl ⟨by rfl, ?_⟩) (by assumption) ?_
        rotate_left
        · intro w hSw; go_simp; with_reducible rfl
        try simp only [Act.put, List.getElem_toArray, List.getElem_cons_succ, List.getElem_cons_zero, List.setIfInBounds_toArray, List.set_cons_zero, List.set_cons_succ]
        refine wpAnyE.take (i := 12) (v := ?_) rfl (by kernel_rfl) (by kernel_rfl) (by kernel_rfl) (by kernel_rfl) (fun _ _ _ h => h) (Or.inl ⟨by rfl, ?_⟩) (by assumption) ?_
        rotate_left
        · intro w hSw; go_simp; with_reducible rfl
        try simp only [Act.put, List.getElem_toArray, List.getElem_cons_succ, List.getElem_cons_zero, List.setIfInBounds_toArray, List.set_cons_zero, List.set_cons_succ]
        refine wpAnyE.take (i := 13) (v := ?_) rfl (by kernel_rfl) (by kernel_rfl) (by kernel_rfl) (by kernel_rfl) (fun _ _ _ h => h) (Or.inl ⟨by rfl, ?_⟩) (by assumption) ?_
        rotate_left
        · intro w hSw; go_simp; with_reducible rfl
        try simp only [Act.put, List.getElem_toArray, List.getElem_cons_succ, List.getElem_cons_zero, List.setIfInBounds_toArray, List.set_cons_zero, List.set_cons_succ]
        refine wpAnyE.one (i := 14) (by kernel_rfl) rfl (fun K hK => ?_)
        go_simp
        refine hK _ _ (fun _ => hS9) ?_
        clear hK K
        try simp only [Act.put, List.getElem_toArray, List.getElem_cons_succ, List.getElem_cons_zero, List.setIfInBounds_toArray, List.set_cons_zero, List.set_cons_succ]
        refine wpAnyE.one (i := 15) (by kernel_rfl) rfl (fun K hK => ?_)
        go_simp
        refine hK _ _ (fun _ => hS9) ?_
        clear hK K
        try simp only [Act.put, List.getElem_toArray, List.getElem_cons_succ, List.getElem_cons_zero, List.setIfInBounds_toArray, List.set_cons_zero, List.set_cons_succ]
        refine wpAnyE.done (by kernel_rfl) ?_
        obtain ⟨z0, z1, z2⟩ := hS9
        go_wp2
        go_ret
        exact ⟨rfl, hB8⟩
      | true =>
        generalize (tal3 a s c).1 = u1
        generalize (tal3 a s c).2 = u2
        have hS7 : (W5.drew.cell? ⟨ab, off, none⟩ = some (.string a) ∧ W5.drew.cell? ⟨ab, off + 1, none⟩ = some (.string b) ∧ W5.drew.cell? ⟨ab, off + 2, none⟩ = some (.string c)) := ⟨c0, c1, c2⟩
        have hBd := hB5.trans ((Below.refl W5.heap.size W5).drew.mono hB5.size)
        go_wp2_with fail
        refine wp_region_E (fun W => W.cell? ⟨ab, off, none⟩ = some (.string a) ∧ W.cell? ⟨ab, off + 1, none⟩ = some (.string b) ∧ W.cell? ⟨ab, off + 2, none⟩ = some (.string c)) (fun _ => false) (by kernel_rfl) hS7 (fun hS => ?_)
        generalize W5.drew = W6 at *
        clear c0 c1 c2 hB5
        refine wpAnyE.take (i := 0) (v := ?_) rfl (by kernel_rfl) (by kernel_rfl) (by kernel_rfl) (by kernel_rfl) (fun _ _ _ h => h) (Or.inl ⟨by rfl, ?_⟩) (by assumption) ?_
        rotate_left
        · intro w hSw; obtain ⟨z0, z1, z2⟩ := hSw; go_simp; with_reducible rfl
        try simp only [Act.put, List.getElem_toArray, List.getElem_cons_zero, List.setIfInBounds_toArray, List.set_cons_zero, List.set_cons_succ]
        refine wpAnyE.take (i := 1) (v := ?_) rfl (by kernel_rfl) (by kernel_rfl) (by kernel_rfl) (by kernel_rfl) (fun _ _ _ h => h) (Or.inl ⟨by rfl, ?_⟩) (by assumption) ?_
        rotate_left
        · intro w hSw; obtain ⟨z0, z1, z2⟩ := hSw; go_simp; with_reducible rfl
        try simp only [Act.put, List.getElem_toArray, List.getElem_cons_succ, List.getElem_cons_zero, List.setIfInBounds_toArray, List.set_cons_zero, List.set_cons_succ]
        refine wpAnyE.take (i := 2) (v := ?_) rfl (by kernel_rfl) (by kernel_rfl) (by kernel_rfl) (by kernel_rfl) (fun _ _ _ h => h) (Or.inl ⟨by rfl, ?_⟩) (by assumption) ?_
        rotate_left
        · intro w hSw; obtain ⟨z0, z1, z2⟩ := hSw; go_simp; with_reducible rfl
        try simp only [Act.put, List.getElem_toArray, List.getElem_cons_succ, List.getElem_cons_zero, List.setIfInBounds_toArray, List.set_cons_zero, List.set_cons_succ]
        refine wpAnyE.take (i := 3) (v := ?_) rfl (by kernel_rfl) (by kernel_rfl) (by kernel_rfl) (by kernel_rfl) (fun _ _ _ h => h) (Or.inl ⟨by rfl, ?_⟩) (by assumption) ?_
        rotate_left
        · intro w hSw; obtain ⟨z0, z1, z2⟩ := hSw; go_simp; with_reducible rfl
        try simp only [Act.put, List.getElem_toArray, List.getElem_cons_succ, List.getElem_cons_zero, List.setIfInBounds_toArray, List.set_cons_zero, List.set_cons_succ]
        refine wpAnyE.take (i := 4) (v := ?_) rfl (by kernel_rfl) (by kernel_rfl) (by kernel_rfl) (by kernel_rfl) (fun _ _ _ h => h) (Or.inl ⟨by rfl, ?_⟩) (by assumption) ?_
        rotate_left
        · intro w hSw; obtain ⟨z0, z1, z2⟩ := hSw; go_simp; with_reducible rfl
        try simp only [Act.put, List.getElem_toArray, List.getElem_cons_succ, List.getElem_cons_zero, List.setIfInBounds_toArray, List.set_cons_zero, List.set_cons_succ]
        refine wpAnyE.take (i := 5) (v := ?_) rfl (by kernel_rfl) (by kernel_rfl) (by kernel_rfl) (by kernel_rfl) (fun _ _ _ h => h) (Or.inl ⟨by rfl, ?_⟩) (by assumption) ?_
        rotate_left
        · intro w hSw; obtain ⟨z0, z1, z2⟩ := hSw; go_simp; with_reducible rfl
        try simp only [Act.put, List.getElem_toArray, List.getElem_cons_succ, List.getElem_cons_zero, List.setIfInBounds_toArray, List.set_cons_zero, List.set_cons_succ]
        refine wpAnyE.take (i := 6) (v := ?_) rfl (by kernel_rfl) (by kernel_rfl) (by kernel_rfl) (by kernel_rfl) (fun _ _ _ h => h) (Or.inl ⟨by rfl, ?_⟩) (by assumption) ?_
        rotate_left
        · intro w hSw; obtain ⟨z0, z1, z2⟩ := hSw; go_simp; with_reducible rfl
        try simp only [Act.put, List.getElem_toArray, List.getElem_cons_succ, List.getElem_cons_zero, List.setIfInBounds_toArray, List.set_cons_zero, List.set_cons_succ]
        refine wpAnyE.take (i := 7) (v := ?_) rfl (by kernel_rfl) (by kernel_rfl) (by kernel_rfl) (by kernel_rfl) (fun _ _ _ h => h) (Or.inl ⟨by rfl, ?_⟩) (by assumption) ?_
        rotate_left
        · intro w hSw; obtain ⟨z0, z1, z2⟩ := hSw; go_simp; with_reducible rfl
        try simp only [Act.put, List.getElem_toArray, List.getElem_cons_succ, List.getElem_cons_zero, List.setIfInBounds_toArray, List.set_cons_zero, List.set_cons_succ]
        refine wpAnyE.take (i := 8) (v := ?_) rfl (by kernel_rfl) (by kernel_rfl) (by kernel_rfl) (by kernel_rfl) (fun _ _ _ h => h) (Or.inl ⟨by rfl, ?_⟩) (by assumption) ?_
        rotate_left
        · intro w hSw; obtain ⟨z0, z1, z2⟩ := hSw; go_simp; with_reducible rfl
        try simp only [Act.put, List.getElem_toArray, List.getElem_cons_succ, List.getElem_cons_zero, List.setIfInBounds_toArray, List.set_cons_zero, List.set_cons_succ]
        refine wpAnyE.one (i := 9) (by kernel_rfl) rfl (fun K hK => ?_)
        go_simp
        obtain ⟨W7, hW7⟩ : ∃ W7, W7 = W6.alloc (.cells #[.string c, .string a, .string b] 9) := ⟨_, rfl⟩
        have hb7 : Below W6.heap.size W6 W7 := by rw [hW7]; exact below_alloc _ _
        have hT7 : HoldsT W7 (some ⟨W6.heap.size, 0, none⟩) [c, a, b] := by rw [hW7]; exact holdsT_new3 W6 c a b
        rw [← hW7]
        have hS8 : (W7.cell? ⟨ab, off, none⟩ = some (.string a) ∧ W7.cell? ⟨ab, off + 1, none⟩ = some (.string b) ∧ W7.cell? ⟨ab, off + 2, none⟩ = some (.string c)) := ⟨(cell_keep hb7 (by have := hBd.size; omega) hS7.1), (cell_keep hb7 (by have := hBd.size; omega) hS7.2.1), (cell_keep hb7 (by have := hBd.size; omega) hS7.2.2)⟩
        have hB7 := hBd.trans (hb7.mono hBd.size)
        clear hW7
        refine hK _ _ (fun _ => hS8) ?_
        clear hK K hS7 hBd hS
        try simp only [Act.put, List.getElem_toArray, List.getElem_cons_succ, List.getElem_cons_zero, List.setIfInBounds_toArray, List.set_cons_zero, List.set_cons_succ]
        refine wpAnyE.one (i := 10) (by kernel_rfl) rfl (fun K hK => ?_)
        go_simp
        refine (tally_yes _ 3 c a b W7 hT7).mono ?_
        rw [HT.out.turned]
        rintro e W8 ⟨rfl, hb8⟩
        have hS9 : (W8.cell? ⟨ab, off, none⟩ = some (.string a) ∧ W8.cell? ⟨ab, off + 1, none⟩ = some (.string b) ∧ W8.cell? ⟨ab, off + 2, none⟩ = some (.string c)) := ⟨(cell_keep hb8 (by have := hB7.size; omega) hS8.1), (cell_keep hb8 (by have := hB7.size; omega) hS8.2.1), (cell_keep hb8 (by have := hB7.size; omega) hS8.2.2)⟩
        have hB8 := hB7.trans (hb8.mono hB7.size)
        refine hK _ _ (fun _ => hS9) ?_
        clear hK K hS8 hB7 hT7 hb7 hb8
        dsimp only
        refine wpAnyE.take (i := 11) (v := ?_) rfl (by kernel_rfl) (by kernel_rfl) (by kernel_rfl) (by kernel_rfl) (fun _ _ _ h => h) (Or.inl ⟨by rfl, ?_⟩) (by assumption) ?_
        rotate_left
        · intro w hSw; go_simp; with_reducible rfl
        try simp only [Act.put, List.getElem_toArray, List.getElem_cons_succ, List.getElem_cons_zero, List.setIfInBounds_toArray, List.set_cons_zero, List.set_cons_succ]
        refine wpAnyE.take (i := 12) (v := ?_) rfl (by kernel_rfl) (by kernel_rfl) (by kernel_rfl) (by kernel_rfl) (fun _ _ _ h => h) (Or.inl ⟨by rfl, ?_⟩) (by assumption) ?_
        rotate_left
        · intro w hSw; go_simp; with_reducible rfl
        try simp only [Act.put, List.getElem_toArray, List.getElem_cons_succ, List.getElem_cons_zero, List.setIfInBounds_toArray, List.set_cons_zero, List.set_cons_succ]
        refine wpAnyE.take (i := 13) (v := ?_) rfl (by kernel_rfl) (by kernel_rfl) (by kernel_rfl) (by kernel_rfl) (fun _ _ _ h => h) (Or.inl ⟨by rfl, ?_⟩) (by assumption) ?_
        rotate_left
        · intro w hSw; go_simp; with_reducible rfl
        try simp only [Act.put, List.getElem_toArray, List.getElem_cons_succ, List.getElem_cons_zero, List.setIfInBounds_toArray, List.set_cons_zero, List.set_cons_succ]
        refine wpAnyE.one (i := 14) (by kernel_rfl) rfl (fun K hK => ?_)
        go_simp
        refine hK _ _ (fun _ => hS9) ?_
        clear hK K
        try simp only [Act.put, List.getElem_toArray, List.getElem_cons_succ, List.getElem_cons_zero, List.setIfInBounds_toArray, List.set_cons_zero, List.set_cons_succ]
        refine wpAnyE.one (i := 15) (by kernel_rfl) rfl (fun K hK => ?_)
        go_simp
        refine hK _ _ (fun _ => hS9) ?_
        clear hK K
        try simp only [Act.put, List.getElem_toArray, List.getElem_cons_succ, List.getElem_cons_zero, List.setIfInBounds_toArray, List.set_cons_zero, List.set_cons_succ]
        refine wpAnyE.done (by kernel_rfl) ?_
        obtain ⟨z0, z1, z2⟩ := hS9
        go_wp2
        go_ret
        exact ⟨rfl, hB8⟩
set_option maxHeartbeats 8000000 in
theorem voteOne_2 (ab off cc : Nat) (a b c s : ByteArray) (w : World) (hg : Glob w) (ht : Tab w) (hab : ab < w.heap.size) (e0 : w.cell? ⟨ab, off, none⟩ = some (.string a)) (e1 : w.cell? ⟨ab, off + 1, none⟩ = some (.string b)) (e2 : w.cell? ⟨ab, off + 2, none⟩ = some (.string c)) (hok : (tal3 a b c).2 = true) :
    Calls Tryz.prog 5 #[.slice (some ⟨ab, off, none⟩) 3 cc, .int .i64 2, .string s] w fun e w' => e = .returned (.bool true) ∧ Below w.heap.size w w' := by
  have HT : Hid (Told a b c (tal3 a b c).1) := told_of hok
  have hta := tally_yes (some ⟨ab, off, none⟩) cc a b c w (fun i _ => ⟨_, _, rfl, hab, fun j hj => by
    match j, hj with
    | 0, _ => exact e0
    | 1, _ => exact e1
    | 2, _ => exact e2
    | j + 3, hj => exact absurd hj (by simp)⟩)
  rw [hok] at hta
  generalize (tal3 a b c).1 = t at *
  clear hok
  go_enter Tryz.func5, Tryz.ntmps5
  go_wp2_with fail
  refine hta.mono ?_
  clear hta
  rintro e W1 ⟨rfl, hb1⟩
  go_wp2_with fail
  refine (voteBegun_any W1 (hg.below hb1) (ht.below hb1)).mono ?_
  rintro e W2 ⟨rfl, hb2⟩
  have hB2 := hb1.trans (hb2.mono hb1.size)
  have d0 := (cell_keep hB2 hab e0)
  have d1 := (cell_keep hB2 hab e1)
  have d2 := (cell_keep hB2 hab e2)
  clear hb1 hb2 e0 e1 e2
  go_wp2
  go_loopw [9, 10] (fun n i wr => ∃ (m k : Nat), n = .int .i64 m ∧ i = .int .i64 k ∧ k ≤ 3 ∧ Hid (m = (if 0 < k then one1 a t else 0) + (if 1 < k then one1 b t else 0) + (if 2 < k then one1 c t else 0)) ∧ Below W2.heap.size W2 wr) (fun _ i _ => 3 - (intOf i).toNat)
  case atStart => exact ⟨0, 0, rfl, rfl, by omega, rfl, Below.refl _ _⟩
  case round =>
    obtain ⟨m, k, rfl, rfl, hk, hm, hBr⟩ := hrel
    have hBw := hB2.trans (hBr.mono hB2.size)
    have c0 := (cell_keep hBr (by have := hB2.size; omega) d0)
    have c1 := (cell_keep hBr (by have := hB2.size; omega) d1)
    have c2 := (cell_keep hBr (by have := hB2.size; omega) d2)
    have h1 := one1_le a t
    have h2 := one1_le b t
    have h3 := one1_le c t
    clear d0 d1 d2
    match k, hk with
    | 0, _ =>
      have hw1 : IntKind.i64.wrap ((m : Int) + 1) = (m : Int) + 1 := by have := hm.out; simp at this; simp [IntKind.wrap, IntKind.bits, IntKind.signed]; omega
      clear h1 h2 h3
      cases hq : (a.toList == t.toList) with
      | true =>
        have HO : Hid (one1 a t = 1) := one1_t hq
        go_wp2
        go_roundw
        case rel => exact ⟨m + 1, 1, by simp, by go_num, by omega, by have := HO.out; have := hm.out; unfold Hid; simp at this ⊢; omega, hBr⟩
        case measure => simp [intOf]
      | false =>
        have HO : Hid (one1 a t = 0) := one1_f hq
        go_wp2
        go_roundw
        case rel => exact ⟨m, 1, by go_num, by go_num, by omega, by have := HO.out; have := hm.out; unfold Hid; simp at this ⊢; omega, hBr⟩
        case measure => simp [intOf]
    | 1, _ =>
      have hw1 : IntKind.i64.wrap ((m : Int) + 1) = (m : Int) + 1 := by have := hm.out; simp at this; simp [IntKind.wrap, IntKind.bits, IntKind.signed]; omega
      clear h1 h2 h3
      cases hq : (b.toList == t.toList) with
      | true =>
        have HO : Hid (one1 b t = 1) := one1_t hq
        go_wp2
        go_roundw
        case rel => exact ⟨m + 1, 2, by simp, by go_num, by omega, by have := HO.out; have := hm.out; unfold Hid; simp at this ⊢; omega, hBr⟩
        case measure => simp [intOf]
      | false =>
        have HO : Hid (one1 b t = 0) := one1_f hq
        go_wp2
        go_roundw
        case rel => exact ⟨m, 2, by go_num, by go_num, by omega, by have := HO.out; have := hm.out; unfold Hid; simp at this ⊢; omega, hBr⟩
        case measure => simp [intOf]
    | 2, _ =>
      have hw1 : IntKind.i64.wrap ((m : Int) + 1) = (m : Int) + 1 := by have := hm.out; simp at this; simp [IntKind.wrap, IntKind.bits, IntKind.signed]; omega
      clear h1 h2 h3
      cases hq : (c.toList == t.toList) with
      | true =>
        have HO : Hid (one1 c t = 1) := one1_t hq
        go_wp2
        go_roundw
        case rel => exact ⟨m + 1, 3, by simp, by go_num, by omega, by have := HO.out; have := hm.out; unfold Hid; simp at this ⊢; omega, hBr⟩
        case measure => simp [intOf]
      | false =>
        have HO : Hid (one1 c t = 0) := one1_f hq
        go_wp2
        go_roundw
        case rel => exact ⟨m, 3, by go_num, by go_num, by omega, by have := HO.out; have := hm.out; unfold Hid; simp at this ⊢; omega, hBr⟩
        case measure => simp [intOf]
    | 3, _ =>
      have HM : Hid (m = cnt a b c t) := by have := hm.out; unfold Hid cnt; simpa using this
      have hm3 : m ≤ 3 := by have := HM.out; unfold cnt at this; omega
      have hm2 : 2 ≤ m := by rw [HM.out]; exact HT.out.many
      have hw2 : IntKind.i64.wrap (2 * (m : Int)) = 2 * (m : Int) := by simp [IntKind.wrap, IntKind.bits, IntKind.signed]; omega
      have hgt : (3 : Int) < 2 * (m : Int) := by omega
      clear hm h1 h2 h3 hm3 hm2 HM
      obtain ⟨g, cap, cur, W3, hr3, hc3, hg3, hk3, hz3, q0, q1, q2, hb3⟩ := app_three wr 46 ab off cc a b c (by have := hBw.size; omega) c0 c1 c2
      have hB3 := hBw.trans (hb3.mono hBw.size)
      have x0 := (cell_keep hb3 (by have := hBw.size; omega) c0)
      have x1 := (cell_keep hb3 (by have := hBw.size; omega) c1)
      have x2 := (cell_keep hb3 (by have := hBw.size; omega) c2)
      have hgw : w.heap.size ≤ g := Nat.le_trans hBw.size hg3
      have hne : ab ≠ g := by omega
      have k4 := heap_setCell_same W3 g 2 cur 9 (.string s) hk3
      have hb4 : Below w.heap.size w (W3.setCell ⟨g, 2, none⟩ (.string s)) := hB3.setCell hgw _
      have y0 := (World.cell?_of_block (a := ⟨ab, off, none⟩) (heap_setCell_other W3 ⟨g, 2, none⟩ ab (.string s) hne)).trans x0
      have y1 := (World.cell?_of_block (a := ⟨ab, off + 1, none⟩) (heap_setCell_other W3 ⟨g, 2, none⟩ ab (.string s) hne)).trans x1
      have y2 := (World.cell?_of_block (a := ⟨ab, off + 2, none⟩) (heap_setCell_other W3 ⟨g, 2, none⟩ ab (.string s) hne)).trans x2
      have hT4 : HoldsT (W3.setCell ⟨g, 2, none⟩ (.string s)) (some ⟨g, 0, none⟩) [a, b, s] := holdsT3 k4 ((Array.getElem?_setIfInBounds_ne (by omega)).trans q0) ((Array.getElem?_setIfInBounds_ne (by omega)).trans q1) (Array.getElem?_setIfInBounds_self_of_lt (by omega))
      have hcell : (W3.cell? ⟨g, 2, none⟩).isSome = true := by rw [cell_of_row _ _ _ _ _ _ hk3]; simp [q2]
      obtain ⟨vo, hvo⟩ := Option.isSome_iff_exists.1 hcell
      have hfr := f_of (o := 2) hk3
      clear hcell x0 x1 x2 hk3 q0 q1 q2 hb3 hBr hBw c0 c1 c2 k4 hB3
      go_wp2_with (at_builtin; refine wpList_append_h (by rfl) (.tmp 57) (.tmp 58) (by rfl) _ _ (by rfl) (by rfl) hr3 ?_)
      generalize W3.setCell ⟨g, 2, none⟩ (.string s) = W4 at *
      clear hr3 hfr hvo
      refine (tally_yes (some ⟨g, 0, none⟩) cap a b s W4 hT4).mono ?_
      rintro e W5 ⟨rfl, hb5⟩
      have hB5 := hb4.trans (hb5.mono hb4.size)
      have c0 := (cell_keep hb5 (by have := hb4.size; omega) y0)
      have c1 := (cell_keep hb5 (by have := hb4.size; omega) y1)
      have c2 := (cell_keep hb5 (by have := hb4.size; omega) y2)
      clear hb5 hb4 y0 y1 y2 hT4
      have qt : (t.toList == t.toList) = true := by simp
      cases hq : (c.toList == t.toList) with
      | false =>
        rw [HT.out.set2 s hq]
        have hS7 : (W5.drew.cell? ⟨ab, off, none⟩ = some (.string a) ∧ W5.drew.cell? ⟨ab, off + 1, none⟩ = some (.string b) ∧ W5.drew.cell? ⟨ab, off + 2, none⟩ = some (.string c)) := ⟨c0, c1, c2⟩
        have hBd := hB5.trans ((Below.refl W5.heap.size W5).drew.mono hB5.size)
        go_wp2_with fail
        refine wp_region_E (fun W => W.cell? ⟨ab, off, none⟩ = some (.string a) ∧ W.cell? ⟨ab, off + 1, none⟩ = some (.string b) ∧ W.cell? ⟨ab, off + 2, none⟩ = some (.string c)) (fun _ => false) (by kernel_rfl) hS7 (fun hS => ?_)
        generalize W5.drew = W6 at *
        clear c0 c1 c2 hB5
        refine wpAnyE.take (i := 0) (v := ?_) rfl (by kernel_rfl) (by kernel_rfl) (by kernel_rfl) (by kernel_rfl) (fun _ _ _ h => h) (Or.inl ⟨by rfl, ?_⟩) (by assumption) ?_
        rotate_left
        · intro w hSw; obtain ⟨z0, z1, z2⟩ := hSw; go_simp; with_reducible rfl
        try simp only [Act.put, List.getElem_toArray, List.getElem_cons_zero, List.setIfInBounds_toArray, List.set_cons_zero, List.set_cons_succ]
        refine wpAnyE.take (i := 1) (v := ?_) rfl (by kernel_rfl) (by kernel_rfl) (by kernel_rfl) (by kernel_rfl) (fun _ _ _ h => h) (Or.inl ⟨by rfl, ?_⟩) (by assumption) ?_
        rotate_left
        · intro w hSw; obtain ⟨z0, z1, z2⟩ := hSw; go_simp; with_reducible rfl
        try simp only [Act.put, List.getElem_toArray, List.getElem_cons_succ, List.getElem_cons_zero, List.setIfInBounds_toArray, List.set_cons_zero, List.set_cons_succ]
        refine wpAnyE.take (i := 2) (v := ?_) rfl (by kernel_rfl) (by kernel_rfl) (by kernel_rfl) (by kernel_rfl) (fun _ _ _ h => h) (Or.inl ⟨by rfl, ?_⟩) (by assumption) ?_
        rotate_left
        · intro w hSw; obtain ⟨z0, z1, z2⟩ := hSw; go_simp; with_reducible rfl
        try simp only [Act.put, List.getElem_toArray, List.getElem_cons_succ, List.getElem_cons_zero, List.setIfInBounds_toArray, List.set_cons_zero, List.set_cons_succ]
        refine wpAnyE.take (i := 3) (v := ?_) rfl (by kernel_rfl) (by kernel_rfl) (by kernel_rfl) (by kernel_rfl) (fun _ _ _ h => h) (Or.inl ⟨by rfl, ?_⟩) (by assumption) ?_
        rotate_left
        · intro w hSw; obtain ⟨z0, z1, z2⟩ := hSw; go_simp; with_reducible rfl
        try simp only [Act.put, List.getElem_toArray, List.getElem_cons_succ, List.getElem_cons_zero, List.setIfInBounds_toArray, List.set_cons_zero, List.set_cons_succ]
        refine wpAnyE.take (i := 4) (v := ?_) rfl (by kernel_rfl) (by kernel_rfl) (by kernel_rfl) (by kernel_rfl) (fun _ _ _ h => h) (Or.inl ⟨by rfl, ?_⟩) (by assumption) ?_
        rotate_left
        · intro w hSw; obtain ⟨z0, z1, z2⟩ := hSw; go_simp; with_reducible rfl
        try simp only [Act.put, List.getElem_toArray, List.getElem_cons_succ, List.getElem_cons_zero, List.setIfInBounds_toArray, List.set_cons_zero, List.set_cons_succ]
        refine wpAnyE.take (i := 5) (v := ?_) rfl (by kernel_rfl) (by kernel_rfl) (by kernel_rfl) (by kernel_rfl) (fun _ _ _ h => h) (Or.inl ⟨by rfl, ?_⟩) (by assumption) ?_
        rotate_left
        · intro w hSw; obtain ⟨z0, z1, z2⟩ := hSw; go_simp; with_reducible rfl
        try simp only [Act.put, List.getElem_toArray, List.getElem_cons_succ, List.getElem_cons_zero, List.setIfInBounds_toArray, List.set_cons_zero, List.set_cons_succ]
        refine wpAnyE.take (i := 6) (v := ?_) rfl (by kernel_rfl) (by kernel_rfl) (by kernel_rfl) (by kernel_rfl) (fun _ _ _ h => h) (Or.inl ⟨by rfl, ?_⟩) (by assumption) ?_
        rotate_left
        · intro w hSw; obtain ⟨z0, z1, z2⟩ := hSw; go_simp; with_reducible rfl
        try simp only [Act.put, List.getElem_toArray, List.getElem_cons_succ, List.getElem_cons_zero, List.setIfInBounds_toArray, List.set_cons_zero, List.set_cons_succ]
        refine wpAnyE.take (i := 7) (v := ?_) rfl (by kernel_rfl) (by kernel_rfl) (by kernel_rfl) (by kernel_rfl) (fun _ _ _ h => h) (Or.inl ⟨by rfl, ?_⟩) (by assumption) ?_
        rotate_left
        · intro w hSw; obtain ⟨z0, z1, z2⟩ := hSw; go_simp; with_reducible rfl
        try simp only [Act.put, List.getElem_toArray, List.getElem_cons_succ, List.getElem_cons_zero, List.setIfInBounds_toArray, List.set_cons_zero, List.set_cons_succ]
        refine wpAnyE.take (i := 8) (v := ?_) rfl (by kernel_rfl) (by kernel_rfl) (by kernel_rfl) (by kernel_rfl) (fun _ _ _ h => h) (Or.inl ⟨by rfl, ?_⟩) (by assumption) ?_
        rotate_left
        · intro w hSw; obtain ⟨z0, z1, z2⟩ := hSw; go_simp; with_reducible rfl
        try simp only [Act.put, List.getElem_toArray, List.getElem_cons_succ, List.getElem_cons_zero, List.setIfInBounds_toArray, List.set_cons_zero, List.set_cons_succ]
        refine wpAnyE.one (i := 9) (by kernel_rfl) rfl (fun K hK => ?_)
        go_simp
        obtain ⟨W7, hW7⟩ : ∃ W7, W7 = W6.alloc (.cells #[.string c, .string a, .string b] 9) := ⟨_, rfl⟩
        have hb7 : Below W6.heap.size W6 W7 := by rw [hW7]; exact below_alloc _ _
        have hT7 : HoldsT W7 (some ⟨W6.heap.size, 0, none⟩) [c, a, b] := by rw [hW7]; exact holdsT_new3 W6 c a b
        rw [← hW7]
        have hS8 : (W7.cell? ⟨ab, off, none⟩ = some (.string a) ∧ W7.cell? ⟨ab, off + 1, none⟩ = some (.string b) ∧ W7.cell? ⟨ab, off + 2, none⟩ = some (.string c)) := ⟨(cell_keep hb7 (by have := hBd.size; omega) hS7.1), (cell_keep hb7 (by have := hBd.size; omega) hS7.2.1), (cell_keep hb7 (by have := hBd.size; omega) hS7.2.2)⟩
        have hB7 := hBd.trans (hb7.mono hBd.size)
        clear hW7
        refine hK _ _ (fun _ => hS8) ?_
        clear hK K hS7 hBd hS
        try simp only [Act.put, List.getElem_toArray, List.getElem_cons_succ, List.getElem_cons_zero, List.setIfInBounds_toArray, List.set_cons_zero, List.set_cons_succ]
        refine wpAnyE.one (i := 10) (by kernel_rfl) rfl (fun K hK => ?_)
        go_simp
        refine (tally_yes _ 3 c a b W7 hT7).mono ?_
        rw [HT.out.turned]
        rintro e W8 ⟨rfl, hb8⟩
        have hS9 : (W8.cell? ⟨ab, off, none⟩ = some (.string a) ∧ W8.cell? ⟨ab, off + 1, none⟩ = some (.string b) ∧ W8.cell? ⟨ab, off + 2, none⟩ = some (.string c)) := ⟨(cell_keep hb8 (by have := hB7.size; omega) hS8.1), (cell_keep hb8 (by have := hB7.size; omega) hS8.2.1), (cell_keep hb8 (by have := hB7.size; omega) hS8.2.2)⟩
        have hB8 := hB7.trans (hb8.mono hB7.size)
        refine hK _ _ (fun _ => hS9) ?_
        clear hK K hS8 hB7 hT7 hb7 hb8
        dsimp only
        refine wpAnyE.take (i := 11) (v := ?_) rfl (by kernel_rfl) (by kernel_rfl) (by kernel_rfl) (by kernel_rfl) (fun _ _ _ h => h) (Or.inl ⟨by rfl, ?_⟩) (by assumption) ?_
        rotate_left
        · intro w hSw; go_simp; with_reducible rfl
        try simp only [Act.put, List.getElem_toArray, List.getElem_cons_succ, List.getElem_cons_zero, List.setIfInBounds_toArray, List.set_cons_zero, List.set_cons_succ]
        refine wpAnyE.take (i := 12) (v := ?_) rfl (by kernel_rfl) (by kernel_rfl) (by kernel_rfl) (by kernel_rfl) (fun _ _ _ h => h) (Or.inl ⟨by rfl, ?_⟩) (by assumption) ?_
        rotate_left
        · intro w hSw; go_simp; with_reducible rfl
        try simp only [Act.put, List.getElem_toArray, List.getElem_cons_succ, List.getElem_cons_zero, List.setIfInBounds_toArray, List.set_cons_zero, List.set_cons_succ]
        refine wpAnyE.take (i := 13) (v := ?_) rfl (by kernel_rfl) (by kernel_rfl) (by kernel_rfl) (by kernel_rfl) (fun _ _ _ h => h) (Or.inl ⟨by rfl, ?_⟩) (by assumption) ?_
        rotate_left
        · intro w hSw; go_simp; with_reducible rfl
        try simp only [Act.put, List.getElem_toArray, List.getElem_cons_succ, List.getElem_cons_zero, List.setIfInBounds_toArray, List.set_cons_zero, List.set_cons_succ]
        refine wpAnyE.one (i := 14) (by kernel_rfl) rfl (fun K hK => ?_)
        go_simp
        refine hK _ _ (fun _ => hS9) ?_
        clear hK K
        try simp only [Act.put, List.getElem_toArray, List.getElem_cons_succ, List.getElem_cons_zero, List.setIfInBounds_toArray, List.set_cons_zero, List.set_cons_succ]
        refine wpAnyE.one (i := 15) (by kernel_rfl) rfl (fun K hK => ?_)
        go_simp
        refine hK _ _ (fun _ => hS9) ?_
        clear hK K
        try simp only [Act.put, List.getElem_toArray, List.getElem_cons_succ, List.getElem_cons_zero, List.setIfInBounds_toArray, List.set_cons_zero, List.set_cons_succ]
        refine wpAnyE.done (by kernel_rfl) ?_
        obtain ⟨z0, z1, z2⟩ := hS9
        go_wp2
        go_ret
        exact ⟨rfl, hB8⟩
      | true =>
        generalize (tal3 a b s).1 = u1
        generalize (tal3 a b s).2 = u2
        have hS7 : (W5.drew.cell? ⟨ab, off, none⟩ = some (.string a) ∧ W5.drew.cell? ⟨ab, off + 1, none⟩ = some (.string b) ∧ W5.drew.cell? ⟨ab, off + 2, none⟩ = some (.string c)) := ⟨c0, c1, c2⟩
        have hBd := hB5.trans ((Below.refl W5.heap.size W5).drew.mono hB5.size)
        go_wp2_with fail
        refine wp_region_E (fun W => W.cell? ⟨ab, off, none⟩ = some (.string a) ∧ W.cell? ⟨ab, off + 1, none⟩ = some (.string b) ∧ W.cell? ⟨ab, off + 2, none⟩ = some (.string c)) (fun _ => false) (by kernel_rfl) hS7 (fun hS => ?_)
        generalize W5.drew = W6 at *
        clear c0 c1 c2 hB5
        refine wpAnyE.take (i := 0) (v := ?_) rfl (by kernel_rfl) (by kernel_rfl) (by kernel_rfl) (by kernel_rfl) (fun _ _ _ h => h) (Or.inl ⟨by rfl, ?_⟩) (by assumption) ?_
        rotate_left
        · intro w hSw; obtain ⟨z0, z1, z2⟩ := hSw; go_simp; with_reducible rfl
        try simp only [Act.put, List.getElem_toArray, List.getElem_cons_zero, List.setIfInBounds_toArray, List.set_cons_zero, List.set_cons_succ]
        refine wpAnyE.take (i := 1) (v := ?_) rfl (by kernel_rfl) (by kernel_rfl) (by kernel_rfl) (by kernel_rfl) (fun _ _ _ h => h) (Or.inl ⟨by rfl, ?_⟩) (by assumption) ?_
        rotate_left
        · intro w hSw; obtain ⟨z0, z1, z2⟩ := hSw; go_simp; with_reducible rfl
        try simp only [Act.put, List.getElem_toArray, List.getElem_cons_succ, List.getElem_cons_zero, List.setIfInBounds_toArray, List.set_cons_zero, List.set_cons_succ]
        refine wpAnyE.take (i := 2) (v := ?_) rfl (by kernel_rfl) (by kernel_rfl) (by kernel_rfl) (by kernel_rfl) (fun _ _ _ h => h) (Or.inl ⟨by rfl, ?_⟩) (by assumption) ?_
        rotate_left
        · intro w hSw; obtain ⟨z0, z1, z2⟩ := hSw; go_simp; with_reducible rfl
        try simp only [Act.put, List.getElem_toArray, List.getElem_cons_succ, List.getElem_cons_zero, List.setIfInBounds_toArray, List.set_cons_zero, List.set_cons_succ]
        refine wpAnyE.take (i := 3) (v := ?_) rfl (by kernel_rfl) (by kernel_rfl) (by kernel_rfl) (by kernel_rfl) (fun _ _ _ h => h) (Or.inl ⟨by rfl, ?_⟩) (by assumption) ?_
        rotate_left
        · intro w hSw; obtain ⟨z0, z1, z2⟩ := hSw; go_simp; with_reducible rfl
        try simp only [Act.put, List.getElem_toArray, List.getElem_cons_succ, List.getElem_cons_zero, List.setIfInBounds_toArray, List.set_cons_zero, List.set_cons_succ]
        refine wpAnyE.take (i := 4) (v := ?_) rfl (by kernel_rfl) (by kernel_rfl) (by kernel_rfl) (by kernel_rfl) (fun _ _ _ h => h) (Or.inl ⟨by rfl, ?_⟩) (by assumption) ?_
        rotate_left
        · intro w hSw; obtain ⟨z0, z1, z2⟩ := hSw; go_simp; with_reducible rfl
        try simp only [Act.put, List.getElem_toArray, List.getElem_cons_succ, List.getElem_cons_zero, List.setIfInBounds_toArray, List.set_cons_zero, List.set_cons_succ]
        refine wpAnyE.take (i := 5) (v := ?_) rfl (by kernel_rfl) (by kernel_rfl) (by kernel_rfl) (by kernel_rfl) (fun _ _ _ h => h) (Or.inl ⟨by rfl, ?_⟩) (by assumption) ?_
        rotate_left
        · intro w hSw; obtain ⟨z0, z1, z2⟩ := hSw; go_simp; with_reducible rfl
        try simp only [Act.put, List.getElem_toArray, List.getElem_cons_succ, List.getElem_cons_zero, List.setIfInBounds_toArray, List.set_cons_zero, List.set_cons_succ]
        refine wpAnyE.take (i := 6) (v := ?_) rfl (by kernel_rfl) (by kernel_rfl) (by kernel_rfl) (by kernel_rfl) (fun _ _ _ h => h) (Or.inl ⟨by rfl, ?_⟩) (by assumption) ?_
        rotate_left
        · intro w hSw; obtain ⟨z0, z1, z2⟩ := hSw; go_simp; with_reducible rfl
        try simp only [Act.put, List.getElem_toArray, List.getElem_cons_succ, List.getElem_cons_zero, List.setIfInBounds_toArray, List.set_cons_zero, List.set_cons_succ]
        refine wpAnyE.take (i := 7) (v := ?_) rfl (by kernel_rfl) (by kernel_rfl) (by kernel_rfl) (by kernel_rfl) (fun _ _ _ h => h) (Or.inl ⟨by rfl, ?_⟩) (by assumption) ?_
        rotate_left
        · intro w hSw; obtain ⟨z0, z1, z2⟩ := hSw; go_simp; with_reducible rfl
        try simp only [Act.put, List.getElem_toArray, List.getElem_cons_succ, List.getElem_cons_zero, List.setIfInBounds_toArray, List.set_cons_zero, List.set_cons_succ]
        refine wpAnyE.take (i := 8) (v := ?_) rfl (by kernel_rfl) (by kernel_rfl) (by kernel_rfl) (by kernel_rfl) (fun _ _ _ h => h) (Or.inl ⟨by rfl, ?_⟩) (by assumption) ?_
        rotate_left
        · intro w hSw; obtain ⟨z0, z1, z2⟩ := hSw; go_simp; with_reducible rfl
        try simp only [Act.put, List.getElem_toArray, List.getElem_cons_succ, List.getElem_cons_zero, List.setIfInBounds_toArray, List.set_cons_zero, List.set_cons_succ]
        refine wpAnyE.one (i := 9) (by kernel_rfl) rfl (fun K hK => ?_)
        go_simp
        obtain ⟨W7, hW7⟩ : ∃ W7, W7 = W6.alloc (.cells #[.string c, .string a, .string b] 9) := ⟨_, rfl⟩
        have hb7 : Below W6.heap.size W6 W7 := by rw [hW7]; exact below_alloc _ _
        have hT7 : HoldsT W7 (some ⟨W6.heap.size, 0, none⟩) [c, a, b] := by rw [hW7]; exact holdsT_new3 W6 c a b
        rw [← hW7]
        have hS8 : (W7.cell? ⟨ab, off, none⟩ = some (.string a) ∧ W7.cell? ⟨ab, off + 1, none⟩ = some (.string b) ∧ W7.cell? ⟨ab, off + 2, none⟩ = some (.string c)) := ⟨(cell_keep hb7 (by have := hBd.size; omega) hS7.1), (cell_keep hb7 (by have := hBd.size; omega) hS7.2.1), (cell_keep hb7 (by have := hBd.size; omega) hS7.2.2)⟩
        have hB7 := hBd.trans (hb7.mono hBd.size)
        clear hW7
        refine hK _ _ (fun _ => hS8) ?_
        clear hK K hS7 hBd hS
        try simp only [Act.put, List.getElem_toArray, List.getElem_cons_succ, List.getElem_cons_zero, List.setIfInBounds_toArray, List.set_cons_zero, List.set_cons_succ]
        refine wpAnyE.one (i := 10) (by kernel_rfl) rfl (fun K hK => ?_)
        go_simp
        refine (tally_yes _ 3 c a b W7 hT7).mono ?_
        rw [HT.out.turned]
        rintro e W8 ⟨rfl, hb8⟩
        have hS9 : (W8.cell? ⟨ab, off, none⟩ = some (.string a) ∧ W8.cell? ⟨ab, off + 1, none⟩ = some (.string b) ∧ W8.cell? ⟨ab, off + 2, none⟩ = some (.string c)) := ⟨(cell_keep hb8 (by have := hB7.size; omega) hS8.1), (cell_keep hb8 (by have := hB7.size; omega) hS8.2.1), (cell_keep hb8 (by have := hB7.size; omega) hS8.2.2)⟩
        have hB8 := hB7.trans (hb8.mono hB7.size)
        refine hK _ _ (fun _ => hS9) ?_
        clear hK K hS8 hB7 hT7 hb7 hb8
        dsimp only
        refine wpAnyE.take (i := 11) (v := ?_) rfl (by kernel_rfl) (by kernel_rfl) (by kernel_rfl) (by kernel_rfl) (fun _ _ _ h => h) (Or.inl ⟨by rfl, ?_⟩) (by assumption) ?_
        rotate_left
        · intro w hSw; go_simp; with_reducible rfl
        try simp only [Act.put, List.getElem_toArray, List.getElem_cons_succ, List.getElem_cons_zero, List.setIfInBounds_toArray, List.set_cons_zero, List.set_cons_succ]
        refine wpAnyE.take (i := 12) (v := ?_) rfl (by kernel_rfl) (by kernel_rfl) (by kernel_rfl) (by kernel_rfl) (fun _ _ _ h => h) (Or.inl ⟨by rfl, ?_⟩) (by assumption) ?_
        rotate_left
        · intro w hSw; go_simp; with_reducible rfl
        try simp only [Act.put, List.getElem_toArray, List.getElem_cons_succ, List.getElem_cons_zero, List.setIfInBounds_toArray, List.set_cons_zero, List.set_cons_succ]
        refine wpAnyE.take (i := 13) (v := ?_) rfl (by kernel_rfl) (by kernel_rfl) (by kernel_rfl) (by kernel_rfl) (fun _ _ _ h => h) (Or.inl ⟨by rfl, ?_⟩) (by assumption) ?_
        rotate_left
        · intro w hSw; go_simp; with_reducible rfl
        try simp only [Act.put, List.getElem_toArray, List.getElem_cons_succ, List.getElem_cons_zero, List.setIfInBounds_toArray, List.set_cons_zero, List.set_cons_succ]
        refine wpAnyE.one (i := 14) (by kernel_rfl) rfl (fun K hK => ?_)
        go_simp
        refine hK _ _ (fun _ => hS9) ?_
        clear hK K
        try simp only [Act.put, List.getElem_toArray, List.getElem_cons_succ, List.getElem_cons_zero, List.setIfInBounds_toArray, List.set_cons_zero, List.set_cons_succ]
        refine wpAnyE.one (i := 15) (by kernel_rfl) rfl (fun K hK => ?_)
        go_simp
        refine hK _ _ (fun _ => hS9) ?_
        clear hK K
        try simp only [Act.put, List.getElem_toArray, List.getElem_cons_succ, List.getElem_cons_zero, List.setIfInBounds_toArray, List.set_cons_zero, List.set_cons_succ]
        refine wpAnyE.done (by kernel_rfl) ?_
        obtain ⟨z0, z1, z2⟩ := hS9
        go_wp2
        go_ret
        exact ⟨rfl, hB8⟩
set_option maxHeartbeats 2000000 in
theorem voteOne_not (al : Option Addr) (k cc : Nat) (n : Int) (s : ByteArray) (w : World) (hg : Glob w) (ht : Tab w) (hta : Calls Tryz.prog 17 #[.slice al k cc] w fun e w' => e = .returned (.tuple #[.string sNil, .bool false]) ∧ Below w.heap.size w w') :
    Calls Tryz.prog 5 #[.slice al k cc, .int .i64 n, .string s] w fun e w' => e = .returned (.bool true) ∧ Below w.heap.size w w' := by
  have qn : (sNil.toList == sNil.toList) = true := by simp
  go_enter Tryz.func5, Tryz.ntmps5
  go_wp2_with fail
  refine hta.mono ?_
  clear hta
  rintro e W1 ⟨rfl, hb1⟩
  go_wp2_with fail
  refine (voteBegun_any W1 (hg.below hb1) (ht.below hb1)).mono ?_
  rintro e W2 ⟨rfl, hb2⟩
  have hB2 := hb1.trans (hb2.mono hb1.size)
  clear hb1 hb2
  go_wp2
  go_ret
  exact ⟨rfl, hB2⟩

set_option maxHeartbeats 2000000 in
theorem voteOne_out (al : Option Addr) (k cc : Nat) (n : Int) (s t : ByteArray) (w : World) (hg : Glob w) (ht : Tab w) (hta : Calls Tryz.prog 17 #[.slice al k cc] w fun e w' => e = .returned (.tuple #[.string t, .bool true]) ∧ Below w.heap.size w w') (hn : n < 0 ∨ (k : Int) ≤ n) :
    Calls Tryz.prog 5 #[.slice al k cc, .int .i64 n, .string s] w fun e w' => e = .returned (.bool true) ∧ Below w.heap.size w w' := by
  go_enter Tryz.func5, Tryz.ntmps5
  go_wp2_with fail
  refine hta.mono ?_
  clear hta
  rintro e W1 ⟨rfl, hb1⟩
  go_wp2_with fail
  refine (voteBegun_any W1 (hg.below hb1) (ht.below hb1)).mono ?_
  rintro e W2 ⟨rfl, hb2⟩
  have hB2 := hb1.trans (hb2.mono hb1.size)
  clear hb1 hb2
  by_cases h0 : n < 0
  · clear hn
    go_wp2
    go_ret
    exact ⟨rfl, hB2⟩
  · have h1 : (k : Int) ≤ n := by omega
    clear hn
    go_wp2
    go_ret
    exact ⟨rfl, hB2⟩

theorem voteOne_any (al : Option Addr) (cc : Nat) (l : List ByteArray) (n : Int) (s : ByteArray) (w : World) (hg : Glob w) (ht : Tab w) (h : HoldsT w al l) :
    Calls Tryz.prog 5 #[.slice al l.length cc, .int .i64 n, .string s] w fun e w' => e = .returned (.bool true) ∧ Below w.heap.size w w' := by
  by_cases hl : l.length = 3
  case neg =>
    have := tally_no al cc l w hl
    rw [tallyT_not hl] at this
    exact voteOne_not al l.length cc n s w hg ht this
  match l, hl with
  | [a, b, c], _ =>
    have hy := tally_yes al cc a b c w h
    cases hok : (tal3 a b c).2 with
    | false =>
      rw [show tal3 a b c = (sNil, false) from talL_none _ hok] at hy
      exact voteOne_not al 3 cc n s w hg ht hy
    | true =>
      by_cases hn : n < 0 ∨ (3 : Int) ≤ n
      · rw [hok] at hy
        exact voteOne_out al 3 cc n s _ w hg ht hy hn
      · obtain ⟨ab, off, rfl, hab, hc⟩ := h 0 (by simp)
        have e0 : w.cell? ⟨ab, off, none⟩ = some (.string a) := hc 0 (by simp)
        have e1 : w.cell? ⟨ab, off + 1, none⟩ = some (.string b) := hc 1 (by simp)
        have e2 : w.cell? ⟨ab, off + 2, none⟩ = some (.string c) := hc 2 (by simp)
        have : n = 0 ∨ n = 1 ∨ n = 2 := by omega
        rcases this with rfl | rfl | rfl
        · exact voteOne_0 ab off cc a b c s w hg ht hab e0 e1 e2 hok
        · exact voteOne_1 ab off cc a b c s w hg ht hab e0 e1 e2 hok
        · exact voteOne_2 ab off cc a b c s w hg ht hab e0 e1 e2 hok
end Go.Proofs.YtgkmoehbjdmefaaGreatDoor
