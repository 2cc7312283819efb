import Derived.Test.YtehmlpkapjdhkaaDoorMX1
import Derived.Test.YtehmlpkapjdhkaaDoorMD
import Derived.Test.YtehmlpkapjdhkaaDoorMH
namespace Go.Proofs.YtehmlpkapjdhkaaDoor
section
open Go.RowKit
set_option maxRecDepth 100000

theorem app_objs2 (W0 w : World) (hb : Below W0.heap.size W0 w) (base : Nat) (ty : TypeId) (v : Value) (rs : List Pl) (hown : w.ownsRow base 31 4 v rs.length (rowC rs)) (a : Option Addr) (c : Nat) (m : List Ob) (h : HoldsS W0 a m)
    (hlen : rs.length + m.length ≤ 1000) (hbase : base ≤ w.heap.size) :
    ∃ v' w' rs', (Builtin.append_ #[22, 22] ty #[v, .slice a m.length c]).run Tryd.prog w = .ok v' w' ∧ rs'.map Pl.x = m ∧ w'.ownsRow base 31 4 v' (rs ++ rs').length (rowC (rs ++ rs')) ∧ w.grownBy w' v.ownBlock ∧ ∀ r ∈ rs', Holds W0 r.sa r.x.links := by
  by_cases ha : a = none ∧ m.length = 0
  · obtain ⟨rfl, h0⟩ := ha
    obtain rfl : m = [] := List.eq_nil_of_length_eq_zero h0
    have hgr : ∀ row, w.grownBy w row := fun row => ⟨rfl, rfl, rfl, Nat.le_refl _, fun _ _ _ => rfl⟩
    obtain ⟨i0, hi0, hz0, hzs, hzb⟩ := info_parts Tryd.info31
    have hr : (Builtin.append_ #[22, 22] ty #[v, .slice none 0 c]).run Tryd.prog w = .ok v w := by
      rcases hown.2 with ⟨rfl, _⟩ | ⟨g, cap, cur, rfl, _, _, h3, _⟩
      · exact app_none_g Tryd.underlying22 hi0 ty none c w
      · simp [Builtin.append_, run_underlying Tryd.underlying22, sizeOf, typeInfo, hi0, Builtin.lenOf, Builtin.firstCells, loadCells, h3, storeCells]
    exact ⟨v, w, [], hr, rfl, by simpa using hown, hgr _, fun r hr => by cases hr⟩
  · refine app_objs W0 w hb base ty v rs hown a c m h (fun e => ?_) hlen hbase
    exfalso
    rcases Nat.eq_zero_or_pos m.length with h0 | h0
    · exact ha ⟨e, h0⟩
    · obtain ⟨b, off, e', _⟩ := h 0 h0
      rw [e] at e'; cases e'
/-- two lists behind one another, in a row of their own. -/
theorem both_objs2 (W : World) (ty : TypeId) (a : Option Addr) (c : Nat) (l : List Ob) (h : HoldsS W a l) (a2 : Option Addr) (c2 : Nat) (m : List Ob) (h2 : HoldsS W a2 m)
    (hlen : l.length + m.length ≤ 1000) (hx : ∀ x ∈ l ++ m, x.links.length ≤ 1000) :
    ∃ v1 W1 a3 c3 W2, (Builtin.append_ #[22, 22] ty #[.slice (some ⟨W.heap.size, 0, none⟩) 0 0, .slice a l.length c]).run Tryd.prog (W.alloc (.cells #[] 31)) = .ok v1 W1 ∧
      (Builtin.append_ #[22, 22] ty #[v1, .slice a2 m.length c2]).run Tryd.prog W1 = .ok (.slice a3 (l ++ m).length c3) W2 ∧ HoldsS W2 a3 (l ++ m) ∧ Below W.heap.size W W1 ∧ Below W.heap.size W W2 := by
  have hb0 := below_alloc W (.cells #[] 31)
  have o0 : (W.alloc (.cells #[] 31)).ownsRow W.heap.size 31 4 (.slice (some ⟨W.heap.size, 0, none⟩) 0 0) ([] : List Pl).length (rowC []) := World.ownsRow_made W #[] 0 (Nat.le_refl _) (by unfold maxLen; omega) rfl
  obtain ⟨v1, W1, rs1, r1, e1, o1, g1, q1⟩ := app_objs2 W (W.alloc (.cells #[] 31)) hb0 W.heap.size ty _ [] o0 a c l h (by simp; omega) hb0.size
  have gb : ∀ {w w' : World} {v : Value} {n : Nat} {xs : List Value}, w.ownsRow W.heap.size 31 4 v n xs → w.grownBy w' v.ownBlock → W.heap.size ≤ w.heap.size → Below W.heap.size w w' := fun ho hg hs =>
    ⟨hg.os, hg.tape, hg.output, hg.size, fun k hk => hg.block k (by omega) (fun e => by have := (ho.lt k e.symm).1; omega)⟩
  have b1 := gb o0 g1 hb0.size
  have B1 := hb0.trans b1
  have hl1 : rs1.length = l.length := by have := congrArg List.length e1; rwa [List.length_map] at this
  obtain ⟨v2, W2, rs2, r2, e2, o2, g2, q2⟩ := app_objs2 W W1 B1 W.heap.size ty v1 ([] ++ rs1) o1 a2 c2 m h2 (by simp; omega) B1.size
  have b2 := gb o1 g2 B1.size
  have B2 := B1.trans b2
  have hM : ([] ++ rs1 ++ rs2).map Pl.x = l ++ m := by simp [e1, e2]
  obtain ⟨a3, c3, ev, hS, _⟩ := own_reads o2 (fun r hr => by
    have hx' : r.x ∈ l ++ m := by rw [← hM]; exact List.mem_map.2 ⟨r, hr, rfl⟩
    refine ⟨?_, by have := hx r.x hx'; omega⟩
    rcases List.mem_append.1 hr with q | q
    · exact (q1 r (by simpa using q)).below B2
    · exact (q2 r q).below B2)
  rw [hM] at hS ev
  have hl2 : ([] ++ rs1 ++ rs2).length = (l ++ m).length := by rw [← hM, List.length_map]
  rw [ev] at r2
  exact ⟨v1, W1, a3, c3, W2, r1, r2, hS, B1, B2⟩
end

section
open Go.RowKit
set_option maxRecDepth 100000

set_option maxHeartbeats 2000000 in
theorem storeBegun_any (w : World) : Calls Tryd.prog 6 #[] w fun e w' => e = .returned (.bool true) ∧ Below w.heap.size w w' := by
  go_enter Tryd.func6, Tryd.ntmps6
  go_wp2_with fail
  refine wp_region_E (fun _ => True) (fun _ => false) (by kernel_rfl) trivial (fun hS => ?_)
  have HB0 : Below w.heap.size w w.drew := (Below.refl _ _).drew
  generalize w.drew = W0 at *
  refine wpAnyE.one (i := 0) (by kernel_rfl) rfl (fun K hK => ?_)
  go_simp
  refine (shelf_five W0).mono ?_
  rintro e W1 ⟨g1, _, _, _, _, rfl, hb1, p1, p2, -, -, -⟩
  have HB1 := HB0.trans (hb1.mono HB0.size)
  refine hK _ _ (fun _ => trivial) ?_
  clear hK K
  try simp only [Act.put, List.getElem_toArray, List.getElem_cons_succ, List.getElem_cons_zero, List.setIfInBounds_toArray, List.set_cons_zero, List.set_cons_succ]
  refine wpAnyE.take (i := 1) (v := ?_) rfl (by kernel_rfl) (by kernel_rfl) (by kernel_rfl) (by kernel_rfl) (fun _ _ _ h => h) (Or.inl ⟨by rfl, ?_⟩) (by assumption) ?_
  rotate_left
  · intro w hSw; go_simp; with_reducible rfl
  try simp only [Act.put, List.getElem_toArray, List.getElem_cons_succ, List.getElem_cons_zero, List.setIfInBounds_toArray, List.set_cons_zero, List.set_cons_succ]
  refine wpAnyE.one (i := 2) (by kernel_rfl) rfl (fun K hK => ?_)
  go_simp
  refine (shelf_five W1).mono ?_
  rintro e W2 ⟨g2, _, _, _, x5, rfl, hb2, -, -, -, -, t5⟩
  have HB2 := HB1.trans (hb2.mono HB1.size)
  replace p1 := p1.below hb2
  replace p2 := p2.below hb2
  refine hK _ _ (fun _ => trivial) ?_
  clear hK K
  try simp only [Act.put, List.getElem_toArray, List.getElem_cons_succ, List.getElem_cons_zero, List.setIfInBounds_toArray, List.set_cons_zero, List.set_cons_succ]
  refine wpAnyE.mono (S' := fun W => C4 g2 16 o5 (some ⟨x5, 0, none⟩) 2 W) (fun _ h => trivial) ?_
  have hT2 : C4 g2 16 o5 (some ⟨x5, 0, none⟩) 2 W2 := t5
  refine wpAnyE.take (i := 3) (v := ?_) rfl (by kernel_rfl) (by kernel_rfl) (by kernel_rfl) (by kernel_rfl) (fun _ _ _ h => h) (Or.inl ⟨by rfl, ?_⟩) (by assumption) ?_
  rotate_left
  · intro w hSw; go_simp; with_reducible rfl
  try simp only [Act.put, List.getElem_toArray, List.getElem_cons_succ, List.getElem_cons_zero, List.setIfInBounds_toArray, List.set_cons_zero, List.set_cons_succ]
  refine wpAnyE.take (i := 4) (v := ?_) rfl (by kernel_rfl) (by kernel_rfl) (by kernel_rfl) (by kernel_rfl) (fun _ _ _ h => h) (Or.inl ⟨by rfl, ?_⟩) (by assumption) ?_
  rotate_left
  · intro w hSw; have q := hSw; have z0 := q.c0; have z1 := q.c1; have z2 := q.c2; have z3 := q.c3; clear q hSw; go_simp; with_reducible rfl
  try simp only [Act.put, List.getElem_toArray, List.getElem_cons_succ, List.getElem_cons_zero, List.setIfInBounds_toArray, List.set_cons_zero, List.set_cons_succ]
  refine wpAnyE.one (i := 5) (by kernel_rfl) rfl (fun K hK => ?_)
  go_simp
  refine (shelf_five W2).mono ?_
  rintro e W3 ⟨g3, _, x3, _, _, rfl, hb3, -, -, t3, -, -⟩
  have HB3 := HB2.trans (hb3.mono HB2.size)
  replace p1 := p1.below hb3
  replace p2 := p2.below hb3
  replace t5 := t5.below hb3
  have hS3 : C4 g2 16 o5 (some ⟨x5, 0, none⟩) 2 W3 := t5
  refine hK _ _ (fun _ => hS3) ?_
  clear hK K
  try simp only [Act.put, List.getElem_toArray, List.getElem_cons_succ, List.getElem_cons_zero, List.setIfInBounds_toArray, List.set_cons_zero, List.set_cons_succ]
  refine wpAnyE.mono (S' := fun W => C4 g3 8 o3 (some ⟨x3, 0, none⟩) 1 W ∧ C4 g2 16 o5 (some ⟨x5, 0, none⟩) 2 W) (fun _ h => h.2) ?_
  have hT3 : C4 g3 8 o3 (some ⟨x3, 0, none⟩) 1 W3 ∧ C4 g2 16 o5 (some ⟨x5, 0, none⟩) 2 W3 := ⟨t3, t5⟩
  refine wpAnyE.take (i := 6) (v := ?_) rfl (by kernel_rfl) (by kernel_rfl) (by kernel_rfl) (by kernel_rfl) (fun _ _ _ h => h) (Or.inl ⟨by rfl, ?_⟩) (by assumption) ?_
  rotate_left
  · intro w hSw; go_simp; with_reducible rfl
  try simp only [Act.put, List.getElem_toArray, List.getElem_cons_succ, List.getElem_cons_zero, List.setIfInBounds_toArray, List.set_cons_zero, List.set_cons_succ]
  refine wpAnyE.take (i := 7) (v := ?_) rfl (by kernel_rfl) (by kernel_rfl) (by kernel_rfl) (by kernel_rfl) (fun _ _ _ h => h) (Or.inl ⟨by rfl, ?_⟩) (by assumption) ?_
  rotate_left
  · intro w hSw; have q := hSw.1; have z0 := q.c0; have z1 := q.c1; have z2 := q.c2; have z3 := q.c3; clear q hSw; go_simp; with_reducible rfl
  try simp only [Act.put, List.getElem_toArray, List.getElem_cons_succ, List.getElem_cons_zero, List.setIfInBounds_toArray, List.set_cons_zero, List.set_cons_succ]
  refine wpAnyE.one (i := 8) (by kernel_rfl) rfl (fun K hK => ?_)
  go_simp
  refine (shelf_five W3).mono ?_
  rintro e W4 ⟨g4, _, _, x4, _, rfl, hb4, -, -, -, t4, -⟩
  have HB4 := HB3.trans (hb4.mono HB3.size)
  replace p1 := p1.below hb4
  replace p2 := p2.below hb4
  replace t5 := t5.below hb4
  replace t3 := t3.below hb4
  have hS4 : C4 g3 8 o3 (some ⟨x3, 0, none⟩) 1 W4 ∧ C4 g2 16 o5 (some ⟨x5, 0, none⟩) 2 W4 := ⟨t3, t5⟩
  refine hK _ _ (fun _ => hS4) ?_
  clear hK K
  try simp only [Act.put, List.getElem_toArray, List.getElem_cons_succ, List.getElem_cons_zero, List.setIfInBounds_toArray, List.set_cons_zero, List.set_cons_succ]
  refine wpAnyE.mono (S' := fun W => C4 g4 12 o4 (some ⟨x4, 0, none⟩) 2 W ∧ C4 g3 8 o3 (some ⟨x3, 0, none⟩) 1 W ∧ C4 g2 16 o5 (some ⟨x5, 0, none⟩) 2 W) (fun _ h => h.2) ?_
  have hT4 : C4 g4 12 o4 (some ⟨x4, 0, none⟩) 2 W4 ∧ C4 g3 8 o3 (some ⟨x3, 0, none⟩) 1 W4 ∧ C4 g2 16 o5 (some ⟨x5, 0, none⟩) 2 W4 := ⟨t4, t3, t5⟩
  refine wpAnyE.take (i := 9) (v := ?_) rfl (by kernel_rfl) (by kernel_rfl) (by kernel_rfl) (by kernel_rfl) (fun _ _ _ h => h) (Or.inl ⟨by rfl, ?_⟩) (by assumption) ?_
  rotate_left
  · intro w hSw; go_simp; with_reducible rfl
  try simp only [Act.put, List.getElem_toArray, List.getElem_cons_succ, List.getElem_cons_zero, List.setIfInBounds_toArray, List.set_cons_zero, List.set_cons_succ]
  refine wpAnyE.take (i := 10) (v := ?_) rfl (by kernel_rfl) (by kernel_rfl) (by kernel_rfl) (by kernel_rfl) (fun _ _ _ h => h) (Or.inl ⟨by rfl, ?_⟩) (by assumption) ?_
  rotate_left
  · intro w hSw; have q := hSw.1; have z0 := q.c0; have z1 := q.c1; have z2 := q.c2; have z3 := q.c3; clear q hSw; go_simp; with_reducible rfl
  try simp only [Act.put, List.getElem_toArray, List.getElem_cons_succ, List.getElem_cons_zero, List.setIfInBounds_toArray, List.set_cons_zero, List.set_cons_succ]
  refine wpAnyE.one (i := 11) (by kernel_rfl) rfl (fun K hK => ?_)
  go_simp
  refine (shelf_five W4).mono ?_
  rintro e W5 ⟨g5, _, _, _, _, rfl, hb5, t1, -, -, -, -⟩
  have HB5 := HB4.trans (hb5.mono HB4.size)
  replace p1 := p1.below hb5
  replace p2 := p2.below hb5
  replace t5 := t5.below hb5
  replace t3 := t3.below hb5
  replace t4 := t4.below hb5
  have hS5 : C4 g4 12 o4 (some ⟨x4, 0, none⟩) 2 W5 ∧ C4 g3 8 o3 (some ⟨x3, 0, none⟩) 1 W5 ∧ C4 g2 16 o5 (some ⟨x5, 0, none⟩) 2 W5 := ⟨t4, t3, t5⟩
  refine hK _ _ (fun _ => hS5) ?_
  clear hK K
  try simp only [Act.put, List.getElem_toArray, List.getElem_cons_succ, List.getElem_cons_zero, List.setIfInBounds_toArray, List.set_cons_zero, List.set_cons_succ]
  refine wpAnyE.mono (S' := fun W => C4 g5 0 o1 none 0 W ∧ C4 g4 12 o4 (some ⟨x4, 0, none⟩) 2 W ∧ C4 g3 8 o3 (some ⟨x3, 0, none⟩) 1 W ∧ C4 g2 16 o5 (some ⟨x5, 0, none⟩) 2 W) (fun _ h => h.2) ?_
  have hT5 : C4 g5 0 o1 none 0 W5 ∧ C4 g4 12 o4 (some ⟨x4, 0, none⟩) 2 W5 ∧ C4 g3 8 o3 (some ⟨x3, 0, none⟩) 1 W5 ∧ C4 g2 16 o5 (some ⟨x5, 0, none⟩) 2 W5 := ⟨t1, t4, t3, t5⟩
  refine wpAnyE.take (i := 12) (v := ?_) rfl (by kernel_rfl) (by kernel_rfl) (by kernel_rfl) (by kernel_rfl) (fun _ _ _ h => h) (Or.inl ⟨by rfl, ?_⟩) (by assumption) ?_
  rotate_left
  · intro w hSw; go_simp; with_reducible rfl
  try simp only [Act.put, List.getElem_toArray, List.getElem_cons_succ, List.getElem_cons_zero, List.setIfInBounds_toArray, List.set_cons_zero, List.set_cons_succ]
  refine wpAnyE.take (i := 13) (v := ?_) rfl (by kernel_rfl) (by kernel_rfl) (by kernel_rfl) (by kernel_rfl) (fun _ _ _ h => h) (Or.inl ⟨by rfl, ?_⟩) (by assumption) ?_
  rotate_left
  · intro w hSw; have q := hSw.1; have z0 := q.c0; have z1 := q.c1; have z2 := q.c2; have z3 := q.c3; clear q hSw; go_simp; with_reducible rfl
  try simp only [Act.put, List.getElem_toArray, List.getElem_cons_succ, List.getElem_cons_zero, List.setIfInBounds_toArray, List.set_cons_zero, List.set_cons_succ]
  refine wpAnyE.one (i := 14) (by kernel_rfl) rfl (fun K hK => ?_)
  go_simp
  have hb6 := below_alloc W5 (.cells #[.int .i64 5, .int .i64 3, .slice (some ⟨x5, 0, none⟩) 2 2, .string tee, .int .i64 3, .int .i64 3, .slice (some ⟨x3, 0, none⟩) 1 1, .string tee, .int .i64 4, .int .i64 2, .slice (some ⟨x4, 0, none⟩) 2 2, .string tee, .int .i64 1, .int .i64 1, .slice none 0 0, .string tee] 31)
  have HB6 := HB5.trans (hb6.mono HB5.size)
  have hN : (W5.alloc (.cells #[.int .i64 5, .int .i64 3, .slice (some ⟨x5, 0, none⟩) 2 2, .string tee, .int .i64 3, .int .i64 3, .slice (some ⟨x3, 0, none⟩) 1 1, .string tee, .int .i64 4, .int .i64 2, .slice (some ⟨x4, 0, none⟩) 2 2, .string tee, .int .i64 1, .int .i64 1, .slice none 0 0, .string tee] 31)).heap[W5.heap.size]? = some (.cells #[.int .i64 5, .int .i64 3, .slice (some ⟨x5, 0, none⟩) 2 2, .string tee, .int .i64 3, .int .i64 3, .slice (some ⟨x3, 0, none⟩) 1 1, .string tee, .int .i64 4, .int .i64 2, .slice (some ⟨x4, 0, none⟩) 2 2, .string tee, .int .i64 1, .int .i64 1, .slice none 0 0, .string tee] 31) := heap_alloc_new W5 _
  replace p1 := p1.below hb6
  replace p2 := p2.below hb6
  replace t1 := t1.below hb6
  replace t3 := t3.below hb6
  replace t4 := t4.below hb6
  replace t5 := t5.below hb6
  generalize W5.alloc (.cells #[.int .i64 5, .int .i64 3, .slice (some ⟨x5, 0, none⟩) 2 2, .string tee, .int .i64 3, .int .i64 3, .slice (some ⟨x3, 0, none⟩) 1 1, .string tee, .int .i64 4, .int .i64 2, .slice (some ⟨x4, 0, none⟩) 2 2, .string tee, .int .i64 1, .int .i64 1, .slice none 0 0, .string tee] 31) = W6 at *
  clear hS3 hS4 hS5 hT2 hT3 hT4 hT5
  have hS6 : C4 g5 0 o1 none 0 W6 ∧ C4 g4 12 o4 (some ⟨x4, 0, none⟩) 2 W6 ∧ C4 g3 8 o3 (some ⟨x3, 0, none⟩) 1 W6 ∧ C4 g2 16 o5 (some ⟨x5, 0, none⟩) 2 W6 := ⟨t1, t4, t3, t5⟩
  have hA2 : HoldsS W6 (some ⟨g1, 0, none⟩) [o1, o2] := two_holds p1 p2
  have hA4 : HoldsS W6 (some ⟨W5.heap.size, 0, none⟩) [o5, o3, o4, o1] := four_holds hN t5.holds t3.holds t4.holds
  refine hK _ _ (fun _ => hS6) ?_
  clear hK K
  try simp only [Act.put, List.getElem_toArray, List.getElem_cons_succ, List.getElem_cons_zero, List.setIfInBounds_toArray, List.set_cons_zero, List.set_cons_succ]
  refine wpAnyE.one (i := 15) (by kernel_rfl) rfl (fun K hK => ?_)
  go_simp
  refine (add_any (some ⟨g1, 0, none⟩) 5 [o1, o2] (some ⟨W5.heap.size, 0, none⟩) 4 [o5, o3, o4, o1] W6 hA2 (by decide) hA4 (by decide)).mono ?_
  rintro e W7 ⟨hb7, ⟨hno, -⟩ | ⟨-, a', c', rfl, hH7, -⟩⟩
  · exact absurd add_four hno
  rw [take_four_res] at hH7 ⊢
  have HB7 := HB6.trans (hb7.mono HB6.size)
  have hS7 : C4 g5 0 o1 none 0 W7 ∧ C4 g4 12 o4 (some ⟨x4, 0, none⟩) 2 W7 ∧ C4 g3 8 o3 (some ⟨x3, 0, none⟩) 1 W7 ∧ C4 g2 16 o5 (some ⟨x5, 0, none⟩) 2 W7 := ⟨t1.below hb7, t4.below hb7, t3.below hb7, t5.below hb7⟩
  refine hK _ _ (fun _ => hS7) ?_
  clear hK K
  try simp only [Act.put, List.getElem_toArray, List.getElem_cons_succ, List.getElem_cons_zero, List.setIfInBounds_toArray, List.set_cons_zero, List.set_cons_succ]
  refine wpAnyE.take (i := 16) (v := ?_) rfl (by kernel_rfl) (by kernel_rfl) (by kernel_rfl) (by kernel_rfl) (fun _ _ _ h => h) (Or.inl ⟨by rfl, ?_⟩) (by assumption) ?_
  rotate_left
  · intro w hSw; go_simp; with_reducible rfl
  try simp only [Act.put, List.getElem_toArray, List.getElem_cons_succ, List.getElem_cons_zero, List.setIfInBounds_toArray, List.set_cons_zero, List.set_cons_succ]
  refine wpAnyE.take (i := 17) (v := ?_) rfl (by kernel_rfl) (by kernel_rfl) (by kernel_rfl) (by kernel_rfl) (fun _ _ _ h => h) (Or.inl ⟨by rfl, ?_⟩) (by assumption) ?_
  rotate_left
  · intro w hSw; go_simp; with_reducible rfl
  try simp only [Act.put, List.getElem_toArray, List.getElem_cons_succ, List.getElem_cons_zero, List.setIfInBounds_toArray, List.set_cons_zero, List.set_cons_succ]
  refine wpAnyE.take (i := 18) (v := ?_) rfl (by kernel_rfl) (by kernel_rfl) (by kernel_rfl) (by kernel_rfl) (fun _ _ _ h => h) (Or.inl ⟨by rfl, ?_⟩) (by assumption) ?_
  rotate_left
  · intro w hSw; go_simp; with_reducible rfl
  try simp only [Act.put, List.getElem_toArray, List.getElem_cons_succ, List.getElem_cons_zero, List.setIfInBounds_toArray, List.set_cons_zero, List.set_cons_succ]
  refine wpAnyE.take (i := 19) (v := ?_) rfl (by kernel_rfl) (by kernel_rfl) (by kernel_rfl) (by kernel_rfl) (fun _ _ _ h => h) (Or.inl ⟨by rfl, ?_⟩) (by assumption) ?_
  rotate_left
  · intro w hSw; go_simp; with_reducible rfl
  try simp only [Act.put, List.getElem_toArray, List.getElem_cons_succ, List.getElem_cons_zero, List.setIfInBounds_toArray, List.set_cons_zero, List.set_cons_succ]
  refine wpAnyE.take (i := 20) (v := ?_) rfl (by kernel_rfl) (by kernel_rfl) (by kernel_rfl) (by kernel_rfl) (fun _ _ _ h => h) (Or.inl ⟨by rfl, ?_⟩) (by assumption) ?_
  rotate_left
  · intro w hSw; go_simp; with_reducible rfl
  try simp only [Act.put, List.getElem_toArray, List.getElem_cons_succ, List.getElem_cons_zero, List.setIfInBounds_toArray, List.set_cons_zero, List.set_cons_succ]
  refine wpAnyE.done (by kernel_rfl) ?_
  clear hS7 hS6 hA2 hA4 hN p1 p2 t1 t3 t4 t5 hb1 hb2 hb3 hb4 hb5 hb6 hb7 HB0 HB1 HB2 HB3 HB4 HB5 HB6
  go_wp2_with fail
  refine (find_four a' c' W7 hH7).mono ?_
  rintro e W8 ⟨ta, tc, rfl, hb8⟩
  have HB8 := HB7.trans (hb8.mono HB7.size)
  have hH8 := hH7.below hb8
  have C8 := Cells4.new W8 (.int .i64 4) (.int .i64 2) (.slice ta 2 tc) (.string tee) 31
  have hb9 := below_alloc W8 (.cells #[.int .i64 4, .int .i64 2, .slice ta 2 tc, .string tee] 31)
  have HB9 := HB8.trans (hb9.mono HB8.size)
  have hH9 := hH8.below hb9
  clear hb8 HB7 hH7
  go_wp2_with fail
  generalize W8.alloc (.cells #[.int .i64 4, .int .i64 2, .slice ta 2 tc, .string tee] 31) = W9 at *
  generalize W8.heap.size = B at *
  clear hb9 HB8 hH8
  refine (find_none a' c' shelfL 9 W9 hH9 chk_shelf place_nine).mono ?_
  rintro e W10 ⟨rfl, hb10⟩
  have hb11 := hb10.trans ((below_alloc W10 (.cells #[.int .i64 0, .int .i64 0, .slice none 0 0, .string { data := #[] }] 31)).mono hb10.size)
  have HB11 := HB9.trans (hb11.mono HB9.size)
  have C11 := C8.below hb11 C8.lt
  have hH11 := hH9.below hb11
  clear hb10 hH9 HB9 C8
  go_wp2_with fail
  generalize W10.alloc (.cells #[.int .i64 0, .int .i64 0, .slice none 0 0, .string { data := #[] }] 31) = W11 at *
  clear hb11
  refine (shelf_holds W11).mono ?_
  rintro e W12 ⟨g, rfl, hb12, hG⟩
  have hb13 := hb12.trans ((below_alloc2 W12 (.cells #[.int .i64 4] 3) (.cells #[.int .i64 5, .int .i64 3, .slice (some ⟨W12.heap.size, 0, none⟩) 1 1, .string { data := #[] }] 31)).mono hb12.size)
  have k13 := below_alloc2 W12 (.cells #[.int .i64 4] 3) (.cells #[.int .i64 5, .int .i64 3, .slice (some ⟨W12.heap.size, 0, none⟩) 1 1, .string { data := #[] }] 31)
  have hG13 := hG.below k13
  have hI : Holds (W12.alloc (.cells #[.int .i64 4] 3)) (some ⟨W12.heap.size, 0, none⟩) [4] := holds_new W12 [4] 3 _ rfl
  have hI13 := hI.below (below_alloc _ (.cells #[.int .i64 5, .int .i64 3, .slice (some ⟨W12.heap.size, 0, none⟩) 1 1, .string { data := #[] }] 31))
  have hN13 := heap_alloc_new (W12.alloc (.cells #[.int .i64 4] 3)) (.cells #[.int .i64 5, .int .i64 3, .slice (some ⟨W12.heap.size, 0, none⟩) 1 1, .string { data := #[] }] 31)
  have h6 := six_holds hN13 hI13
  have HB13 := HB11.trans (hb13.mono HB11.size)
  have C13 := C11.below hb13 C11.lt
  have hH13 := hH11.below hb13
  clear hb12 hG hb13 k13 hI hI13 hN13 HB11 C11 hH11
  go_wp2_with fail
  have hsz : (W12.alloc (.cells #[.int .i64 4] 3)).heap.size = W12.heap.size + 1 := by simp
  rw [hsz] at h6
  clear hsz
  generalize (W12.alloc (.cells #[.int .i64 4] 3)).alloc (.cells #[.int .i64 5, .int .i64 3, .slice (some ⟨W12.heap.size, 0, none⟩) 1 1, .string { data := #[] }] 31) = W13 at *
  refine (add_any (some ⟨g, 0, none⟩) 5 shelfL (some ⟨W12.heap.size + 1, 0, none⟩) 1 [o6] W13 hG13 (by decide) h6 (by decide)).mono ?_
  rintro e W14 ⟨hb14, ⟨-, rfl⟩ | ⟨hno, -⟩⟩
  case inr => exact absurd (add_six.symm.trans hno) (by decide)
  rw [add_six]
  have HB14 := HB13.trans (hb14.mono HB13.size)
  have C14 := C13.below hb14 C13.lt
  have hH14 := hH13.below hb14
  clear hb14 HB13 C13 hH13 h6 hG13
  go_wp2_with fail
  refine (shelf_holds W14).mono ?_
  rintro e W15 ⟨g15, rfl, hb15, hG15⟩
  have HB15 := HB14.trans (hb15.mono HB14.size)
  have C15 := C14.below hb15 C14.lt
  have hH15 := hH14.below hb15
  clear hb15 HB14 C14 hH14
  go_wp2_with fail
  refine (checkS_any (some ⟨g15, 0, none⟩) 5 shelfL W15 hG15 (by decide)).mono ?_
  rintro e W16 ⟨rfl, hb16⟩
  rw [chk_shelf]
  have HB16 := HB15.trans (hb16.mono HB15.size)
  have C16 := C15.below hb16 C15.lt
  have hH16 := hH15.below hb16
  clear hb16 HB15 C15 hH15 hG15
  go_wp2_with fail
  refine (shelf_holds W16).mono ?_
  rintro e W17 ⟨g17, rfl, hb17, hG17⟩
  have HB17 := HB16.trans (hb17.mono HB16.size)
  have C17 := C16.below hb17 C16.lt
  have hH17 := hH16.below hb17
  clear hb17 HB16 C16 hH16
  go_wp2_with fail
  refine (sameStore_refl a' c' (some ⟨g17, 0, none⟩) 5 shelfL W17 hH17 hG17 (by decide)).mono ?_
  rintro e W18 ⟨rfl, hb18⟩
  have HB18 := HB17.trans (hb18.mono HB17.size)
  have C18 := C17.below hb18 C17.lt
  clear hb18 HB17 C17 hH17 hG17
  have c0 := C18.c0
  clear C18
  go_wp2
  go_ret
  exact ⟨rfl, HB18⟩
end
end Go.Proofs.YtehmlpkapjdhkaaDoor
