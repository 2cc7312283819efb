import Derived.Test.YtehmlpkapjdhkaaGreatDoorMX25
import Derived.Test.YtehmlpkapjdhkaaGreatDoorMD
import Derived.Test.YtehmlpkapjdhkaaGreatDoorMU
namespace Go.Proofs.YtehmlpkapjdhkaaGreatDoor
open Go.RowKit
set_option maxRecDepth 100000

theorem zeroO_zero {W : World} {R : Nat} (h : W.heap[R]? = some (.cells #[.int .i64 0, .int .i64 0, .slice none 0 0, .string { data := #[] }] 58)) : Zero W R := by
  intro off n hc
  rw [cell_of_row W _ _ _ _ _ h] at hc
  match off, hc with
  | 0, hc => cases hc; rfl
  | 1, hc => cases hc; rfl
  | 2, hc => cases hc
  | 3, hc => cases hc
  | k + 4, hc => simp at hc
theorem set4_block (w : World) (q t : Nat) (x0 x1 x2 x3 : Value) {y0 y1 y2 y3 : Value} (h : w.heap[q]? = some (.cells #[y0, y1, y2, y3] t)) :
    ((((w.setCell ⟨q, 0, none⟩ x0).setCell ⟨q, 1, none⟩ x1).setCell ⟨q, 2, none⟩ x2).setCell ⟨q, 3, none⟩ x3).heap[q]? = some (.cells #[x0, x1, x2, x3] t) ∧
    Below q w ((((w.setCell ⟨q, 0, none⟩ x0).setCell ⟨q, 1, none⟩ x1).setCell ⟨q, 2, none⟩ x2).setCell ⟨q, 3, none⟩ x3) ∧
      ∀ k, k ≠ q → ((((w.setCell ⟨q, 0, none⟩ x0).setCell ⟨q, 1, none⟩ x1).setCell ⟨q, 2, none⟩ x2).setCell ⟨q, 3, none⟩ x3).heap[k]? = w.heap[k]? := by
  have h1 := heap_setCell_same w q 0 _ t x0 h
  have h2 := heap_setCell_same _ q 1 _ t x1 h1
  have h3 := heap_setCell_same _ q 2 _ t x2 h2
  have h4 := heap_setCell_same _ q 3 _ t x3 h3
  refine ⟨by simpa using h4, ((((Below.refl q w).setCell (Nat.le_refl _) _).setCell (Nat.le_refl _) _).setCell (Nat.le_refl _) _).setCell (Nat.le_refl _) _, fun k hk => ?_⟩
  rw [heap_setCell_other _ ⟨q, 3, none⟩ k _ hk, heap_setCell_other _ ⟨q, 2, none⟩ k _ hk, heap_setCell_other _ ⟨q, 1, none⟩ k _ hk, heap_setCell_other _ ⟨q, 0, none⟩ k _ hk]
theorem HoldsS.dep {w : World} {a : Option Addr} {l : List Ob} (h : HoldsS w a l) : Dep w 0 w.heap.size (fun W => HoldsS W a l) :=
  ⟨Nat.le_refl _, fun w' hs hk => by
    have hb : Below w.heap.size w { w with heap := w'.heap } := ⟨rfl, rfl, rfl, hs, fun k hk' => hk k (Nat.zero_le _) hk'⟩
    exact fun i hi => (h.below hb) i hi⟩

set_option maxHeartbeats 16000000 in
theorem repairSame_any (n r : Rq) (w : World) (hg : Glob w) (hn : n.H w) (hr : r.H w) : Calls Tryz.prog 6 #[n.val, r.val] w fun e w' => e = .returned (.bool true) ∧ Below w.heap.size w w' := by
  have hA := below_alloc2 w n.blk r.blk
  obtain ⟨k1, k2⟩ := two_blocks w n.blk r.blk
  obtain ⟨y0, y1, y2, y3, y4, y5, y6⟩ := c7_of k1
  obtain ⟨x0, x1, x2, x3, x4, x5, x6⟩ := c7_of k2
  have hn0 := hn.below hA
  have hr0 := hr.below hA
  have hc := from_any n r _ (hg.below hA) hn0 hr0
  go_enter Tryz.func6, Tryz.ntmps6
  go_wp2_with fail
  generalize (w.alloc n.blk).alloc r.blk = W0 at *
  refine hc.mono ?_
  clear hc y0 y1 y2 y3 y4 y5 y6 x0 x1 x2 x3 x4 x5 x6
  rintro e W1 ⟨hb1, ⟨hne, rfl⟩ | ⟨hz, b0, d0, b1, d1, b2, d2, b3, d3, rfl, F⟩⟩
  · have hB1 := hA.trans (hb1.mono hA.size)
    have hA2 := below_alloc W1 zero28
    have k5 := heap_alloc_new W1 zero28
    have hB2 := hB1.trans (hA2.mono hB1.size)
    have hE : (fromE n.r r.r != 0) = true := by simpa using hne
    clear hb1 hA hne k1 k2 hn0 hr0 hB1 hA2
    generalize fromE n.r r.r = E at *
    have hc := repairBegun_any (W1.alloc zero28) (hg.below hB2)
    obtain ⟨p, hp⟩ : ∃ p, p = W1.heap.size := ⟨_, rfl⟩
    rw [← hp] at k5
    go_wp2_with fail
    rw [← hp]
    clear hp
    generalize W1.alloc zero28 = W2 at *
    refine hc.mono ?_
    clear hc
    rintro e W3 ⟨rfl, hb3⟩
    have hB3 := hB2.trans (hb3.mono hB2.size)
    have j5 := (hb3.block _ (heap_lt k5)).trans k5
    clear hb3 hB2 k5
    have hc := storeBegun_any W3
    go_wp2_with fail
    refine hc.mono ?_
    clear hc
    rintro e W4 ⟨rfl, hb4⟩
    have hB4 := hB3.trans (hb4.mono hB3.size)
    have i5 := (hb4.block _ (heap_lt j5)).trans j5
    obtain ⟨y0, y1, y2, y3, y4, y5, y6⟩ := c7_of i5
    clear hb4 hB3 j5 i5
    go_wp2
    go_ret
    exact ⟨rfl, hB4⟩
  · have hB1 := hA.trans (hb1.mono hA.size)
    have HZ : Hid (fromE n.r r.r = 0) := hz
    obtain ⟨q, hqr, hqv, hqF⟩ : ∃ q : Rq, q.r = fromR n.r r.r ∧ RV b0 d0 (fromR n.r r.r).s b1 d1 n.r.l n.r.g 0 b2 d2 [] b3 d3 [] false = q.val ∧ RepF W1 W0.heap.size q.aS q.cs q.r.s q.al q.cl q.r.l q.a1 q.c1 q.r.m q.a2 q.c2 q.r.us := ⟨⟨fromR n.r r.r, b0, d0, b1, d1, b2, d2, b3, d3⟩, rfl, rfl, F⟩
    have HQ : Hid (q.r = fromR n.r r.r) := hqr
    rw [hqv]
    have hHA : q.H W1 := hqF.h
    clear hqv hqF F hqr hz
    have hA2 := below_alloc W1 q.blk
    have k5 := heap_alloc_new W1 q.blk
    have hB2 := hB1.trans (hA2.mono hB1.size)
    have j1 := (hA2.block _ (heap_lt ((hb1.block _ (heap_lt k1)).trans k1))).trans ((hb1.block _ (heap_lt k1)).trans k1)
    have j2 := (hA2.block _ (heap_lt ((hb1.block _ (heap_lt k2)).trans k2))).trans ((hb1.block _ (heap_lt k2)).trans k2)
    have hHA2 := hHA.below hA2
    have hn2 := (hn0.below hb1).below hA2
    have hr2 := (hr0.below hb1).below hA2
    clear hb1 hA k1 k2 hn0 hr0 hB1 hA2 hHA
    have hc := repairBegun_any (W1.alloc q.blk) (hg.below hB2)
    obtain ⟨pA, hp⟩ : ∃ p, p = W1.heap.size := ⟨_, rfl⟩
    rw [← hp] at k5
    go_wp2_with fail
    rw [← hp]
    clear hp
    generalize W1.alloc q.blk = W2 at *
    refine hc.mono ?_
    clear hc
    rintro e W3 ⟨rfl, hb3⟩
    have hB3 := hB2.trans (hb3.mono hB2.size)
    have k5' := (hb3.block _ (heap_lt k5)).trans k5
    have k1' := (hb3.block _ (heap_lt j1)).trans j1
    have k2' := (hb3.block _ (heap_lt j2)).trans j2
    have hHA3 := hHA2.below hb3
    have hn3 := hn2.below hb3
    have hr3 := hr2.below hb3
    clear hb3 hB2 k5 j1 j2 hHA2 hn2 hr2
    have hc := storeBegun_any W3
    go_wp2_with fail
    refine hc.mono ?_
    clear hc
    rintro e W4 ⟨rfl, hb4⟩
    have hB4 := hB3.trans (hb4.mono hB3.size)
    have m5 := (hb4.block _ (heap_lt k5')).trans k5'
    have m1 := (hb4.block _ (heap_lt k1')).trans k1'
    have m2 := (hb4.block _ (heap_lt k2')).trans k2'
    have hHA4 := hHA3.below hb4
    have hn4 := hn3.below hb4
    have hr4 := hr3.below hb4
    clear hb4 hB3 k5' k1' k2' hHA3 hn3 hr3
    obtain ⟨y0, y1, y2, y3, y4, y5, y6⟩ := c7_of m5
    obtain ⟨z0, z1, z2, z3, z4, z5, z6⟩ := c7_of m1
    have hc := from_any n q W4 (hg.below hB4) hn4 hHA4
    go_wp2_with fail
    refine hc.mono ?_
    clear hc y0 y1 y2 y3 y4 y5 y6 z0 z1 z2 z3 z4 z5 z6
    rintro e W5 ⟨hb5, ⟨hne, -⟩ | ⟨-, g0, h0, g1, h1, g2, h2, g3, h3, rfl, F⟩⟩
    · rw [HQ.out] at hne; exact absurd (from_again HZ.out).1 hne
    obtain ⟨q2, hqr, hqv, hqF⟩ : ∃ q2 : Rq, q2.r = fromR n.r q.r ∧ RV g0 h0 (fromR n.r q.r).s g1 h1 n.r.l n.r.g 0 g2 h2 [] g3 h3 [] false = q2.val ∧ RepF W5 W4.heap.size q2.aS q2.cs q2.r.s q2.al q2.cl q2.r.l q2.a1 q2.c1 q2.r.m q2.a2 q2.c2 q2.r.us := ⟨⟨fromR n.r q.r, g0, h0, g1, h1, g2, h2, g3, h3⟩, rfl, rfl, F⟩
    have HQ2 : Hid (q.r = q2.r) := by
      unfold Hid
      rw [hqr, HQ.out, (from_again HZ.out).2]
    rw [hqv]
    have hH2 : q2.H W5 := hqF.h
    clear hqv hqF F hqr
    have hB5 := hB4.trans (hb5.mono hB4.size)
    have hA2 := below_alloc W5 q2.blk
    have k7 := heap_alloc_new W5 q2.blk
    have n5 := (hA2.block _ (heap_lt ((hb5.block _ (heap_lt m5)).trans m5))).trans ((hb5.block _ (heap_lt m5)).trans m5)
    have n1 := (hA2.block _ (heap_lt ((hb5.block _ (heap_lt m1)).trans m1))).trans ((hb5.block _ (heap_lt m1)).trans m1)
    have n2 := (hA2.block _ (heap_lt ((hb5.block _ (heap_lt m2)).trans m2))).trans ((hb5.block _ (heap_lt m2)).trans m2)
    have hHA5 := (hHA4.below hb5).below hA2
    have hn5 := (hn4.below hb5).below hA2
    have hr5 := (hr4.below hb5).below hA2
    have hH5 := hH2.below hA2
    have hB6 := hB5.trans (hA2.mono hB5.size)
    have hce : repE q.r.s q.r.l q.r.g q.r.ph q.r.m q.r.us q.r.f = 0 := by
      have := from_right HZ.out
      rw [← HQ.out] at this; exact this
    have hc := repCheck_any q.aS q.cs q.r.s q.al q.cl q.r.l q.r.g q.r.ph q.a1 q.c1 q.r.m q.a2 q.c2 q.r.us q.r.f _ (hg.below hB6) hHA5
    rw [hce] at hc
    clear hb5 hB4 m5 m1 m2 hHA4 hn4 hr4 hA2 hB5 hH2 hce
    obtain ⟨y0, y1, y2, y3, y4, y5, y6⟩ := c7_of n5
    obtain ⟨p7, hp⟩ : ∃ p, p = W5.heap.size := ⟨_, rfl⟩
    rw [← hp] at k7
    go_wp2_with fail
    rw [← hp]
    clear hp
    generalize W5.alloc q2.blk = W6 at *
    refine hc.mono ?_
    clear hc y0 y1 y2 y3 y4 y5 y6
    rintro e W7 ⟨rfl, hb7⟩
    have hB7 := hB6.trans (hb7.mono hB6.size)
    have m5 := (hb7.block _ (heap_lt n5)).trans n5
    have m1 := (hb7.block _ (heap_lt n1)).trans n1
    have m2 := (hb7.block _ (heap_lt n2)).trans n2
    have m7 := (hb7.block _ (heap_lt k7)).trans k7
    have hHA7 := hHA5.below hb7
    have hn7 := hn5.below hb7
    have hr7 := hr5.below hb7
    have hH7 := hH5.below hb7
    clear hb7 hB6 n5 n1 n2 k7 hHA5 hn5 hr5 hH5
    obtain ⟨y0, y1, y2, y3, y4, y5, y6⟩ := c7_of m5
    obtain ⟨z0, z1, z2, z3, z4, z5, z6⟩ := c7_of m7
    have hc := sameRq_any q q2 W7 hHA7 hH7
    go_wp2_with fail
    refine hc.mono ?_
    clear hc y0 y1 y2 y3 y4 y5 y6 z0 z1 z2 z3 z4 z5 z6
    rintro e W7b ⟨rr, rfl, hrr, hb7⟩
    obtain rfl : rr = true := hrr.2 HQ2.out
    have hB7b := hB7.trans (hb7.mono hB7.size)
    have n5 := (hb7.block _ (heap_lt m5)).trans m5
    have n1 := (hb7.block _ (heap_lt m1)).trans m1
    have n2 := (hb7.block _ (heap_lt m2)).trans m2
    have hHA8 := hHA7.below hb7
    have hn8 := hn7.below hb7
    have hr8 := hr7.below hb7
    clear hb7 hB7 m5 m1 m2 m7 hHA7 hn7 hr7 hH7 hrr HQ2
    obtain ⟨y0, y1, y2, y3, y4, y5, y6⟩ := c7_of n5
    obtain ⟨z0, z1, z2, z3, z4, z5, z6⟩ := c7_of n1
    have hgg : (q.r.g != n.r.g) = false := by rw [HQ.out]; simp [fromR]
    have hph : (q.r.ph != 0) = false := by rw [HQ.out]; simp [fromR]
    have hc := sameRefs_any q.al q.cl q.r.l n.al n.cl n.r.l W7b hHA8.hl hn8.hl hHA8.nl
    go_wp2_with fail
    refine hc.mono ?_
    clear hc y0 y1 y2 y3 y4 y5 y6 z0 z1 z2 z3 z4 z5 z6 hgg hph
    rintro e W8 ⟨rr, rfl, hrr, hb8⟩
    obtain rfl : rr = true := hrr.2 (by rw [HQ.out]; rfl)
    have hB8 := hB7b.trans (hb8.mono hB7b.size)
    have m5 := (hb8.block _ (heap_lt n5)).trans n5
    have m1 := (hb8.block _ (heap_lt n1)).trans n1
    have m2 := (hb8.block _ (heap_lt n2)).trans n2
    have hHA9 := hHA8.below hb8
    have hn9 := hn8.below hb8
    have hr9 := hr8.below hb8
    clear hb8 hB7b n5 n1 n2 hHA8 hn8 hr8 hrr
    have hdr := below_refl_drew W8
    have hB9 := hB8.trans (hdr.mono hB8.size)
    have kN := (hdr.block _ (heap_lt m1)).trans m1
    have kR := (hdr.block _ (heap_lt m2)).trans m2
    have kA := (hdr.block _ (heap_lt m5)).trans m5
    have hHN := hn9.below hdr
    have hHR := hr9.below hdr
    have hHA := hHA9.below hdr
    obtain ⟨sn1, sn2, _⟩ := rep_small (fromE_zero.1 HZ.out).1
    obtain ⟨sr1, sr2, _⟩ := rep_small (fromE_zero.1 HZ.out).2.1
    have HLK : Hid (∀ x ∈ n.r.s ++ r.r.s, x.links.length ≤ 1000) := fun x hx => by
      rcases List.mem_append.1 hx with q | q
      · exact sn2 x q
      · exact sr2 x q
    go_wp2_with fail
    clear m1 m2 m5 hHA9 hn9 hr9 hdr hB8
    refine wp_region_E (fun W => (W.heap[w.heap.size]? = some n.blk) ∧ (W.heap[w.heap.size + 1]? = some r.blk)) (fun _ => false) (by kernel_rfl) ⟨kN, kR⟩ (fun hS => ?_)
    clear hS
    generalize W8.drew = W9 at *
    obtain ⟨v1, W10, a3, c3, W11, r1, r2, hT, hbx1, hbx2⟩ := both_objs2 W9 25 n.aS n.cs n.r.s hHN.hs r.aS r.cs r.r.s hHR.hs (by omega) HLK.out
    have hAx := below_alloc W9 (.cells #[] 58)
    have kN1 := (hAx.block _ (heap_lt kN)).trans kN
    have kR1 := (hAx.block _ (heap_lt kR)).trans kR
    have kN2 := (hbx1.block _ (heap_lt kN)).trans kN
    have kR2 := (hbx1.block _ (heap_lt kR)).trans kR
    have kN3 := (hbx2.block _ (heap_lt kN)).trans kN
    have kR3 := (hbx2.block _ (heap_lt kR)).trans kR
    have kA3 := (hbx2.block _ (heap_lt kA)).trans kA
    have hHA3 := hHA.below hbx2
    have hB11 := hB9.trans (hbx2.mono hB9.size)
    refine wpAnyE.take (i := 1) (v := ?_) rfl (by kernel_rfl) (by kernel_rfl) (by kernel_rfl) (by kernel_rfl) (fun _ _ _ h => h) (Or.inl ⟨by rfl, ?_⟩) ⟨kN, kR⟩ ?_
    rotate_left
    · intro w hSw; obtain ⟨hs1, hs2⟩ := hSw; obtain ⟨e0, e1, e2, e3, e4, e5, e6⟩ := c7_of hs1; obtain ⟨g0, g1, g2, g3, g4, g5, g6⟩ := c7_of hs2; go_simp; with_reducible rfl
    try simp only [Act.put, List.getElem_toArray, List.setIfInBounds_toArray]
    refine wpAnyE.take (i := 2) (v := ?_) rfl (by kernel_rfl) (by kernel_rfl) (by kernel_rfl) (by kernel_rfl) (fun _ _ _ h => h) (Or.inl ⟨by rfl, ?_⟩) ⟨kN, kR⟩ ?_
    rotate_left
    · intro w hSw; obtain ⟨hs1, hs2⟩ := hSw; obtain ⟨e0, e1, e2, e3, e4, e5, e6⟩ := c7_of hs1; obtain ⟨g0, g1, g2, g3, g4, g5, g6⟩ := c7_of hs2; go_simp; with_reducible rfl
    try simp only [Act.put, List.getElem_toArray, List.getElem_cons_succ, List.getElem_cons_zero, List.setIfInBounds_toArray, List.set_cons_zero, List.set_cons_succ]
    refine wpAnyE.take (i := 4) (v := ?_) rfl (by kernel_rfl) (by kernel_rfl) (by kernel_rfl) (by kernel_rfl) (fun _ _ _ h => h) (Or.inl ⟨by rfl, ?_⟩) ⟨kN, kR⟩ ?_
    rotate_left
    · intro w hSw; obtain ⟨hs1, hs2⟩ := hSw; obtain ⟨e0, e1, e2, e3, e4, e5, e6⟩ := c7_of hs1; obtain ⟨g0, g1, g2, g3, g4, g5, g6⟩ := c7_of hs2; go_simp; with_reducible rfl
    try simp only [Act.put, List.getElem_toArray, List.getElem_cons_succ, List.getElem_cons_zero, List.setIfInBounds_toArray, List.set_cons_zero, List.set_cons_succ]
    refine wpAnyE.take (i := 5) (v := ?_) rfl (by kernel_rfl) (by kernel_rfl) (by kernel_rfl) (by kernel_rfl) (fun _ _ _ h => h) (Or.inl ⟨by rfl, ?_⟩) ⟨kN, kR⟩ ?_
    rotate_left
    · intro w hSw; obtain ⟨hs1, hs2⟩ := hSw; obtain ⟨e0, e1, e2, e3, e4, e5, e6⟩ := c7_of hs1; obtain ⟨g0, g1, g2, g3, g4, g5, g6⟩ := c7_of hs2; go_simp; with_reducible rfl
    try simp only [Act.put, List.getElem_toArray, List.getElem_cons_succ, List.getElem_cons_zero, List.setIfInBounds_toArray, List.set_cons_zero, List.set_cons_succ]
    refine wpAnyE.one (i := 0) (by kernel_rfl) rfl (fun K hK => ?_)
    go_simp
    refine hK _ _ (fun _ => ⟨kN1, kR1⟩) ?_
    clear hK K
    try simp only [Act.put, List.getElem_toArray, List.getElem_cons_succ, List.getElem_cons_zero, List.setIfInBounds_toArray, List.set_cons_zero, List.set_cons_succ]
    refine wpAnyE.one (i := 3) (by kernel_rfl) rfl (fun K hK => ?_)
    refine step_append_g rfl (.tmp 70) (.tmp 72) rfl _ _ rfl rfl r1 ?_
    refine hK _ _ (fun _ => ⟨kN2, kR2⟩) ?_
    clear hK K
    try simp only [Act.put, List.getElem_toArray, List.getElem_cons_succ, List.getElem_cons_zero, List.setIfInBounds_toArray, List.set_cons_zero, List.set_cons_succ]
    refine wpAnyE.one (i := 6) (by kernel_rfl) rfl (fun K hK => ?_)
    refine step_append_g rfl (.tmp 73) (.tmp 75) rfl _ _ rfl rfl r2 ?_
    refine hK _ _ (fun _ => ⟨kN3, kR3⟩) ?_
    clear hK K
    try simp only [Act.put, List.getElem_toArray, List.getElem_cons_succ, List.getElem_cons_zero, List.setIfInBounds_toArray, List.set_cons_zero, List.set_cons_succ]
    refine wpAnyE.take (i := 7) (v := ?_) rfl (by kernel_rfl) (by kernel_rfl) (by kernel_rfl) (by kernel_rfl) (fun _ _ _ h => h) (Or.inl ⟨by rfl, ?_⟩) ⟨kN3, kR3⟩ ?_
    rotate_left
    · intro w hSw; skip; go_simp; with_reducible rfl
    try simp only [Act.put, List.getElem_toArray, List.getElem_cons_succ, List.getElem_cons_zero, List.setIfInBounds_toArray, List.set_cons_zero, List.set_cons_succ]
    refine wpAnyE.done (by kernel_rfl) ?_
    obtain ⟨T, hTe⟩ : ∃ T, T = n.r.s ++ r.r.s := ⟨_, rfl⟩
    have HT : Hid (T = n.r.s ++ r.r.s) := hTe
    have hT80 : T.length ≤ 80 := by rw [hTe, List.length_append]; omega
    have hlen : n.r.s.length + r.r.s.length = T.length := by rw [hTe, List.length_append]
    rw [← hTe] at hT ⊢
    rw [hlen]
    clear hlen
    have HEx : Hid (∀ x ∈ T, x.err = 0) := fun x hx => by
      rw [HT.out] at hx
      rcases List.mem_append.1 hx with q | q
      · exact checkS_err (err_store (fromE_zero.1 HZ.out).1) x q
      · exact checkS_err (err_store (fromE_zero.1 HZ.out).2.1) x q
    have HCS : Hid (checkS q.r.s = 0) := by unfold Hid; rw [HQ.out]; exact from_store HZ.out
    clear hTe kN kR kA kN1 kR1 kN2 kR2 kN3 kR3 r1 r2 hHN hHR hHA hbx1 hbx2 hAx hB9 sn1 sn2 sr1 sr2 HLK
    go_wp2_with fail
    go_loopw [10] (fun i wr => ∃ k : Nat, i = .int .i64 k ∧ k ≤ T.length ∧ Below W11.heap.size W11 wr) (fun i _ => T.length - (intOf i).toNat)
    case atStart => exact ⟨0, rfl, Nat.zero_le _, Below.refl _ _⟩
    case round =>
      obtain ⟨k, rfl, hk, hBL⟩ := hrel
      have hBr := hB11.trans (hBL.mono hB11.size)
      by_cases hlt : k < T.length
      · have hlt' : (k : Int) < (T.length : Int) := by omega
        obtain ⟨b, off, rfl, hb, _⟩ := hT k hlt
        obtain ⟨ix, hix, eix, hpl⟩ := from_find HZ.out (x := T[k]) (by rw [← HT.out]; exact List.getElem_mem hlt)
        have kAr := (hBL.block _ (heap_lt kA3)).trans kA3
        have DA := (hHA3.below hBL).hs.dep
        have DT := (hT.below hBL).dep
        have HPOS : Hid (∀ i ∈ T[k].links, i ≠ 0) := err_pos (HEx.out _ (List.getElem_mem hlt))
        have HFR : Hid (q.r.s = (fromR n.r r.r).s) := by unfold Hid; rw [HQ.out]
        rw [← HFR.out] at hpl
        have hix' : ix < q.r.s.length := by rw [HFR.out]; exact hix
        have HIX : Hid (q.r.s[ix] = T[k]) := by
          unfold Hid
          rw [← eix]
          congr 1
        clear eix hix
        have hix := hix'
        have hkAlt := heap_lt kAr
        go_wp2_with fail
        go_cut [11, 12] from 83 to 93 (fun s11 s12 wx => s12 = .int .i64 0 ∧ ∃ p ua uc, s11 = .pointer (some ⟨p, 0, none⟩) ∧ wx.heap[p]? = some (.cells #[.int .i64 T[k].id, .int .i64 T[k].kind, .slice ua T[k].links.length uc, .string T[k].text] 58) ∧ Holds wx ua T[k].links ∧ HoldsS wx (some ⟨b, off, none⟩) T ∧ Below wr.heap.size wr wx)
        case first =>
          have hBi := Below.refl wr.heap.size wr
          have hd_1 := below_refl_drew wr
          have hB_2 := hBi.trans (hd_1.mono hBi.size)
          have A_3 := (hd_1.block _ (heap_lt kAr)).trans kAr
          have DA_4 := DA.below hd_1
          have DT_5 := DT.below hd_1
          have hs_6 := hd_1.size
          clear kAr DA DT hd_1 hBi
          refine wp_region_E (fun W => (W.heap[pA]? = some ((Rq.blk q))) ∧ (HoldsS W (some ⟨b, off, none⟩) T)) (fun _ => false) (by kernel_rfl) ⟨A_3, DT_5.here⟩ (fun hS => ?_)
          clear hS
          generalize wr.drew = W_7 at *
          refine wpAnyE.take (i := 0) (v := ?_) rfl (by kernel_rfl) (by kernel_rfl) (by kernel_rfl) (by kernel_rfl) (fun _ _ _ h => h) (Or.inl ⟨by rfl, ?_⟩) ⟨A_3, DT_5.here⟩ ?_
          rotate_left
          · intro w hSw; obtain ⟨f1, f2⟩ := hSw; obtain ⟨e0, e1, e2, e3, e4, e5, e6⟩ := c7_of f1; have hc := f2 k hlt; obtain ⟨b9, off9, e9, hb9, hc⟩ := hc; cases e9; obtain ⟨sa, sc, y0, y1, y2, y3, y4, y5⟩ := hc k hlt; clear hc; go_simp; with_reducible rfl
          try simp only [Act.put, List.getElem_toArray, List.getElem_cons_zero, List.setIfInBounds_toArray, List.set_cons_zero, List.set_cons_succ]
          refine wpAnyE.take (i := 2) (v := ?_) rfl (by kernel_rfl) (by kernel_rfl) (by kernel_rfl) (by kernel_rfl) (fun _ _ _ h => h) (Or.inl ⟨by rfl, ?_⟩) ⟨A_3, DT_5.here⟩ ?_
          rotate_left
          · intro w hSw; obtain ⟨f1, f2⟩ := hSw; obtain ⟨e0, e1, e2, e3, e4, e5, e6⟩ := c7_of f1; have hc := f2 k hlt; obtain ⟨b9, off9, e9, hb9, hc⟩ := hc; cases e9; obtain ⟨sa, sc, y0, y1, y2, y3, y4, y5⟩ := hc k hlt; clear hc; go_simp; with_reducible rfl
          try simp only [Act.put, List.getElem_toArray, List.getElem_cons_succ, List.getElem_cons_zero, List.setIfInBounds_toArray, List.set_cons_zero, List.set_cons_succ]
          refine wpAnyE.take (i := 3) (v := ?_) rfl (by kernel_rfl) (by kernel_rfl) (by kernel_rfl) (by kernel_rfl) (fun _ _ _ h => h) (Or.inl ⟨by rfl, ?_⟩) ⟨A_3, DT_5.here⟩ ?_
          rotate_left
          · intro w hSw; obtain ⟨f1, f2⟩ := hSw; obtain ⟨e0, e1, e2, e3, e4, e5, e6⟩ := c7_of f1; have hc := f2 k hlt; obtain ⟨b9, off9, e9, hb9, hc⟩ := hc; cases e9; obtain ⟨sa, sc, y0, y1, y2, y3, y4, y5⟩ := hc k hlt; clear hc; go_simp; with_reducible rfl
          try simp only [Act.put, List.getElem_toArray, List.getElem_cons_succ, List.getElem_cons_zero, List.setIfInBounds_toArray, List.set_cons_zero, List.set_cons_succ]
          refine wpAnyE.take (i := 1) (v := ?_) rfl (by kernel_rfl) (by kernel_rfl) (by kernel_rfl) (by kernel_rfl) (fun _ _ _ h => h) (Or.inl ⟨by rfl, ?_⟩) ⟨A_3, DT_5.here⟩ ?_
          rotate_left
          · intro w hSw; obtain ⟨f1, f2⟩ := hSw; obtain ⟨e0, e1, e2, e3, e4, e5, e6⟩ := c7_of f1; have hc := f2 k hlt; obtain ⟨b9, off9, e9, hb9, hc⟩ := hc; cases e9; obtain ⟨sa, sc, y0, y1, y2, y3, y4, y5⟩ := hc k hlt; clear hc; go_simp; with_reducible rfl
          try simp only [Act.put, List.getElem_toArray, List.getElem_cons_succ, List.getElem_cons_zero, List.setIfInBounds_toArray, List.set_cons_zero, List.set_cons_succ]
          refine wpAnyE.take (i := 4) (v := ?_) rfl (by kernel_rfl) (by kernel_rfl) (by kernel_rfl) (by kernel_rfl) (fun _ _ _ h => h) (Or.inl ⟨by rfl, ?_⟩) ⟨A_3, DT_5.here⟩ ?_
          rotate_left
          · intro w hSw; obtain ⟨f1, f2⟩ := hSw; obtain ⟨e0, e1, e2, e3, e4, e5, e6⟩ := c7_of f1; have hc := f2 k hlt; obtain ⟨b9, off9, e9, hb9, hc⟩ := hc; cases e9; obtain ⟨sa, sc, y0, y1, y2, y3, y4, y5⟩ := hc k hlt; clear hc; go_simp; with_reducible rfl
          try simp only [Act.put, List.getElem_toArray, List.getElem_cons_succ, List.getElem_cons_zero, List.setIfInBounds_toArray, List.set_cons_zero, List.set_cons_succ]
          refine wpAnyE.take (i := 5) (v := ?_) rfl (by kernel_rfl) (by kernel_rfl) (by kernel_rfl) (by kernel_rfl) (fun _ _ _ h => h) (Or.inl ⟨by rfl, ?_⟩) ⟨A_3, DT_5.here⟩ ?_
          rotate_left
          · intro w hSw; obtain ⟨f1, f2⟩ := hSw; obtain ⟨e0, e1, e2, e3, e4, e5, e6⟩ := c7_of f1; have hc := f2 k hlt; obtain ⟨b9, off9, e9, hb9, hc⟩ := hc; cases e9; obtain ⟨sa, sc, y0, y1, y2, y3, y4, y5⟩ := hc k hlt; clear hc; go_simp; with_reducible rfl
          try simp only [Act.put, List.getElem_toArray, List.getElem_cons_succ, List.getElem_cons_zero, List.setIfInBounds_toArray, List.set_cons_zero, List.set_cons_succ]
          refine wpAnyE.take (i := 6) (v := ?_) rfl (by kernel_rfl) (by kernel_rfl) (by kernel_rfl) (by kernel_rfl) (fun _ _ _ h => h) (Or.inl ⟨by rfl, ?_⟩) ⟨A_3, DT_5.here⟩ ?_
          rotate_left
          · intro w hSw; obtain ⟨f1, f2⟩ := hSw; obtain ⟨e0, e1, e2, e3, e4, e5, e6⟩ := c7_of f1; have hc := f2 k hlt; obtain ⟨b9, off9, e9, hb9, hc⟩ := hc; cases e9; obtain ⟨sa, sc, y0, y1, y2, y3, y4, y5⟩ := hc k hlt; clear hc; go_simp; with_reducible rfl
          try simp only [Act.put, List.getElem_toArray, List.getElem_cons_succ, List.getElem_cons_zero, List.setIfInBounds_toArray, List.set_cons_zero, List.set_cons_succ]
          refine wpAnyE.two (i := 7) (j := 11) (by kernel_rfl) rfl rfl (fun K hK => ?_) (fun K hK => ?_)
          · skip
            have hc_8 := (show Calls Tryz.prog 29 #[.slice q.aS q.r.s.length q.cs, .int .i64 T[k].id] W_7 _ from by
              have h := find_ok q.aS q.cs q.r.s T[k].id ix W_7 DA_4.here HCS.out hpl hix
              rw [HIX.out] at h
              exact h)
            go_simp
            refine hc_8.mono ?_
            clear hc_8
            rintro e W_9 ⟨ua, uc, rfl, hUA, h⟩
            have hB_10 := hB_2.trans (h.mono hB_2.size)
            have A_11 := (h.block _ (heap_lt A_3)).trans A_3
            have DA_12 := DA_4.below h
            have DT_13 := DT_5.below h
            have hs_14 := h.size
            clear A_3 DA_4 DT_5 h hB_2
            refine hK _ _ (fun _ => ⟨A_11, DT_13.here⟩) ?_
            clear hK K
            try simp only [Act.put, List.getElem_toArray, List.getElem_cons_succ, List.getElem_cons_zero, List.setIfInBounds_toArray, List.set_cons_zero, List.set_cons_succ]
            refine wpAnyE.take (i := 8) (v := ?_) rfl (by kernel_rfl) (by kernel_rfl) (by kernel_rfl) (by kernel_rfl) (fun _ _ _ h => h) (Or.inl ⟨by rfl, ?_⟩) ⟨A_11, DT_13.here⟩ ?_
            rotate_left
            · intro w hSw; obtain ⟨f1, f2⟩ := hSw; obtain ⟨e0, e1, e2, e3, e4, e5, e6⟩ := c7_of f1; have hc := f2 k hlt; obtain ⟨b9, off9, e9, hb9, hc⟩ := hc; cases e9; obtain ⟨sa, sc, y0, y1, y2, y3, y4, y5⟩ := hc k hlt; clear hc; go_simp; with_reducible rfl
            try simp only [Act.put, List.getElem_toArray, List.getElem_cons_succ, List.getElem_cons_zero, List.setIfInBounds_toArray, List.set_cons_zero, List.set_cons_succ]
            refine wpAnyE.take (i := 9) (v := ?_) rfl (by kernel_rfl) (by kernel_rfl) (by kernel_rfl) (by kernel_rfl) (fun _ _ _ h => h) (Or.inl ⟨by rfl, ?_⟩) ⟨A_11, DT_13.here⟩ ?_
            rotate_left
            · intro w hSw; obtain ⟨f1, f2⟩ := hSw; obtain ⟨e0, e1, e2, e3, e4, e5, e6⟩ := c7_of f1; have hc := f2 k hlt; obtain ⟨b9, off9, e9, hb9, hc⟩ := hc; cases e9; obtain ⟨sa, sc, y0, y1, y2, y3, y4, y5⟩ := hc k hlt; clear hc; go_simp; with_reducible rfl
            try simp only [Act.put, List.getElem_toArray, List.getElem_cons_succ, List.getElem_cons_zero, List.setIfInBounds_toArray, List.set_cons_zero, List.set_cons_succ]
            refine wpAnyE.take (i := 10) (v := ?_) rfl (by kernel_rfl) (by kernel_rfl) (by kernel_rfl) (by kernel_rfl) (fun _ _ _ h => h) (Or.inl ⟨by rfl, ?_⟩) ⟨A_11, DT_13.here⟩ ?_
            rotate_left
            · intro w hSw; obtain ⟨f1, f2⟩ := hSw; obtain ⟨e0, e1, e2, e3, e4, e5, e6⟩ := c7_of f1; have hc := f2 k hlt; obtain ⟨b9, off9, e9, hb9, hc⟩ := hc; cases e9; obtain ⟨sa, sc, y0, y1, y2, y3, y4, y5⟩ := hc k hlt; clear hc; go_simp; with_reducible rfl
            try simp only [Act.put, List.getElem_toArray, List.getElem_cons_succ, List.getElem_cons_zero, List.setIfInBounds_toArray, List.set_cons_zero, List.set_cons_succ]
            refine wpAnyE.one (i := 11) (by kernel_rfl) rfl (fun K hK => ?_)
            go_simp
            have hA_15 := below_alloc W_9 (.cells #[.int .i64 0, .int .i64 0, .slice none 0 0, .string { data := #[] }] 58)
            have Y_16 := heap_alloc_new W_9 (.cells #[.int .i64 0, .int .i64 0, .slice none 0 0, .string { data := #[] }] 58)
            have hz_18 : W_9.heap.size < (W_9.alloc (.cells #[.int .i64 0, .int .i64 0, .slice none 0 0, .string { data := #[] }] 58)).heap.size := by simp
            generalize W_9.alloc (.cells #[.int .i64 0, .int .i64 0, .slice none 0 0, .string { data := #[] }] 58) = W_17 at *
            have hB_19 := hB_10.trans (hA_15.mono hB_10.size)
            have A_20 := (hA_15.block _ (heap_lt A_11)).trans A_11
            have DA_21 := DA_12.below hA_15
            have DT_22 := DT_13.below hA_15
            have UA_23 := hUA.below hA_15
            have hs_24 := hA_15.size
            clear A_11 DA_12 DT_13 hUA hA_15 hB_10
            refine hK _ _ (fun _ => ⟨A_20, DT_22.here⟩) ?_
            clear hK K
            try simp only [Act.put, List.getElem_toArray, List.getElem_cons_succ, List.getElem_cons_zero, List.setIfInBounds_toArray, List.set_cons_zero, List.set_cons_succ]
            refine wpAnyE.one (i := 12) (by kernel_rfl) rfl (fun K hK => ?_)
            obtain ⟨Yc0, Yc1, Yc2, Yc3⟩ := c4_of Y_16
            have f_25 := f_of (o := 0) Y_16
            have f_26 := f_of (o := 1) Y_16
            have f_27 := f_of (o := 2) Y_16
            have f_28 := f_of (o := 3) Y_16
            have zz_29 := zeroO_zero Y_16
            have bt_30 : But (W_9.heap.size) W_17 ((((W_17.setCell ⟨W_9.heap.size, 0, none⟩ (.int .i64 T[k].id)).setCell ⟨W_9.heap.size, 1, none⟩ (.int .i64 T[k].kind)).setCell ⟨W_9.heap.size, 2, none⟩ (.slice ua T[k].links.length uc)).setCell ⟨W_9.heap.size, 3, none⟩ (.string T[k].text)) := (((((But.refl _ _).set 0 (.int .i64 T[k].id)).set 1 (.int .i64 T[k].kind)).set 2 (.slice ua T[k].links.length uc)).set 3 (.string T[k].text))
            have UA_31 := UA_23.but bt_30 zz_29 HPOS.out
            obtain ⟨s_32, s_33, s_34⟩ := set4_block W_17 (W_9.heap.size) 58 (.int .i64 T[k].id) (.int .i64 T[k].kind) (.slice ua T[k].links.length uc) (.string T[k].text) Y_16
            have hB_35 := hB_19.trans (s_33.mono (by have := hB_19.size; omega))
            have A_36 := (s_34 (pA) (by omega)).trans A_20
            have DA_37 := DA_21.next (Nat.le_trans DA_21.1 s_33.size) (fun j a b => s_34 j (by omega))
            have DT_38 := DT_22.next (Nat.le_trans DT_22.1 s_33.size) (fun j a b => s_34 j (by omega))
            go_simp
            generalize ((((W_17.setCell ⟨W_9.heap.size, 0, none⟩ (.int .i64 T[k].id)).setCell ⟨W_9.heap.size, 1, none⟩ (.int .i64 T[k].kind)).setCell ⟨W_9.heap.size, 2, none⟩ (.slice ua T[k].links.length uc)).setCell ⟨W_9.heap.size, 3, none⟩ (.string T[k].text)) = W_39 at *
            clear Yc0 Yc1 Yc2 Yc3 f_25 f_26 f_27 f_28 A_20 Y_16 DA_21 DT_22 hB_19 s_33 s_34 zz_29 bt_30 UA_23
            refine hK _ _ (fun _ => ⟨A_36, DT_38.here⟩) ?_
            clear hK K
            try simp only [Act.put, List.getElem_toArray, List.getElem_cons_succ, List.getElem_cons_zero, List.setIfInBounds_toArray, List.set_cons_zero, List.set_cons_succ]
            refine wpAnyE.one (i := 13) (by kernel_rfl) rfl (fun K hK => ?_)
            go_simp
            refine hK _ _ (fun _ => ⟨A_36, DT_38.here⟩) ?_
            clear hK K
            try simp only [Act.put, List.getElem_toArray, List.getElem_cons_succ, List.getElem_cons_zero, List.setIfInBounds_toArray, List.set_cons_zero, List.set_cons_succ]
            refine wpAnyE.done (by kernel_rfl) ?_
            go_wp2
            go_meet
            case rel => exact ⟨rfl, _, ua, uc, rfl, s_32, UA_31, DT_38.here, hB_35⟩
          · skip
            go_simp
            have hA_40 := below_alloc W_7 (.cells #[.int .i64 0, .int .i64 0, .slice none 0 0, .string { data := #[] }] 58)
            have Y_41 := heap_alloc_new W_7 (.cells #[.int .i64 0, .int .i64 0, .slice none 0 0, .string { data := #[] }] 58)
            have hz_43 : W_7.heap.size < (W_7.alloc (.cells #[.int .i64 0, .int .i64 0, .slice none 0 0, .string { data := #[] }] 58)).heap.size := by simp
            generalize W_7.alloc (.cells #[.int .i64 0, .int .i64 0, .slice none 0 0, .string { data := #[] }] 58) = W_42 at *
            have hB_44 := hB_2.trans (hA_40.mono hB_2.size)
            have A_45 := (hA_40.block _ (heap_lt A_3)).trans A_3
            have DA_46 := DA_4.below hA_40
            have DT_47 := DT_5.below hA_40
            have hs_48 := hA_40.size
            clear A_3 DA_4 DT_5 hA_40 hB_2
            refine hK _ _ (fun _ => ⟨A_45, DT_47.here⟩) ?_
            clear hK K
            try simp only [Act.put, List.getElem_toArray, List.getElem_cons_succ, List.getElem_cons_zero, List.setIfInBounds_toArray, List.set_cons_zero, List.set_cons_succ]
            refine wpAnyE.one (i := 7) (by kernel_rfl) rfl (fun K hK => ?_)
            have hc_49 := (show Calls Tryz.prog 29 #[.slice q.aS q.r.s.length q.cs, .int .i64 T[k].id] W_42 _ from by
              have h := find_ok q.aS q.cs q.r.s T[k].id ix W_42 DA_46.here HCS.out hpl hix
              rw [HIX.out] at h
              exact h)
            go_simp
            refine hc_49.mono ?_
            clear hc_49
            rintro e W_50 ⟨ua, uc, rfl, hUA, h⟩
            have hB_51 := hB_44.trans (h.mono hB_44.size)
            have A_52 := (h.block _ (heap_lt A_45)).trans A_45
            have Y_53 := (h.block _ (heap_lt Y_41)).trans Y_41
            have DA_54 := DA_46.below h
            have DT_55 := DT_47.below h
            have hs_56 := h.size
            clear A_45 Y_41 DA_46 DT_47 h hB_44
            refine hK _ _ (fun _ => ⟨A_52, DT_55.here⟩) ?_
            clear hK K
            try simp only [Act.put, List.getElem_toArray, List.getElem_cons_succ, List.getElem_cons_zero, List.setIfInBounds_toArray, List.set_cons_zero, List.set_cons_succ]
            refine wpAnyE.take (i := 8) (v := ?_) rfl (by kernel_rfl) (by kernel_rfl) (by kernel_rfl) (by kernel_rfl) (fun _ _ _ h => h) (Or.inl ⟨by rfl, ?_⟩) ⟨A_52, DT_55.here⟩ ?_
            rotate_left
            · intro w hSw; obtain ⟨f1, f2⟩ := hSw; obtain ⟨e0, e1, e2, e3, e4, e5, e6⟩ := c7_of f1; have hc := f2 k hlt; obtain ⟨b9, off9, e9, hb9, hc⟩ := hc; cases e9; obtain ⟨sa, sc, y0, y1, y2, y3, y4, y5⟩ := hc k hlt; clear hc; go_simp; with_reducible rfl
            try simp only [Act.put, List.getElem_toArray, List.getElem_cons_succ, List.getElem_cons_zero, List.setIfInBounds_toArray, List.set_cons_zero, List.set_cons_succ]
            refine wpAnyE.take (i := 9) (v := ?_) rfl (by kernel_rfl) (by kernel_rfl) (by kernel_rfl) (by kernel_rfl) (fun _ _ _ h => h) (Or.inl ⟨by rfl, ?_⟩) ⟨A_52, DT_55.here⟩ ?_
            rotate_left
            · intro w hSw; obtain ⟨f1, f2⟩ := hSw; obtain ⟨e0, e1, e2, e3, e4, e5, e6⟩ := c7_of f1; have hc := f2 k hlt; obtain ⟨b9, off9, e9, hb9, hc⟩ := hc; cases e9; obtain ⟨sa, sc, y0, y1, y2, y3, y4, y5⟩ := hc k hlt; clear hc; go_simp; with_reducible rfl
            try simp only [Act.put, List.getElem_toArray, List.getElem_cons_succ, List.getElem_cons_zero, List.setIfInBounds_toArray, List.set_cons_zero, List.set_cons_succ]
            refine wpAnyE.take (i := 10) (v := ?_) rfl (by kernel_rfl) (by kernel_rfl) (by kernel_rfl) (by kernel_rfl) (fun _ _ _ h => h) (Or.inl ⟨by rfl, ?_⟩) ⟨A_52, DT_55.here⟩ ?_
            rotate_left
            · intro w hSw; obtain ⟨f1, f2⟩ := hSw; obtain ⟨e0, e1, e2, e3, e4, e5, e6⟩ := c7_of f1; have hc := f2 k hlt; obtain ⟨b9, off9, e9, hb9, hc⟩ := hc; cases e9; obtain ⟨sa, sc, y0, y1, y2, y3, y4, y5⟩ := hc k hlt; clear hc; go_simp; with_reducible rfl
            try simp only [Act.put, List.getElem_toArray, List.getElem_cons_succ, List.getElem_cons_zero, List.setIfInBounds_toArray, List.set_cons_zero, List.set_cons_succ]
            refine wpAnyE.one (i := 12) (by kernel_rfl) rfl (fun K hK => ?_)
            obtain ⟨Yc0, Yc1, Yc2, Yc3⟩ := c4_of Y_53
            have f_57 := f_of (o := 0) Y_53
            have f_58 := f_of (o := 1) Y_53
            have f_59 := f_of (o := 2) Y_53
            have f_60 := f_of (o := 3) Y_53
            have zz_61 := zeroO_zero Y_53
            have bt_62 : But (W_7.heap.size) W_50 ((((W_50.setCell ⟨W_7.heap.size, 0, none⟩ (.int .i64 T[k].id)).setCell ⟨W_7.heap.size, 1, none⟩ (.int .i64 T[k].kind)).setCell ⟨W_7.heap.size, 2, none⟩ (.slice ua T[k].links.length uc)).setCell ⟨W_7.heap.size, 3, none⟩ (.string T[k].text)) := (((((But.refl _ _).set 0 (.int .i64 T[k].id)).set 1 (.int .i64 T[k].kind)).set 2 (.slice ua T[k].links.length uc)).set 3 (.string T[k].text))
            have UA_63 := hUA.but bt_62 zz_61 HPOS.out
            obtain ⟨s_64, s_65, s_66⟩ := set4_block W_50 (W_7.heap.size) 58 (.int .i64 T[k].id) (.int .i64 T[k].kind) (.slice ua T[k].links.length uc) (.string T[k].text) Y_53
            have hB_67 := hB_51.trans (s_65.mono (by have := hB_51.size; omega))
            have A_68 := (s_66 (pA) (by omega)).trans A_52
            have DA_69 := DA_54.next (Nat.le_trans DA_54.1 s_65.size) (fun j a b => s_66 j (by omega))
            have DT_70 := DT_55.next (Nat.le_trans DT_55.1 s_65.size) (fun j a b => s_66 j (by omega))
            go_simp
            generalize ((((W_50.setCell ⟨W_7.heap.size, 0, none⟩ (.int .i64 T[k].id)).setCell ⟨W_7.heap.size, 1, none⟩ (.int .i64 T[k].kind)).setCell ⟨W_7.heap.size, 2, none⟩ (.slice ua T[k].links.length uc)).setCell ⟨W_7.heap.size, 3, none⟩ (.string T[k].text)) = W_71 at *
            clear Yc0 Yc1 Yc2 Yc3 f_57 f_58 f_59 f_60 A_52 Y_53 DA_54 DT_55 hB_51 s_65 s_66 zz_61 bt_62 hUA
            refine hK _ _ (fun _ => ⟨A_68, DT_70.here⟩) ?_
            clear hK K
            try simp only [Act.put, List.getElem_toArray, List.getElem_cons_succ, List.getElem_cons_zero, List.setIfInBounds_toArray, List.set_cons_zero, List.set_cons_succ]
            refine wpAnyE.one (i := 13) (by kernel_rfl) rfl (fun K hK => ?_)
            go_simp
            refine hK _ _ (fun _ => ⟨A_68, DT_70.here⟩) ?_
            clear hK K
            try simp only [Act.put, List.getElem_toArray, List.getElem_cons_succ, List.getElem_cons_zero, List.setIfInBounds_toArray, List.set_cons_zero, List.set_cons_succ]
            refine wpAnyE.done (by kernel_rfl) ?_
            go_wp2
            go_meet
            case rel => exact ⟨rfl, _, ua, uc, rfl, s_64, UA_63, DT_70.here, hB_67⟩
        case rest =>
        clear DT DA kAr
        obtain ⟨rfl, pY, ua, uc, rfl, kY, hUA, hT2, h⟩ := hcut
        obtain ⟨b9, off9, e9, hb9, hc9⟩ := hT2 k hlt
        cases e9
        obtain ⟨sa, sc, y0, y1, y2, y3, y4, y5⟩ := hc9 k hlt
        have hT4 : C4 b (off + k * 4) T[k] sa sc wc := ⟨hb9, y0, y1, y2, y3, y4⟩
        have HL5 : Hid (T[k].links.length ≤ 9223372036854775807) := y5
        clear hT2 hc9 hb9 y0 y1 y2 y3 y4 y5
        have hbr := h
        have hB_72 := hBr.trans (h.mono hBr.size)
        have hs_73 := h.size
        clear h hBr
        have hBB := hBL.trans (hbr.mono hBL.size)
        clear hbr
        go_wp2_with fail
        have hd_74 := below_refl_drew wc
        have hB_75 := hB_72.trans (hd_74.mono hB_72.size)
        have Y_76 := (hd_74.block _ (heap_lt kY)).trans kY
        have UA_77 := hUA.below hd_74
        have HT_78 := hT4.below hd_74
        have hb_79 := hBB.trans (hd_74.mono hBB.size)
        have hs_80 := hd_74.size
        clear kY hUA hT4 hBB hd_74 hB_72
        refine wp_region_E (fun W => (W.heap[pY]? = some (.cells #[.int .i64 T[k].id, .int .i64 T[k].kind, .slice ua T[k].links.length uc, .string T[k].text] 58)) ∧ (C4 b (off + k * 4) T[k] sa sc W)) (fun _ => false) (by kernel_rfl) ⟨Y_76, HT_78⟩ (fun hS => ?_)
        clear hS
        generalize wc.drew = W_81 at *
        refine wpAnyE.take (i := 0) (v := ?_) rfl (by kernel_rfl) (by kernel_rfl) (by kernel_rfl) (by kernel_rfl) (fun _ _ _ h => h) (Or.inl ⟨by rfl, ?_⟩) ⟨Y_76, HT_78⟩ ?_
        rotate_left
        · intro w hSw; obtain ⟨f1, f2⟩ := hSw; obtain ⟨e0, e1, e2, e3⟩ := c4_of f1; have y0 := f2.c0; have y1 := f2.c1; have y2 := f2.c2; have y3 := f2.c3; have hb9 := f2.lt; clear f2; go_simp; with_reducible rfl
        try simp only [Act.put, List.getElem_toArray, List.getElem_cons_zero, List.setIfInBounds_toArray, List.set_cons_zero, List.set_cons_succ]
        refine wpAnyE.take (i := 1) (v := ?_) rfl (by kernel_rfl) (by kernel_rfl) (by kernel_rfl) (by kernel_rfl) (fun _ _ _ h => h) (Or.inl ⟨by rfl, ?_⟩) ⟨Y_76, HT_78⟩ ?_
        rotate_left
        · intro w hSw; obtain ⟨f1, f2⟩ := hSw; obtain ⟨e0, e1, e2, e3⟩ := c4_of f1; have y0 := f2.c0; have y1 := f2.c1; have y2 := f2.c2; have y3 := f2.c3; have hb9 := f2.lt; clear f2; go_simp; with_reducible rfl
        try simp only [Act.put, List.getElem_toArray, List.getElem_cons_succ, List.getElem_cons_zero, List.setIfInBounds_toArray, List.set_cons_zero, List.set_cons_succ]
        refine wpAnyE.take (i := 2) (v := ?_) rfl (by kernel_rfl) (by kernel_rfl) (by kernel_rfl) (by kernel_rfl) (fun _ _ _ h => h) (Or.inl ⟨by rfl, ?_⟩) ⟨Y_76, HT_78⟩ ?_
        rotate_left
        · intro w hSw; obtain ⟨f1, f2⟩ := hSw; obtain ⟨e0, e1, e2, e3⟩ := c4_of f1; have y0 := f2.c0; have y1 := f2.c1; have y2 := f2.c2; have y3 := f2.c3; have hb9 := f2.lt; clear f2; go_simp; with_reducible rfl
        try simp only [Act.put, List.getElem_toArray, List.getElem_cons_succ, List.getElem_cons_zero, List.setIfInBounds_toArray, List.set_cons_zero, List.set_cons_succ]
        refine wpAnyE.take (i := 3) (v := ?_) rfl (by kernel_rfl) (by kernel_rfl) (by kernel_rfl) (by kernel_rfl) (fun _ _ _ h => h) (Or.inl ⟨by rfl, ?_⟩) ⟨Y_76, HT_78⟩ ?_
        rotate_left
        · intro w hSw; obtain ⟨f1, f2⟩ := hSw; obtain ⟨e0, e1, e2, e3⟩ := c4_of f1; have y0 := f2.c0; have y1 := f2.c1; have y2 := f2.c2; have y3 := f2.c3; have hb9 := f2.lt; clear f2; go_simp; with_reducible rfl
        try simp only [Act.put, List.getElem_toArray, List.getElem_cons_succ, List.getElem_cons_zero, List.setIfInBounds_toArray, List.set_cons_zero, List.set_cons_succ]
        refine wpAnyE.take (i := 4) (v := ?_) rfl (by kernel_rfl) (by kernel_rfl) (by kernel_rfl) (by kernel_rfl) (fun _ _ _ h => h) (Or.inl ⟨by rfl, ?_⟩) ⟨Y_76, HT_78⟩ ?_
        rotate_left
        · intro w hSw; obtain ⟨f1, f2⟩ := hSw; obtain ⟨e0, e1, e2, e3⟩ := c4_of f1; have y0 := f2.c0; have y1 := f2.c1; have y2 := f2.c2; have y3 := f2.c3; have hb9 := f2.lt; clear f2; go_simp; with_reducible rfl
        try simp only [Act.put, List.getElem_toArray, List.getElem_cons_succ, List.getElem_cons_zero, List.setIfInBounds_toArray, List.set_cons_zero, List.set_cons_succ]
        refine wpAnyE.take (i := 5) (v := ?_) rfl (by kernel_rfl) (by kernel_rfl) (by kernel_rfl) (by kernel_rfl) (fun _ _ _ h => h) (Or.inl ⟨by rfl, ?_⟩) ⟨Y_76, HT_78⟩ ?_
        rotate_left
        · intro w hSw; obtain ⟨f1, f2⟩ := hSw; obtain ⟨e0, e1, e2, e3⟩ := c4_of f1; have y0 := f2.c0; have y1 := f2.c1; have y2 := f2.c2; have y3 := f2.c3; have hb9 := f2.lt; clear f2; go_simp; with_reducible rfl
        try simp only [Act.put, List.getElem_toArray, List.getElem_cons_succ, List.getElem_cons_zero, List.setIfInBounds_toArray, List.set_cons_zero, List.set_cons_succ]
        refine wpAnyE.take (i := 6) (v := ?_) rfl (by kernel_rfl) (by kernel_rfl) (by kernel_rfl) (by kernel_rfl) (fun _ _ _ h => h) (Or.inl ⟨by rfl, ?_⟩) ⟨Y_76, HT_78⟩ ?_
        rotate_left
        · intro w hSw; obtain ⟨f1, f2⟩ := hSw; obtain ⟨e0, e1, e2, e3⟩ := c4_of f1; have y0 := f2.c0; have y1 := f2.c1; have y2 := f2.c2; have y3 := f2.c3; have hb9 := f2.lt; clear f2; go_simp; with_reducible rfl
        try simp only [Act.put, List.getElem_toArray, List.getElem_cons_succ, List.getElem_cons_zero, List.setIfInBounds_toArray, List.set_cons_zero, List.set_cons_succ]
        refine wpAnyE.take (i := 7) (v := ?_) rfl (by kernel_rfl) (by kernel_rfl) (by kernel_rfl) (by kernel_rfl) (fun _ _ _ h => h) (Or.inl ⟨by rfl, ?_⟩) ⟨Y_76, HT_78⟩ ?_
        rotate_left
        · intro w hSw; obtain ⟨f1, f2⟩ := hSw; obtain ⟨e0, e1, e2, e3⟩ := c4_of f1; have y0 := f2.c0; have y1 := f2.c1; have y2 := f2.c2; have y3 := f2.c3; have hb9 := f2.lt; clear f2; go_simp; with_reducible rfl
        try simp only [Act.put, List.getElem_toArray, List.getElem_cons_succ, List.getElem_cons_zero, List.setIfInBounds_toArray, List.set_cons_zero, List.set_cons_succ]
        refine wpAnyE.one (i := 8) (by kernel_rfl) rfl (fun K hK => ?_)
        have hcs := sameObject_any T[k].id T[k].kind ua uc T[k].links T[k].text T[k].id T[k].kind sa sc T[k].links T[k].text W_81 UA_77 HT_78.holds HL5.out
        rw [sameO_refl] at hcs
        go_simp
        refine hcs.mono ?_
        clear hcs
        rintro e W_82 ⟨rfl, h⟩
        have hB_83 := hB_75.trans (h.mono hB_75.size)
        have Y_84 := (h.block _ (heap_lt Y_76)).trans Y_76
        have UA_85 := UA_77.below h
        have HT_86 := HT_78.below h
        have hb_87 := hb_79.trans (h.mono hb_79.size)
        have hs_88 := h.size
        clear Y_76 UA_77 HT_78 hb_79 h hB_75
        refine hK _ _ (fun _ => ⟨Y_84, HT_86⟩) ?_
        clear hK K
        try simp only [Act.put, List.getElem_toArray, List.getElem_cons_succ, List.getElem_cons_zero, List.setIfInBounds_toArray, List.set_cons_zero, List.set_cons_succ]
        refine wpAnyE.take (i := 9) (v := ?_) rfl (by kernel_rfl) (by kernel_rfl) (by kernel_rfl) (by kernel_rfl) (fun _ _ _ h => h) (Or.inl ⟨by rfl, ?_⟩) ⟨Y_84, HT_86⟩ ?_
        rotate_left
        · intro w hSw; obtain ⟨f1, f2⟩ := hSw; obtain ⟨e0, e1, e2, e3⟩ := c4_of f1; have y0 := f2.c0; have y1 := f2.c1; have y2 := f2.c2; have y3 := f2.c3; have hb9 := f2.lt; clear f2; go_simp; with_reducible rfl
        try simp only [Act.put, List.getElem_toArray, List.getElem_cons_succ, List.getElem_cons_zero, List.setIfInBounds_toArray, List.set_cons_zero, List.set_cons_succ]
        refine wpAnyE.take (i := 10) (v := ?_) rfl (by kernel_rfl) (by kernel_rfl) (by kernel_rfl) (by kernel_rfl) (fun _ _ _ h => h) (Or.inl ⟨by rfl, ?_⟩) ⟨Y_84, HT_86⟩ ?_
        rotate_left
        · intro w hSw; obtain ⟨f1, f2⟩ := hSw; obtain ⟨e0, e1, e2, e3⟩ := c4_of f1; have y0 := f2.c0; have y1 := f2.c1; have y2 := f2.c2; have y3 := f2.c3; have hb9 := f2.lt; clear f2; go_simp; with_reducible rfl
        try simp only [Act.put, List.getElem_toArray, List.getElem_cons_succ, List.getElem_cons_zero, List.setIfInBounds_toArray, List.set_cons_zero, List.set_cons_succ]
        refine wpAnyE.done (by kernel_rfl) ?_
        go_wp2
        go_roundw
        case rel => exact ⟨k + 1, by go_num, by omega, hb_87⟩
        case measure => simp [intOf]; omega
      · clear hT
        go_wp2
        go_ret
        exact ⟨rfl, hBr⟩
end Go.Proofs.YtehmlpkapjdhkaaGreatDoor
