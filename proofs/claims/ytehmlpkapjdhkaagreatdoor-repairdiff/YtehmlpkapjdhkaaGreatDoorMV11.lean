import Derived.Test.YtehmlpkapjdhkaaGreatDoorMX11
namespace Go.Proofs.YtehmlpkapjdhkaaGreatDoor
open Go.RowKit
set_option maxRecDepth 100000

set_option maxHeartbeats 8000000 in
theorem repairDiff_any (n r : Rq) (w : World) (hg : Glob w) (hn : n.H w) (hr : r.H w) : Calls Tryz.prog 8 #[n.val, r.val] w fun e w' => e = .returned (.bool true) ∧ Below w.heap.size w w' := by
  have hA := below_alloc2 w n.blk r.blk
  obtain ⟨k1, k2⟩ := two_blocks w n.blk r.blk
  obtain ⟨y0, y1, y2, y3, y4, y5, y6⟩ := c7_of k1
  obtain ⟨x0, x1, x2, x3, x4, x5, x6⟩ := c7_of k2
  have hn0 := hn.below hA
  have hr0 := hr.below hA
  have hc := from_any n r _ (hg.below hA) hn0 hr0
  go_enter Tryz.func8, Tryz.ntmps8
  go_wp2_with fail
  generalize (w.alloc n.blk).alloc r.blk = W0 at *
  refine hc.mono ?_
  clear hc y0 y1 y2 y3 y4 y5 y6 x0 x1 x2 x3 x4 x5 x6
  rintro e W1 ⟨hb1, ⟨hne, rfl⟩ | ⟨hz, b0, d0, b1, d1, b2, d2, b3, d3, rfl, F⟩⟩
  · have hB1 := hA.trans (hb1.mono hA.size)
    have hA2 := below_alloc W1 zero28
    have k5 := heap_alloc_new W1 zero28
    have hB2 := hB1.trans (hA2.mono hB1.size)
    have hE : (fromE n.r r.r != 0) = true := by simpa using hne
    clear hb1 hA hne k1 k2 hn0 hr0 hB1 hA2
    generalize fromE n.r r.r = E at *
    have hc := repairBegun_any (W1.alloc zero28) (hg.below hB2)
    obtain ⟨p, hp⟩ : ∃ p, p = W1.heap.size := ⟨_, rfl⟩
    rw [← hp] at k5
    go_wp2_with fail
    rw [← hp]
    clear hp
    generalize W1.alloc zero28 = W2 at *
    refine hc.mono ?_
    clear hc
    rintro e W3 ⟨rfl, hb3⟩
    have hB3 := hB2.trans (hb3.mono hB2.size)
    have j5 := (hb3.block _ (heap_lt k5)).trans k5
    clear hb3 hB2 k5
    have hc := diffBegun_any W3 (hg.below hB3)
    go_wp2_with fail
    refine hc.mono ?_
    clear hc
    rintro e W4 ⟨rfl, hb4⟩
    have hB4 := hB3.trans (hb4.mono hB3.size)
    have i5 := (hb4.block _ (heap_lt j5)).trans j5
    obtain ⟨y0, y1, y2, y3, y4, y5, y6⟩ := c7_of i5
    clear hb4 hB3 j5 i5
    go_wp2
    go_ret
    exact ⟨rfl, hB4⟩
  · have hB1 := hA.trans (hb1.mono hA.size)
    obtain ⟨⟨hd1, hm1⟩, hd2, hm2⟩ := from_diff hz
    have hnr : checkL n.r.l n.r.l = 0 := refs_checkL (err_refs (fromE_zero.1 hz).1) (err_refs (fromE_zero.1 hz).1)
    obtain ⟨S', hS⟩ : ∃ S', (fromR n.r r.r).s = S' := ⟨_, rfl⟩
    rw [hS] at hd1 hm1 hd2 hm2 F ⊢
    have HD : Hid (diffE n.r.s S' = 0 ∧ missL n.r.s S' = [] ∧ diffE r.r.s S' = 0 ∧ missL r.r.s S' = [] ∧ checkL n.r.l n.r.l = 0) := ⟨hd1, hm1, hd2, hm2, hnr⟩
    have hA2 := below_alloc W1 (repB b0 S'.length d0 b1 n.r.l.length d1 n.r.g 0 b2 0 d2 b3 0 d3 false 36)
    have k5 := heap_alloc_new W1 (repB b0 S'.length d0 b1 n.r.l.length d1 n.r.g 0 b2 0 d2 b3 0 d3 false 36)
    have hB2 := hB1.trans (hA2.mono hB1.size)
    have j1 := (hA2.block _ (heap_lt ((hb1.block _ (heap_lt k1)).trans k1))).trans ((hb1.block _ (heap_lt k1)).trans k1)
    have j2 := (hA2.block _ (heap_lt ((hb1.block _ (heap_lt k2)).trans k2))).trans ((hb1.block _ (heap_lt k2)).trans k2)
    have hF := F.h.below hA2
    have hn2 := (hn0.below hb1).below hA2
    have hr2 := (hr0.below hb1).below hA2
    clear hb1 hA k1 k2 hn0 hr0 hB1 hA2 hd1 hm1 hd2 hm2 hnr hS F hz
    have hc := repairBegun_any (W1.alloc (repB b0 S'.length d0 b1 n.r.l.length d1 n.r.g 0 b2 0 d2 b3 0 d3 false 36)) (hg.below hB2)
    obtain ⟨p, hp⟩ : ∃ p, p = W1.heap.size := ⟨_, rfl⟩
    rw [← hp] at k5
    go_wp2_with fail
    rw [← hp]
    clear hp
    generalize W1.alloc (repB b0 S'.length d0 b1 n.r.l.length d1 n.r.g 0 b2 0 d2 b3 0 d3 false 36) = W2 at *
    refine hc.mono ?_
    clear hc
    rintro e W3 ⟨rfl, hb3⟩
    have hB3 := hB2.trans (hb3.mono hB2.size)
    have k5' := (hb3.block _ (heap_lt k5)).trans k5
    have k1' := (hb3.block _ (heap_lt j1)).trans j1
    have k2' := (hb3.block _ (heap_lt j2)).trans j2
    have hF3 := hF.below hb3
    have hn3 := hn2.below hb3
    have hr3 := hr2.below hb3
    clear hb3 hB2 k5 j1 j2 hF hn2 hr2
    have hc := diffBegun_any W3 (hg.below hB3)
    go_wp2_with fail
    refine hc.mono ?_
    clear hc
    rintro e W4 ⟨rfl, hb4⟩
    have hB4 := hB3.trans (hb4.mono hB3.size)
    have m5 := (hb4.block _ (heap_lt k5')).trans k5'
    have m1 := (hb4.block _ (heap_lt k1')).trans k1'
    have m2 := (hb4.block _ (heap_lt k2')).trans k2'
    have hF4 := hF3.below hb4
    have hn4 := hn3.below hb4
    have hr4 := hr3.below hb4
    clear hb4 hB3 k5' k1' k2' hF3 hn3 hr3
    obtain ⟨y0, y1, y2, y3, y4, y5, y6⟩ := c7_of m5
    obtain ⟨z0, z1, z2, z3, z4, z5, z6⟩ := c7_of m1
    have hc := diffObjects_any n.aS n.cs n.r.s b0 d0 S' W4 hn4.hs hn4.ns hF4.hs hF4.ns
    go_wp2_with fail
    refine hc.mono ?_
    clear hc y0 y1 y2 y3 y4 y5 y6 z0 z1 z2 z3 z4 z5 z6
    rintro e W5 ⟨hb5, ⟨hne, -⟩ | ⟨-, v, rs, rfl, hrs, O5⟩⟩
    · exact absurd HD.out.1 hne
    rw [HD.out.2.1] at hrs
    obtain ⟨e0, f0, rfl⟩ := objs_slice hrs O5
    have hB5 := hB4.trans (hb5.mono hB4.size)
    have n5 := (hb5.block _ (heap_lt m5)).trans m5
    have n1 := (hb5.block _ (heap_lt m1)).trans m1
    have n2 := (hb5.block _ (heap_lt m2)).trans m2
    have hF5 := hF4.below hb5
    have hn5 := hn4.below hb5
    have hr5 := hr4.below hb5
    clear hb5 hB4 m5 m1 m2 hF4 hn4 hr4 O5 hrs
    obtain ⟨y0, y1, y2, y3, y4, y5, y6⟩ := c7_of n5
    obtain ⟨z0, z1, z2, z3, z4, z5, z6⟩ := c7_of n2
    have hc := diffObjects_any r.aS r.cs r.r.s b0 d0 S' W5 hr5.hs hr5.ns hF5.hs hF5.ns
    go_wp2_with fail
    refine hc.mono ?_
    clear hc y0 y1 y2 y3 y4 y5 y6 z0 z1 z2 z3 z4 z5 z6
    rintro e W6 ⟨hb6, ⟨hne, -⟩ | ⟨-, v, rs, rfl, hrs, O6⟩⟩
    · exact absurd HD.out.2.2.1 hne
    rw [HD.out.2.2.2.1] at hrs
    obtain ⟨e1, f1, rfl⟩ := objs_slice hrs O6
    have hB6 := hB5.trans (hb6.mono hB5.size)
    have m5 := (hb6.block _ (heap_lt n5)).trans n5
    have m1 := (hb6.block _ (heap_lt n1)).trans n1
    have hF6 := hF5.below hb6
    have hn6 := hn5.below hb6
    clear hb6 hB5 n5 n1 n2 hF5 hn5 hr5 O6 hrs
    obtain ⟨y0, y1, y2, y3, y4, y5, y6⟩ := c7_of m5
    obtain ⟨z0, z1, z2, z3, z4, z5, z6⟩ := c7_of m1
    have hc := drefs_any n.al n.cl n.r.l b1 d1 n.r.l W6 (hg.below hB6) hn6.hl hF6.hl
    go_wp2_with fail
    refine hc.mono ?_
    clear hc y0 y1 y2 y3 y4 y5 y6 z0 z1 z2 z3 z4 z5 z6
    rintro e W7 ⟨hb7, ⟨hne, -⟩ | ⟨-, ns, a5, c5, rfl, -, -, -, -⟩⟩
    · exact absurd HD.out.2.2.2.2 hne
    rw [lead_self]
    have hB7 := hB6.trans (hb7.mono hB6.size)
    clear hb7 hB6 m5 m1 hF6 hn6
    go_wp2
    go_ret
    exact ⟨rfl, hB7⟩
end Go.Proofs.YtehmlpkapjdhkaaGreatDoor
