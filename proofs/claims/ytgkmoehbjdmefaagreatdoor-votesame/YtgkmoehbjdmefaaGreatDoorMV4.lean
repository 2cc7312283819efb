import Derived.Test.YtgkmoehbjdmefaaGreatDoorMP
namespace Go.Proofs.YtgkmoehbjdmefaaGreatDoor
open Go.RowKit
set_option maxRecDepth 100000

theorem c7_of {w : World} {q : Nat} {x0 x1 x2 x3 x4 x5 x6 : Value} {t : TypeId} (h : w.heap[q]? = some (.cells #[x0, x1, x2, x3, x4, x5, x6] t)) : w.cell? ⟨q, 0, none⟩ = some x0 ∧ w.cell? ⟨q, 1, none⟩ = some x1 ∧ w.cell? ⟨q, 2, none⟩ = some x2 ∧ w.cell? ⟨q, 3, none⟩ = some x3 ∧ w.cell? ⟨q, 4, none⟩ = some x4 ∧ w.cell? ⟨q, 5, none⟩ = some x5 ∧ w.cell? ⟨q, 6, none⟩ = some x6 := by
  refine ⟨?_, ?_, ?_, ?_, ?_, ?_, ?_⟩ <;> rw [cell_of_row w _ _ _ _ _ h] <;> rfl

set_option maxHeartbeats 16000000 in
theorem pushTwice_any (aS : Option Addr) (cs : Nat) (s : List Ob) (al : Option Addr) (cl : Nat) (l : List Rf) (g ph : Int) (a1 : Option Addr) (n1 c1 : Nat) (a2 : Option Addr) (n2 c2 : Nat) (f0 : Bool) (am : Option Addr) (cm : Nat) (m : List Ob) (au : Option Addr) (cu : Nat) (us : List Up) (f : Bool) (w : World) (hg : Glob w)
    (hs : HoldsS w aS s) (hsl : s.length ≤ 9223372036854775807) (hl : HoldsR w al l) (hll : l.length ≤ 9223372036854775807) (hm : HoldsS w am m) (hml : m.length ≤ 9223372036854775807) (hu : HoldsU w au us) (hul : us.length ≤ 9223372036854775807) :
    Calls Tryz.prog 4 #[replV aS s.length cs al l.length cl g ph a1 n1 c1 a2 n2 c2 f0, pushV am m.length cm au us.length cu f] w fun e w' => e = .returned (.bool true) ∧ Below w.heap.size w w' := by
  have hB := below_alloc2 w (.cells #[.slice aS s.length cs, .slice al l.length cl, .int .i64 g, .int .i64 ph, .slice a1 n1 c1, .slice a2 n2 c2, .bool f0] 28) (.cells #[.slice am m.length cm, .slice au us.length cu, .bool f] 26)
  have hA2 := below_alloc (w.alloc (.cells #[.slice aS s.length cs, .slice al l.length cl, .int .i64 g, .int .i64 ph, .slice a1 n1 c1, .slice a2 n2 c2, .bool f0] 28)) (.cells #[.slice am m.length cm, .slice au us.length cu, .bool f] 26)
  have hk2 : ((w.alloc (.cells #[.slice aS s.length cs, .slice al l.length cl, .int .i64 g, .int .i64 ph, .slice a1 n1 c1, .slice a2 n2 c2, .bool f0] 28)).alloc (.cells #[.slice am m.length cm, .slice au us.length cu, .bool f] 26)).heap[w.heap.size + 1]? = some (.cells #[.slice am m.length cm, .slice au us.length cu, .bool f] 26) := by
    have := heap_alloc_new (w.alloc (.cells #[.slice aS s.length cs, .slice al l.length cl, .int .i64 g, .int .i64 ph, .slice a1 n1 c1, .slice a2 n2 c2, .bool f0] 28)) (.cells #[.slice am m.length cm, .slice au us.length cu, .bool f] 26)
    rwa [show (w.alloc (.cells #[.slice aS s.length cs, .slice al l.length cl, .int .i64 g, .int .i64 ph, .slice a1 n1 c1, .slice a2 n2 c2, .bool f0] 28)).heap.size = w.heap.size + 1 by simp] at this
  have hk1 : ((w.alloc (.cells #[.slice aS s.length cs, .slice al l.length cl, .int .i64 g, .int .i64 ph, .slice a1 n1 c1, .slice a2 n2 c2, .bool f0] 28)).alloc (.cells #[.slice am m.length cm, .slice au us.length cu, .bool f] 26)).heap[w.heap.size]? = some (.cells #[.slice aS s.length cs, .slice al l.length cl, .int .i64 g, .int .i64 ph, .slice a1 n1 c1, .slice a2 n2 c2, .bool f0] 28) := (hA2.block _ (by simp)).trans (heap_alloc_new w _)
  clear hA2
  obtain ⟨y0, y1, y2⟩ := c3_of hk2
  obtain ⟨r0, r1, r2, r3, r4, r5, r6⟩ := c7_of hk1
  have htr := try_any aS cs s al cl l g ph a1 n1 c1 a2 n2 c2 f0 am cm m au cu us f _ (hg.below hB) (hs.below hB) hsl (hl.below hB) hll (hm.below hB) hml (hu.below hB) hul
  go_enter Tryz.func4, Tryz.ntmps4
  go_wp2_with fail
  refine htr.mono ?_
  clear htr
  rintro e w1 ⟨hb1, hpost1⟩
  have hB1 := hB.trans (hb1.mono hB.size)
  have hk11 := (hb1.block _ (heap_lt hk1)).trans hk1
  have hk21 := (hb1.block _ (heap_lt hk2)).trans hk2
  clear hb1 hB hk1 hk2 y0 y1 y2 r0 r1 r2 r3 r4 r5 r6
  obtain ⟨y0, y1, y2⟩ := c3_of hk21
  obtain ⟨r0, r1, r2, r3, r4, r5, r6⟩ := c7_of hk11
  have htr := try_any aS cs s al cl l g ph a1 n1 c1 a2 n2 c2 f0 am cm m au cu us f w1 (hg.below hB1) (hs.below hB1) hsl (hl.below hB1) hll (hm.below hB1) hml (hu.below hB1) hul
  rcases hpost1 with ⟨hne, rfl⟩ | ⟨hz, a3, c3, a4, c4, rfl, hS1, hRm1, hL1⟩
  · go_wp2_with fail
    refine htr.mono ?_
    clear htr
    rintro e w2 ⟨hb2, ⟨-, rfl⟩ | ⟨hno, -⟩⟩
    case inr => exact absurd hno hne
    have hB2 := hB1.trans (hb2.mono hB1.size)
    have z1 : (tryE s l m us f != 0) = true := by simpa using hne
    clear hb2 hB1 hne hk11 hk21 y0 y1 y2 r0 r1 r2 r3 r4 r5 r6
    go_wp2_with fail
    refine (pushBegun_any w2 (hg.below hB2)).mono ?_
    rintro e w3 ⟨rfl, hb3⟩
    have hB3 := hB2.trans (hb3.mono hB2.size)
    clear hb3 hB2
    have hss := sameStore_refl none 0 none 0 [] w3 (fun i hi => by simp at hi) (fun i hi => by simp at hi) (by simp)
    go_wp2_with fail
    refine hss.mono ?_
    clear hss
    rintro e w4 ⟨rfl, hb4⟩
    have hB4 := hB3.trans (hb4.mono hB3.size)
    clear hb4 hB3
    have hsr := sameRefs_eq none 0 none 0 [] w4 (fun i hi => by simp at hi) (fun i hi => by simp at hi) (by simp)
    go_wp2_with fail
    refine hsr.mono ?_
    clear hsr
    rintro e w5 ⟨rfl, hb5⟩
    have hB5 := hB4.trans (hb5.mono hB4.size)
    clear hb5 hB4
    go_wp2
    go_ret
    exact ⟨rfl, hB5⟩
  have HZ : Hid (tryE s l m us f = 0) := hz
  have HBare : Hid (tryE (takeRes s m) l [] us f = 0 ∧ takeRes (takeRes s m) [] = takeRes s m) := try_bare hz
  have HAgain : Hid (movedB us = true → tryE (takeRes s m) (runL l us) m us f = 4) := fun q => try_again hz (movedB_iff q)
  have hT40 : (takeRes s m).length ≤ 9223372036854775807 := by have := (checkS_zero (addE_zero (tryE_iff.1 hz).2.1).2.2.2.2).1; omega
  have hL8 : (runL l us).length ≤ 9223372036854775807 := by have := (refsE_iff.1 (applyE_iff.1 (tryE_iff.1 hz).2.2).2.2.2).2.1; omega
  have h4 : us.length ≤ 4 := (checkU_iff.1 (pushE_iff.1 (tryE_iff.1 hz).1).2.2).2.1
  clear hz
  obtain ⟨T, hTe⟩ : ∃ T, T = takeRes s m := ⟨_, rfl⟩
  obtain ⟨L, hLe⟩ : ∃ L, L = runL l us := ⟨_, rfl⟩
  rw [← hTe] at hS1 hRm1 HBare HAgain hT40
  rw [← hLe] at hL1 HAgain hL8
  rw [← hTe, ← hLe]
  have HT : Hid (T = takeRes s m) := hTe
  have HL : Hid (L = runL l us) := hLe
  clear hTe hLe
  go_wp2_with fail
  refine htr.mono ?_
  clear htr
  rintro e w2 ⟨hb2, ⟨hno, -⟩ | ⟨-, a5, c5, a6, c6, rfl, hS2, -, hL2⟩⟩
  case inl => exact absurd HZ.out hno
  rw [← HT.out] at hS2
  rw [← HL.out] at hL2
  rw [← HT.out, ← HL.out]
  have hB2 := hB1.trans (hb2.mono hB1.size)
  have hk12 := (hb2.block _ (heap_lt hk11)).trans hk11
  have hk22 := (hb2.block _ (heap_lt hk21)).trans hk21
  have hS12 := hS1.below hb2
  have hR12 := hRm1.below hb2
  have hL12 := hL1.below hb2
  clear hb2 hB1 hk11 hk21 y0 y1 y2 r0 r1 r2 r3 r4 r5 r6 hS1 hRm1 hL1
  go_wp2_with fail
  refine (pushBegun_any w2 (hg.below hB2)).mono ?_
  rintro e w3 ⟨rfl, hb3⟩
  have hB3 := hB2.trans (hb3.mono hB2.size)
  have hk13 := (hb3.block _ (heap_lt hk12)).trans hk12
  have hk23 := (hb3.block _ (heap_lt hk22)).trans hk22
  have hS13 := hS12.below hb3
  have hR13 := hR12.below hb3
  have hL13 := hL12.below hb3
  have hS23 := hS2.below hb3
  have hL23 := hL2.below hb3
  clear hb3 hB2 hk12 hk22 hS12 hR12 hL12 hS2 hL2
  go_wp2_with fail
  refine (sameStore_refl a3 c3 a5 c5 T w3 hS13 hS23 hT40).mono ?_
  rintro e w4 ⟨rfl, hb4⟩
  have hB4 := hB3.trans (hb4.mono hB3.size)
  have hk14 := (hb4.block _ (heap_lt hk13)).trans hk13
  have hk24 := (hb4.block _ (heap_lt hk23)).trans hk23
  have hS14 := hS13.below hb4
  have hR14 := hR13.below hb4
  have hL14 := hL13.below hb4
  have hL24 := hL23.below hb4
  clear hb4 hB3 hk13 hk23 hS13 hR13 hL13 hS23 hL23
  go_wp2_with fail
  refine (sameRefs_eq a4 c4 a6 c6 L w4 hL14 hL24 hL8).mono ?_
  rintro e w5 ⟨rfl, hb5⟩
  have hB5 := hB4.trans (hb5.mono hB4.size)
  have hk15 := (hb5.block _ (heap_lt hk14)).trans hk14
  have hk25 := (hb5.block _ (heap_lt hk24)).trans hk24
  have hS15 := hS14.below hb5
  have hR15 := hR14.below hb5
  have hL15 := hL14.below hb5
  clear hb5 hB4 hk14 hk24 hS14 hR14 hL14 hL24
  obtain ⟨y0, y1, y2⟩ := c3_of hk25
  go_wp2
  go_loopw [11, 12] (fun t i wr => ∃ (mv : Bool) (k : Nat), t = .bool mv ∧ i = .int .i64 k ∧ k ≤ us.length ∧ Hid (mv = movedB (us.take k)) ∧ Below w5.heap.size w5 wr) (fun _ i _ => us.length - (intOf i).toNat)
  case atStart => exact ⟨false, 0, rfl, rfl, Nat.zero_le _, rfl, Below.refl _ _⟩
  case round =>
    obtain ⟨mv, k, rfl, rfl, hk, HM, hBr⟩ := hrel
    have hBw := hB5.trans (hBr.mono hB5.size)
    have x1 := (hBr.cell (p := ⟨w.heap.size + 1, 1, none⟩) (heap_lt hk25)).trans y1
    by_cases hlt : k < us.length
    · have hlt' : (k : Int) < (us.length : Int) := by omega
      obtain ⟨b, off, rfl, hb, hc⟩ := hu k hlt
      have hUA := hc k hlt
      clear hc
      have HMn : Hid (movedB (us.take (k + 1)) = (mv || (us[k].old != us[k].new))) := by unfold Hid; rw [movedB_next hlt, ← HM.out]
      have HC : Hid (∀ W, Below w.heap.size w W → UpAt W b (off + k * 3) us[k]) := fun W hW => ⟨(hW.cell (p := ⟨b, off + k * 3, none⟩) hb).trans hUA.1, (hW.cell (p := ⟨b, off + k * 3 + 1, none⟩) hb).trans hUA.2.1, (hW.cell (p := ⟨b, off + k * 3 + 2, none⟩) hb).trans hUA.2.2⟩
      obtain ⟨x, hx⟩ : ∃ x, x = us[k] := ⟨_, rfl⟩
      rw [← hx] at HMn HC
      clear hUA hx
      go_wp2_with fail
      have hdr := (Below.refl wr.heap.size wr).drew
      have hBD := hBr.trans (hdr.mono hBr.size)
      have hBwD := hBw.trans (hdr.mono hBw.size)
      have x1D : wr.drew.cell? ⟨w.heap.size + 1, 1, none⟩ = some (.slice (some ⟨b, off, none⟩) us.length cu) := x1
      clear hdr hBr hBw x1
      refine wp_region_E (fun W => UpAt W b (off + k * 3) x ∧ W.cell? ⟨w.heap.size + 1, 1, none⟩ = some (.slice (some ⟨b, off, none⟩) us.length cu)) (fun _ => false) (by kernel_rfl) ⟨HC.out _ hBwD, x1D⟩ (fun hS => ?_)
      generalize wr.drew = W0 at *
      cases mv with
      | true =>
        refine wpAnyE.take (i := 0) (v := ?_) rfl (by kernel_rfl) (by kernel_rfl) (by kernel_rfl) (by kernel_rfl) (fun _ _ _ h => h) (Or.inl ⟨by rfl, ?_⟩) (by assumption) ?_
        rotate_left
        · intro w hSw; obtain ⟨⟨z0, z1, z2⟩, z3⟩ := hSw; go_simp; with_reducible rfl
        try simp only [Act.put, List.getElem_toArray, List.getElem_cons_zero, List.setIfInBounds_toArray, List.set_cons_zero, List.set_cons_succ]
        refine wpAnyE.take (i := 1) (v := ?_) rfl (by kernel_rfl) (by kernel_rfl) (by kernel_rfl) (by kernel_rfl) (fun _ _ _ h => h) (Or.inl ⟨by rfl, ?_⟩) (by assumption) ?_
        rotate_left
        · intro w hSw; obtain ⟨⟨z0, z1, z2⟩, z3⟩ := hSw; go_simp; with_reducible rfl
        try simp only [Act.put, List.getElem_toArray, List.getElem_cons_succ, List.getElem_cons_zero, List.setIfInBounds_toArray, List.set_cons_zero, List.set_cons_succ]
        refine wpAnyE.take (i := 2) (v := undef) rfl (by kernel_rfl) (by kernel_rfl) (by kernel_rfl) (by kernel_rfl) (fun _ _ _ h => h) (Or.inr ⟨by rfl, rfl⟩) (by assumption) ?_
        try simp only [Act.put, List.getElem_toArray, List.getElem_cons_succ, List.getElem_cons_zero, List.setIfInBounds_toArray, List.set_cons_zero, List.set_cons_succ]
        refine wpAnyE.take (i := 3) (v := undef) rfl (by kernel_rfl) (by kernel_rfl) (by kernel_rfl) (by kernel_rfl) (fun _ _ _ h => h) (Or.inr ⟨by rfl, rfl⟩) (by assumption) ?_
        try simp only [Act.put, List.getElem_toArray, List.getElem_cons_succ, List.getElem_cons_zero, List.setIfInBounds_toArray, List.set_cons_zero, List.set_cons_succ]
        refine wpAnyE.take (i := 4) (v := undef) rfl (by kernel_rfl) (by kernel_rfl) (by kernel_rfl) (by kernel_rfl) (fun _ _ _ h => h) (Or.inr ⟨by rfl, rfl⟩) (by assumption) ?_
        try simp only [Act.put, List.getElem_toArray, List.getElem_cons_succ, List.getElem_cons_zero, List.setIfInBounds_toArray, List.set_cons_zero, List.set_cons_succ]
        refine wpAnyE.take (i := 5) (v := undef) rfl (by kernel_rfl) (by kernel_rfl) (by kernel_rfl) (by kernel_rfl) (fun _ _ _ h => h) (Or.inr ⟨by rfl, rfl⟩) (by assumption) ?_
        try simp only [Act.put, List.getElem_toArray, List.getElem_cons_succ, List.getElem_cons_zero, List.setIfInBounds_toArray, List.set_cons_zero, List.set_cons_succ]
        refine wpAnyE.take (i := 6) (v := undef) rfl (by kernel_rfl) (by kernel_rfl) (by kernel_rfl) (by kernel_rfl) (fun _ _ _ h => h) (Or.inr ⟨by rfl, rfl⟩) (by assumption) ?_
        try simp only [Act.put, List.getElem_toArray, List.getElem_cons_succ, List.getElem_cons_zero, List.setIfInBounds_toArray, List.set_cons_zero, List.set_cons_succ]
        refine wpAnyE.take (i := 7) (v := undef) rfl (by kernel_rfl) (by kernel_rfl) (by kernel_rfl) (by kernel_rfl) (fun _ _ _ h => h) (Or.inr ⟨by rfl, rfl⟩) (by assumption) ?_
        try simp only [Act.put, List.getElem_toArray, List.getElem_cons_succ, List.getElem_cons_zero, List.setIfInBounds_toArray, List.set_cons_zero, List.set_cons_succ]
        refine wpAnyE.take (i := 8) (v := undef) rfl (by kernel_rfl) (by kernel_rfl) (by kernel_rfl) (by kernel_rfl) (fun _ _ _ h => h) (Or.inr ⟨by rfl, rfl⟩) (by assumption) ?_
        try simp only [Act.put, List.getElem_toArray, List.getElem_cons_succ, List.getElem_cons_zero, List.setIfInBounds_toArray, List.set_cons_zero, List.set_cons_succ]
        refine wpAnyE.take (i := 9) (v := undef) rfl (by kernel_rfl) (by kernel_rfl) (by kernel_rfl) (by kernel_rfl) (fun _ _ _ h => h) (Or.inr ⟨by rfl, rfl⟩) (by assumption) ?_
        try simp only [Act.put, List.getElem_toArray, List.getElem_cons_succ, List.getElem_cons_zero, List.setIfInBounds_toArray, List.set_cons_zero, List.set_cons_succ]
        refine wpAnyE.take (i := 10) (v := undef) rfl (by kernel_rfl) (by kernel_rfl) (by kernel_rfl) (by kernel_rfl) (fun _ _ _ h => h) (Or.inr ⟨by rfl, rfl⟩) (by assumption) ?_
        try simp only [Act.put, List.getElem_toArray, List.getElem_cons_succ, List.getElem_cons_zero, List.setIfInBounds_toArray, List.set_cons_zero, List.set_cons_succ]
        refine wpAnyE.take (i := 11) (v := undef) rfl (by kernel_rfl) (by kernel_rfl) (by kernel_rfl) (by kernel_rfl) (fun _ _ _ h => h) (Or.inr ⟨by rfl, rfl⟩) (by assumption) ?_
        try simp only [Act.put, List.getElem_toArray, List.getElem_cons_succ, List.getElem_cons_zero, List.setIfInBounds_toArray, List.set_cons_zero, List.set_cons_succ]
        refine wpAnyE.take (i := 12) (v := undef) rfl (by kernel_rfl) (by kernel_rfl) (by kernel_rfl) (by kernel_rfl) (fun _ _ _ h => h) (Or.inr ⟨by rfl, rfl⟩) (by assumption) ?_
        try simp only [Act.put, List.getElem_toArray, List.getElem_cons_succ, List.getElem_cons_zero, List.setIfInBounds_toArray, List.set_cons_zero, List.set_cons_succ]
        refine wpAnyE.take (i := 13) (v := undef) rfl (by kernel_rfl) (by kernel_rfl) (by kernel_rfl) (by kernel_rfl) (fun _ _ _ h => h) (Or.inr ⟨by rfl, rfl⟩) (by assumption) ?_
        try simp only [Act.put, List.getElem_toArray, List.getElem_cons_succ, List.getElem_cons_zero, List.setIfInBounds_toArray, List.set_cons_zero, List.set_cons_succ]
        refine wpAnyE.take (i := 14) (v := undef) rfl (by kernel_rfl) (by kernel_rfl) (by kernel_rfl) (by kernel_rfl) (fun _ _ _ h => h) (Or.inr ⟨by rfl, rfl⟩) (by assumption) ?_
        try simp only [Act.put, List.getElem_toArray, List.getElem_cons_succ, List.getElem_cons_zero, List.setIfInBounds_toArray, List.set_cons_zero, List.set_cons_succ]
        refine wpAnyE.take (i := 15) (v := ?_) rfl (by kernel_rfl) (by kernel_rfl) (by kernel_rfl) (by kernel_rfl) (fun _ _ _ h => h) (Or.inl ⟨by rfl, ?_⟩) (by assumption) ?_
        rotate_left
        · intro w hSw; obtain ⟨⟨z0, z1, z2⟩, z3⟩ := hSw; go_simp; with_reducible rfl
        try simp only [Act.put, List.getElem_toArray, List.getElem_cons_succ, List.getElem_cons_zero, List.setIfInBounds_toArray, List.set_cons_zero, List.set_cons_succ]
        refine wpAnyE.take (i := 16) (v := ?_) rfl (by kernel_rfl) (by kernel_rfl) (by kernel_rfl) (by kernel_rfl) (fun _ _ _ h => h) (Or.inl ⟨by rfl, ?_⟩) (by assumption) ?_
        rotate_left
        · intro w hSw; obtain ⟨⟨z0, z1, z2⟩, z3⟩ := hSw; go_simp; with_reducible rfl
        try simp only [Act.put, List.getElem_toArray, List.getElem_cons_succ, List.getElem_cons_zero, List.setIfInBounds_toArray, List.set_cons_zero, List.set_cons_succ]
        refine wpAnyE.done (by kernel_rfl) ?_
        clear hS x1D
        go_wp2
        go_roundw
        case rel => exact ⟨true, k + 1, rfl, by go_num, by omega, (show Hid _ from HMn.out.symm), hBD⟩
        case measure => simp [intOf]; omega
      | false =>
        refine wpAnyE.take (i := 0) (v := ?_) rfl (by kernel_rfl) (by kernel_rfl) (by kernel_rfl) (by kernel_rfl) (fun _ _ _ h => h) (Or.inl ⟨by rfl, ?_⟩) (by assumption) ?_
        rotate_left
        · intro w hSw; obtain ⟨⟨z0, z1, z2⟩, z3⟩ := hSw; go_simp; with_reducible rfl
        try simp only [Act.put, List.getElem_toArray, List.getElem_cons_zero, List.setIfInBounds_toArray, List.set_cons_zero, List.set_cons_succ]
        refine wpAnyE.take (i := 1) (v := ?_) rfl (by kernel_rfl) (by kernel_rfl) (by kernel_rfl) (by kernel_rfl) (fun _ _ _ h => h) (Or.inl ⟨by rfl, ?_⟩) (by assumption) ?_
        rotate_left
        · intro w hSw; obtain ⟨⟨z0, z1, z2⟩, z3⟩ := hSw; go_simp; with_reducible rfl
        try simp only [Act.put, List.getElem_toArray, List.getElem_cons_succ, List.getElem_cons_zero, List.setIfInBounds_toArray, List.set_cons_zero, List.set_cons_succ]
        refine wpAnyE.take (i := 2) (v := ?_) rfl (by kernel_rfl) (by kernel_rfl) (by kernel_rfl) (by kernel_rfl) (fun _ _ _ h => h) (Or.inl ⟨by rfl, ?_⟩) (by assumption) ?_
        rotate_left
        · intro w hSw; obtain ⟨⟨z0, z1, z2⟩, z3⟩ := hSw; go_simp; with_reducible rfl
        try simp only [Act.put, List.getElem_toArray, List.getElem_cons_succ, List.getElem_cons_zero, List.setIfInBounds_toArray, List.set_cons_zero, List.set_cons_succ]
        refine wpAnyE.take (i := 3) (v := ?_) rfl (by kernel_rfl) (by kernel_rfl) (by kernel_rfl) (by kernel_rfl) (fun _ _ _ h => h) (Or.inl ⟨by rfl, ?_⟩) (by assumption) ?_
        rotate_left
        · intro w hSw; obtain ⟨⟨z0, z1, z2⟩, z3⟩ := hSw; go_simp; with_reducible rfl
        try simp only [Act.put, List.getElem_toArray, List.getElem_cons_succ, List.getElem_cons_zero, List.setIfInBounds_toArray, List.set_cons_zero, List.set_cons_succ]
        refine wpAnyE.take (i := 4) (v := ?_) rfl (by kernel_rfl) (by kernel_rfl) (by kernel_rfl) (by kernel_rfl) (fun _ _ _ h => h) (Or.inl ⟨by rfl, ?_⟩) (by assumption) ?_
        rotate_left
        · intro w hSw; obtain ⟨⟨z0, z1, z2⟩, z3⟩ := hSw; go_simp; with_reducible rfl
        try simp only [Act.put, List.getElem_toArray, List.getElem_cons_succ, List.getElem_cons_zero, List.setIfInBounds_toArray, List.set_cons_zero, List.set_cons_succ]
        refine wpAnyE.take (i := 5) (v := ?_) rfl (by kernel_rfl) (by kernel_rfl) (by kernel_rfl) (by kernel_rfl) (fun _ _ _ h => h) (Or.inl ⟨by rfl, ?_⟩) (by assumption) ?_
        rotate_left
        · intro w hSw; obtain ⟨⟨z0, z1, z2⟩, z3⟩ := hSw; go_simp; with_reducible rfl
        try simp only [Act.put, List.getElem_toArray, List.getElem_cons_succ, List.getElem_cons_zero, List.setIfInBounds_toArray, List.set_cons_zero, List.set_cons_succ]
        refine wpAnyE.take (i := 6) (v := ?_) rfl (by kernel_rfl) (by kernel_rfl) (by kernel_rfl) (by kernel_rfl) (fun _ _ _ h => h) (Or.inl ⟨by rfl, ?_⟩) (by assumption) ?_
        rotate_left
        · intro w hSw; obtain ⟨⟨z0, z1, z2⟩, z3⟩ := hSw; go_simp; with_reducible rfl
        try simp only [Act.put, List.getElem_toArray, List.getElem_cons_succ, List.getElem_cons_zero, List.setIfInBounds_toArray, List.set_cons_zero, List.set_cons_succ]
        refine wpAnyE.take (i := 7) (v := ?_) rfl (by kernel_rfl) (by kernel_rfl) (by kernel_rfl) (by kernel_rfl) (fun _ _ _ h => h) (Or.inl ⟨by rfl, ?_⟩) (by assumption) ?_
        rotate_left
        · intro w hSw; obtain ⟨⟨z0, z1, z2⟩, z3⟩ := hSw; go_simp; with_reducible rfl
        try simp only [Act.put, List.getElem_toArray, List.getElem_cons_succ, List.getElem_cons_zero, List.setIfInBounds_toArray, List.set_cons_zero, List.set_cons_succ]
        refine wpAnyE.take (i := 8) (v := ?_) rfl (by kernel_rfl) (by kernel_rfl) (by kernel_rfl) (by kernel_rfl) (fun _ _ _ h => h) (Or.inl ⟨by rfl, ?_⟩) (by assumption) ?_
        rotate_left
        · intro w hSw; obtain ⟨⟨z0, z1, z2⟩, z3⟩ := hSw; go_simp; with_reducible rfl
        try simp only [Act.put, List.getElem_toArray, List.getElem_cons_succ, List.getElem_cons_zero, List.setIfInBounds_toArray, List.set_cons_zero, List.set_cons_succ]
        refine wpAnyE.take (i := 9) (v := ?_) rfl (by kernel_rfl) (by kernel_rfl) (by kernel_rfl) (by kernel_rfl) (fun _ _ _ h => h) (Or.inl ⟨by rfl, ?_⟩) (by assumption) ?_
        rotate_left
        · intro w hSw; obtain ⟨⟨z0, z1, z2⟩, z3⟩ := hSw; go_simp; with_reducible rfl
        try simp only [Act.put, List.getElem_toArray, List.getElem_cons_succ, List.getElem_cons_zero, List.setIfInBounds_toArray, List.set_cons_zero, List.set_cons_succ]
        refine wpAnyE.take (i := 10) (v := ?_) rfl (by kernel_rfl) (by kernel_rfl) (by kernel_rfl) (by kernel_rfl) (fun _ _ _ h => h) (Or.inl ⟨by rfl, ?_⟩) (by assumption) ?_
        rotate_left
        · intro w hSw; obtain ⟨⟨z0, z1, z2⟩, z3⟩ := hSw; go_simp; with_reducible rfl
        try simp only [Act.put, List.getElem_toArray, List.getElem_cons_succ, List.getElem_cons_zero, List.setIfInBounds_toArray, List.set_cons_zero, List.set_cons_succ]
        refine wpAnyE.take (i := 11) (v := ?_) rfl (by kernel_rfl) (by kernel_rfl) (by kernel_rfl) (by kernel_rfl) (fun _ _ _ h => h) (Or.inl ⟨by rfl, ?_⟩) (by assumption) ?_
        rotate_left
        · intro w hSw; obtain ⟨⟨z0, z1, z2⟩, z3⟩ := hSw; go_simp; with_reducible rfl
        try simp only [Act.put, List.getElem_toArray, List.getElem_cons_succ, List.getElem_cons_zero, List.setIfInBounds_toArray, List.set_cons_zero, List.set_cons_succ]
        refine wpAnyE.take (i := 12) (v := ?_) rfl (by kernel_rfl) (by kernel_rfl) (by kernel_rfl) (by kernel_rfl) (fun _ _ _ h => h) (Or.inl ⟨by rfl, ?_⟩) (by assumption) ?_
        rotate_left
        · intro w hSw; obtain ⟨⟨z0, z1, z2⟩, z3⟩ := hSw; go_simp; with_reducible rfl
        try simp only [Act.put, List.getElem_toArray, List.getElem_cons_succ, List.getElem_cons_zero, List.setIfInBounds_toArray, List.set_cons_zero, List.set_cons_succ]
        refine wpAnyE.take (i := 13) (v := ?_) rfl (by kernel_rfl) (by kernel_rfl) (by kernel_rfl) (by kernel_rfl) (fun _ _ _ h => h) (Or.inl ⟨by rfl, ?_⟩) (by assumption) ?_
        rotate_left
        · intro w hSw; obtain ⟨⟨z0, z1, z2⟩, z3⟩ := hSw; go_simp; with_reducible rfl
        try simp only [Act.put, List.getElem_toArray, List.getElem_cons_succ, List.getElem_cons_zero, List.setIfInBounds_toArray, List.set_cons_zero, List.set_cons_succ]
        refine wpAnyE.take (i := 14) (v := ?_) rfl (by kernel_rfl) (by kernel_rfl) (by kernel_rfl) (by kernel_rfl) (fun _ _ _ h => h) (Or.inl ⟨by rfl, ?_⟩) (by assumption) ?_
        rotate_left
        · intro w hSw; obtain ⟨⟨z0, z1, z2⟩, z3⟩ := hSw; go_simp; with_reducible rfl
        try simp only [Act.put, List.getElem_toArray, List.getElem_cons_succ, List.getElem_cons_zero, List.setIfInBounds_toArray, List.set_cons_zero, List.set_cons_succ]
        refine wpAnyE.take (i := 15) (v := ?_) rfl (by kernel_rfl) (by kernel_rfl) (by kernel_rfl) (by kernel_rfl) (fun _ _ _ h => h) (Or.inl ⟨by rfl, ?_⟩) (by assumption) ?_
        rotate_left
        · intro w hSw; obtain ⟨⟨z0, z1, z2⟩, z3⟩ := hSw; go_simp; with_reducible rfl
        try simp only [Act.put, List.getElem_toArray, List.getElem_cons_succ, List.getElem_cons_zero, List.setIfInBounds_toArray, List.set_cons_zero, List.set_cons_succ]
        refine wpAnyE.take (i := 16) (v := ?_) rfl (by kernel_rfl) (by kernel_rfl) (by kernel_rfl) (by kernel_rfl) (fun _ _ _ h => h) (Or.inl ⟨by rfl, ?_⟩) (by assumption) ?_
        rotate_left
        · intro w hSw; obtain ⟨⟨z0, z1, z2⟩, z3⟩ := hSw; go_simp; with_reducible rfl
        try simp only [Act.put, List.getElem_toArray, List.getElem_cons_succ, List.getElem_cons_zero, List.setIfInBounds_toArray, List.set_cons_zero, List.set_cons_succ]
        refine wpAnyE.done (by kernel_rfl) ?_
        clear hS x1D
        have HMv : Hid (movedB (us.take (k + 1)) = (x.old != x.new)) := by unfold Hid; rw [HMn.out]; rfl
        generalize (x.old != x.new) = mw at *
        go_wp2
        go_roundw
        case rel => exact ⟨mw, k + 1, rfl, by go_num, by omega, HMv.out.symm, hBD⟩
        case measure => simp [intOf]; omega
    · obtain rfl : k = us.length := by omega
      have HMv : Hid (mv = movedB us) := by unfold Hid; rw [HM.out, List.take_of_length_le (Nat.le_refl _)]
      have hk16 := (hBr.block _ (heap_lt hk15)).trans hk15
      have hk26 := (hBr.block _ (heap_lt hk25)).trans hk25
      have hS16 := hS15.below hBr
      have hL16 := hL15.below hBr
      clear HM hk hBr hk15 hk25 y0 y1 y2 x1 hS15 hR15 hL15 hB5
      obtain ⟨y0, y1, y2⟩ := c3_of hk26
      obtain ⟨r0, r1, r2, r3, r4, r5, r6⟩ := c7_of hk16
      have htr := try_any a3 c3 T al cl l 0 0 none 0 0 none 0 0 false none 0 [] au cu us f wr (hg.below hBw) hS16 hT40 (hl.below hBw) hll (fun i hi => by simp at hi) (by simp) (hu.below hBw) hul
      go_wp2_with fail
      refine htr.mono ?_
      clear htr
      rintro e w7 ⟨hb7, ⟨hno, -⟩ | ⟨-, a7, c7, a8, c8, rfl, hS7, -, hL7⟩⟩
      case inl => exact absurd HBare.out.1 hno
      rw [HBare.out.2] at hS7
      rw [← HL.out] at hL7
      rw [HBare.out.2, ← HL.out]
      have hB7 := hBw.trans (hb7.mono hBw.size)
      have hk27 := (hb7.block _ (heap_lt hk26)).trans hk26
      have hS17 := hS16.below hb7
      have hL17 := hL16.below hb7
      clear hb7 hBw hk16 hk26 y0 y1 y2 r0 r1 r2 r3 r4 r5 r6 hS16 hL16
      obtain ⟨y0, y1, y2⟩ := c3_of hk27
      have htr := try_any a3 c3 T a4 c4 L 0 0 none 0 0 none 0 0 false am cm m au cu us f w7 (hg.below hB7) hS17 hT40 hL17 hL8 (hm.below hB7) hml (hu.below hB7) hul
      go_wp2_with fail
      refine htr.mono ?_
      clear htr
      rintro e w8 ⟨hb8, hpost⟩
      have hB8 := hB7.trans (hb8.mono hB7.size)
      have hS18 := hS17.below hb8
      have hL18 := hL17.below hb8
      have hS78 := hS7.below hb8
      have hL78 := hL7.below hb8
      clear hb8 hB7 hk27 y0 y1 y2 hS17 hL17 hS7 hL7
      obtain ⟨t0, t1, ge, rfl, hge⟩ : ∃ (t0 t1 : Option Addr × Nat × Nat) (ge : Int), e = .returned (.tuple #[.slice t0.1 t0.2.1 t0.2.2, .slice t1.1 t1.2.1 t1.2.2, .int .i64 ge]) ∧ (mv = true → ge = 4) := by
        rcases hpost with ⟨_, q⟩ | ⟨hz, a', c', b', d', q, _⟩
        · exact ⟨(none, 0, 0), (none, 0, 0), _, q, fun e => HAgain.out (by rw [← HMv.out]; exact e)⟩
        · exact ⟨(a', _, c'), (b', _, d'), _, q, fun e => by have := HAgain.out (by rw [← HMv.out]; exact e); omega⟩
      clear hpost
      go_wp2_with fail
      refine (sameStore_refl a7 c7 a3 c3 T w8 hS78 hS18 hT40).mono ?_
      rintro e w9 ⟨rfl, hb9⟩
      have hB9 := hB8.trans (hb9.mono hB8.size)
      have hL19 := hL18.below hb9
      have hL79 := hL78.below hb9
      clear hb9 hB8 hS18 hS78 hL18 hL78
      go_wp2_with fail
      refine (sameRefs_eq a8 c8 a4 c4 L w9 hL79 hL19 hL8).mono ?_
      rintro e w10 ⟨rfl, hb10⟩
      have hB10 := hB9.trans (hb10.mono hB9.size)
      clear hb10 hB9 hL19 hL79
      cases mv with
      | true =>
        have zg : (ge == 4) = true := by rw [hge rfl]; rfl
        clear hge
        go_wp2
        go_ret
        exact ⟨rfl, hB10⟩
      | false =>
        clear hge
        go_wp2
        go_ret
        exact ⟨rfl, hB10⟩
end Go.Proofs.YtgkmoehbjdmefaaGreatDoor
