import Derived.Test.YtehmlpkapjdhkaaGreatDoorML3
namespace Go.Proofs.YtehmlpkapjdhkaaGreatDoor
section
open Go.RowKit
set_option maxRecDepth 100000

/-- all blocks of w but one are as they were. -/
def KpB (B : Nat) (w w' : World) : Prop := w.heap.size ≤ w'.heap.size ∧ ∀ j, j < w.heap.size → j ≠ B → w'.heap[j]? = w.heap[j]?
theorem KpB.refl (B : Nat) (w : World) : KpB B w w := ⟨Nat.le_refl _, fun _ _ _ => rfl⟩
theorem KpB.below {B : Nat} {w w1 w2 : World} (h : KpB B w w1) (hb : Below w1.heap.size w1 w2) : KpB B w w2 :=
  ⟨Nat.le_trans h.1 hb.size, fun j hj hn => (hb.block j (Nat.lt_of_lt_of_le hj h.1)).trans (h.2 j hj hn)⟩

set_option maxHeartbeats 8000000 in
theorem finish_lead (w0 : World) (L B off cap : Nat) (Q : Nat → Rq) (V : Nat → ByteArray) (C : Nat → Bool) (pd pf : Nat) (w : World) (hg : Glob w0) (hb0 : Below w0.heap.size w0 w) (hd : Ld w w0.heap.size L B off cap Q V)
    (hcl : ∀ (i : Nat) (W : World), i < 3 → KpB B w W → Calls Tryz.prog 51 #[.int .i64 i, .pointer (some ⟨pd, 0, none⟩), .pointer (some ⟨pf, 0, none⟩)] W (fun e w' => e = .returned (.bool (C i)) ∧ Below W.heap.size W w')) :
    Calls Tryz.prog 50 #[.pointer (some ⟨L, 0, none⟩), .func (.func 51) #[] #[.pointer (some ⟨pd, 0, none⟩), .pointer (some ⟨pf, 0, none⟩)]] w fun e w' => e = .returned (.int .i64 (fstE (fun i => finV (Q i).r (V i) (C i)))) ∧ Below w0.heap.size w0 w' ∧ KpB B w w' ∧
      (fstE (fun i => finV (Q i).r (V i) (C i)) = 0 → ∃ Q', Ld w' w0.heap.size L B off cap Q' V ∧ ∀ i, i < 3 → (Q' i).r = finR (Q i).r (V i) (C i)) := by
  have yh := hd.head
  have hLw := hd.ltL
  have hBw := hd.ltB
  obtain ⟨PO, HPO⟩ : ∃ P : Ending → World → Prop, Hid (∀ e w', P e w' ↔ (e = .returned (.int .i64 (fstE (fun i => finV (Q i).r (V i) (C i)))) ∧ Below w0.heap.size w0 w' ∧ KpB B w w' ∧
      (fstE (fun i => finV (Q i).r (V i) (C i)) = 0 → ∃ Q', Ld w' w0.heap.size L B off cap Q' V ∧ ∀ i, i < 3 → (Q' i).r = finR (Q i).r (V i) (C i)))) := ⟨_, fun _ _ => Iff.rfl⟩
  suffices hm : Calls Tryz.prog 50 #[.pointer (some ⟨L, 0, none⟩), .func (.func 51) #[] #[.pointer (some ⟨pd, 0, none⟩), .pointer (some ⟨pf, 0, none⟩)]] w PO from hm.mono (fun e w' h => (HPO.out e w').1 h)
  go_enter Tryz.func50, Tryz.ntmps50
  go_wp2_with fail
  go_loopw [15] (fun i wr => ∃ (k : Nat) (Qk : Nat → Rq), i = .int .i64 k ∧ k ≤ 3 ∧ Below w0.heap.size w0 wr ∧ Ld wr w0.heap.size L B off cap Qk V ∧ KpB B w wr ∧ Hid (∀ i, i < 3 → i < k → (Qk i).r = finR (Q i).r (V i) (C i)) ∧ Hid (∀ i, i < 3 → k ≤ i → Qk i = Q i) ∧ Hid (∀ i, i < k → finV (Q i).r (V i) (C i) = 0)) (fun i _ => 3 - (intOf i).toNat)
  case atStart => exact ⟨0, Q, rfl, Nat.zero_le _, hb0, hd, KpB.refl _ _, fun i _ h => absurd h (Nat.not_lt_zero _), fun i _ _ => rfl, fun i h => absurd h (Nat.not_lt_zero _)⟩
  case round =>
    clear hd hb0 yh
    obtain ⟨k, Qk, rfl, hk, HB, HL, HK, HI, HJ, HZ⟩ := hrel
    by_cases hlt : k < 3
    · have hlt' : (k : Int) < 3 := by omega
      obtain ⟨x0, x1, x2, x3, x4, x5, x6⟩ := HL.row k hlt
      have HQ : Hid (Qk k = Q k) := HJ.out k hlt (Nat.le_refl _)
      have hA := below_alloc wr (Qk k).blk
      have hn0 := heap_alloc_new wr (Qk k).blk
      have HB1 := HB.trans (hA.mono HB.size)
      have HL1 := HL.below hA
      have HK1 := HK.below hA
      have hwr : w.heap.size ≤ wr.heap.size := HK.1
      have yv := HL1.vote k hlt
      obtain ⟨z0, z1, z2, z3, z4, z5, z6⟩ := c7_of hn0
      have hLr := HL.ltL
      have hBr := HL.ltB
      clear HL HB HK hA
      cases hv : (V k).toList.isEmpty with
      | true =>
        have HN : Hid (∃ (k' : Nat) (Qk' : Nat → Rq), Value.int .i64 ((k : Int) + 1) = .int .i64 k' ∧ k' ≤ 3 ∧ Below w0.heap.size w0 (wr.alloc (Qk k).blk) ∧ Ld (wr.alloc (Qk k).blk) w0.heap.size L B off cap Qk' V ∧ KpB B w (wr.alloc (Qk k).blk) ∧ Hid (∀ i, i < 3 → i < k' → (Qk' i).r = finR (Q i).r (V i) (C i)) ∧ Hid (∀ i, i < 3 → k' ≤ i → Qk' i = Q i) ∧ Hid (∀ i, i < k' → finV (Q i).r (V i) (C i) = 0)) := by
          refine ⟨k + 1, Qk, by simp, by omega, HB1, HL1, HK1, fun i hi hik => ?_, fun i hi hik => HJ.out i hi (by omega), fun i hik => ?_⟩
          · by_cases e : i = k
            · subst e; rw [HQ.out]; unfold finR; rw [if_pos hv]
            · exact HI.out i hi (by omega)
          · by_cases e : i = k
            · subst e; unfold finV; rw [if_pos hv]
            · exact HZ.out i (by omega)
        go_wp2
        go_roundw
        case rel => exact HN.out
        case measure => simp [intOf]; omega
      | false =>
      have HV : Hid (((V k).toList.isEmpty) = false) := hv
      go_upto_region 5 with fail
      generalize hWd : wr.alloc (Qk k).blk = W at *
      clear hWd x0 x1 x2 x3 x4 x5 x6 z0 z1 z2 z3 z4 z5 z6 yv hv
      go_cut [7, 8] from 16 to 46 (fun s7 s8 wx => Below W.heap.size W wx ∧ ∃ p, s7 = .pointer (some ⟨p, 0, none⟩) ∧ W.heap.size ≤ p ∧ ((finE (Qk k).r.s (Qk k).r.l (Qk k).r.g (Qk k).r.ph (Qk k).r.m (Qk k).r.us (Qk k).r.f (C k) ≠ 0 ∧ s8 = .int .i64 (finE (Qk k).r.s (Qk k).r.l (Qk k).r.g (Qk k).r.ph (Qk k).r.m (Qk k).r.us (Qk k).r.f (C k))) ∨ (finE (Qk k).r.s (Qk k).r.l (Qk k).r.g (Qk k).r.ph (Qk k).r.m (Qk k).r.us (Qk k).r.f (C k) = 0 ∧ s8 = .int .i64 0 ∧ ∃ q : Rq, Hid (q.r = ⟨finS (Qk k).r.s (Qk k).r.m (C k), finL (Qk k).r.l (Qk k).r.us (C k), finG (Qk k).r.g (C k), 0, [], [], false⟩) ∧ wx.heap[p]? = some q.blk ∧ Away wx w0.heap.size (fun j => j = B ∨ j = L) q)))
      case first =>
        have hdr := below_refl_drew W
        have hS0 : (W.drew.cell? ⟨wr.heap.size, 0, none⟩ = some (.slice (Qk k).aS (Qk k).r.s.length (Qk k).cs) ∧ W.drew.cell? ⟨wr.heap.size, 1, none⟩ = some (.slice (Qk k).al (Qk k).r.l.length (Qk k).cl) ∧ W.drew.cell? ⟨wr.heap.size, 2, none⟩ = some (.int .i64 (Qk k).r.g) ∧ W.drew.cell? ⟨wr.heap.size, 3, none⟩ = some (.int .i64 (Qk k).r.ph) ∧ W.drew.cell? ⟨wr.heap.size, 4, none⟩ = some (.slice (Qk k).a1 (Qk k).r.m.length (Qk k).c1) ∧ W.drew.cell? ⟨wr.heap.size, 5, none⟩ = some (.slice (Qk k).a2 (Qk k).r.us.length (Qk k).c2) ∧ W.drew.cell? ⟨wr.heap.size, 6, none⟩ = some (.bool (Qk k).r.f)) := c7_of (show W.drew.heap[wr.heap.size]? = some (Qk k).blk from hn0)
        refine wp_region_E (fun W => (W.cell? ⟨wr.heap.size, 0, none⟩ = some (.slice (Qk k).aS (Qk k).r.s.length (Qk k).cs) ∧ W.cell? ⟨wr.heap.size, 1, none⟩ = some (.slice (Qk k).al (Qk k).r.l.length (Qk k).cl) ∧ W.cell? ⟨wr.heap.size, 2, none⟩ = some (.int .i64 (Qk k).r.g) ∧ W.cell? ⟨wr.heap.size, 3, none⟩ = some (.int .i64 (Qk k).r.ph) ∧ W.cell? ⟨wr.heap.size, 4, none⟩ = some (.slice (Qk k).a1 (Qk k).r.m.length (Qk k).c1) ∧ W.cell? ⟨wr.heap.size, 5, none⟩ = some (.slice (Qk k).a2 (Qk k).r.us.length (Qk k).c2) ∧ W.cell? ⟨wr.heap.size, 6, none⟩ = some (.bool (Qk k).r.f))) (fun _ => false) (by kernel_rfl) hS0 (fun hS => ?_)
        generalize W.drew = W1 at *
        have kr : W1.heap[wr.heap.size]? = some (Qk k).blk := (hdr.block _ (heap_lt hn0)).trans hn0
        have HB2 := HB1.trans (hdr.mono HB1.size)
        have HL2 := HL1.below hdr
        have HK2 := HK1.below hdr
        have hWW : W.heap.size ≤ W1.heap.size := hdr.size
        have hrW := heap_lt kr
        clear hS0 HB1 HL1 HK1 hn0
        have hb1 := Below.refl W1.heap.size W1
        refine wpAnyE.take (i := 0) (v := ?_) rfl (by kernel_rfl) (by kernel_rfl) (by kernel_rfl) (by kernel_rfl) (fun _ _ _ h => h) (Or.inl ⟨by rfl, ?_⟩) (by assumption) ?_
        rotate_left
        · intro w hSw; obtain ⟨r0, r1, r2, r3, r4, r5, r6⟩ := hSw; go_simp; with_reducible rfl
        try simp only [Act.put, List.getElem_toArray, List.getElem_cons_zero, List.setIfInBounds_toArray, List.set_cons_zero, List.set_cons_succ]
        refine wpAnyE.take (i := 1) (v := ?_) rfl (by kernel_rfl) (by kernel_rfl) (by kernel_rfl) (by kernel_rfl) (fun _ _ _ h => h) (Or.inl ⟨by rfl, ?_⟩) (by assumption) ?_
        rotate_left
        · intro w hSw; obtain ⟨r0, r1, r2, r3, r4, r5, r6⟩ := hSw; go_simp; with_reducible rfl
        try simp only [Act.put, List.getElem_toArray, List.getElem_cons_succ, List.getElem_cons_zero, List.setIfInBounds_toArray, List.set_cons_zero, List.set_cons_succ]
        refine wpAnyE.take (i := 2) (v := ?_) rfl (by kernel_rfl) (by kernel_rfl) (by kernel_rfl) (by kernel_rfl) (fun _ _ _ h => h) (Or.inl ⟨by rfl, ?_⟩) (by assumption) ?_
        rotate_left
        · intro w hSw; obtain ⟨r0, r1, r2, r3, r4, r5, r6⟩ := hSw; go_simp; with_reducible rfl
        try simp only [Act.put, List.getElem_toArray, List.getElem_cons_succ, List.getElem_cons_zero, List.setIfInBounds_toArray, List.set_cons_zero, List.set_cons_succ]
        refine wpAnyE.two (i := 3) (j := 8) (by kernel_rfl) rfl rfl (fun K hK => ?_) (fun K hK => ?_)
        · go_simp
          refine (hcl k W1 hlt (HK2.below hb1)).mono ?_
          rintro e W2 ⟨rfl, h⟩
          have hb2 := hb1.trans (h.mono hb1.size)
          have hk2 : ∀ j, j < W1.heap.size → W2.heap[j]? = W1.heap[j]? := fun j hj => h.block j hj
          have hz2 := h.size
          clear h
          refine hK _ _ (fun _ => (c7_of ((hb2.block _ hrW).trans kr))) ?_
          clear hK K
          try simp only [Act.put, List.getElem_toArray, List.getElem_cons_succ, List.getElem_cons_zero, List.setIfInBounds_toArray, List.set_cons_zero, List.set_cons_succ]
          refine wpAnyE.two (i := 4) (j := 8) (by kernel_rfl) rfl rfl (fun K hK => ?_) (fun K hK => ?_)
          · go_simp
            refine (finish_any (Qk k).aS (Qk k).cs (Qk k).r.s (Qk k).al (Qk k).cl (Qk k).r.l (Qk k).r.g (Qk k).r.ph (Qk k).a1 (Qk k).c1 (Qk k).r.m (Qk k).a2 (Qk k).c2 (Qk k).r.us (Qk k).r.f (C k) W2 (hg.below (HB2.trans (hb2.mono HB2.size))) ((HL2.each k hlt).below hb2).self).mono ?_
            rintro e W3 ⟨h, hpost⟩
            have hb3 := hb2.trans (h.mono hb2.size)
            have hk3 : ∀ j, j < W2.heap.size → W3.heap[j]? = W2.heap[j]? := fun j hj => h.block j hj
            have hz3 := h.size
            clear h
            have hbz : W1.heap.size ≤ W2.heap.size := hb2.size
            rcases hpost with ⟨hne, rfl⟩ | ⟨hz, b0, d0, b1, d1, b2, d2, b3, d3, rfl, F⟩
            · refine hK _ _ (fun _ => (c7_of ((hb3.block _ hrW).trans kr))) ?_
              clear hK K
              try simp only [Act.put, List.getElem_toArray, List.getElem_cons_succ, List.getElem_cons_zero, List.setIfInBounds_toArray, List.set_cons_zero, List.set_cons_succ]
              refine wpAnyE.take (i := 5) (v := ?_) rfl (by kernel_rfl) (by kernel_rfl) (by kernel_rfl) (by kernel_rfl) (fun _ _ _ h => h) (Or.inl ⟨by rfl, ?_⟩) (c7_of ((hb3.block _ hrW).trans kr)) ?_
              rotate_left
              · intro w hSw; obtain ⟨r0, r1, r2, r3, r4, r5, r6⟩ := hSw; go_simp; with_reducible rfl
              try simp only [Act.put, List.getElem_toArray, List.getElem_cons_succ, List.getElem_cons_zero, List.setIfInBounds_toArray, List.set_cons_zero, List.set_cons_succ]
              refine wpAnyE.take (i := 6) (v := ?_) rfl (by kernel_rfl) (by kernel_rfl) (by kernel_rfl) (by kernel_rfl) (fun _ _ _ h => h) (Or.inl ⟨by rfl, ?_⟩) (c7_of ((hb3.block _ hrW).trans kr)) ?_
              rotate_left
              · intro w hSw; obtain ⟨r0, r1, r2, r3, r4, r5, r6⟩ := hSw; go_simp; with_reducible rfl
              try simp only [Act.put, List.getElem_toArray, List.getElem_cons_succ, List.getElem_cons_zero, List.setIfInBounds_toArray, List.set_cons_zero, List.set_cons_succ]
              refine wpAnyE.take (i := 7) (v := ?_) rfl (by kernel_rfl) (by kernel_rfl) (by kernel_rfl) (by kernel_rfl) (fun _ _ _ h => h) (Or.inl ⟨by rfl, ?_⟩) (c7_of ((hb3.block _ hrW).trans kr)) ?_
              rotate_left
              · intro w hSw; obtain ⟨r0, r1, r2, r3, r4, r5, r6⟩ := hSw; go_simp; with_reducible rfl
              try simp only [Act.put, List.getElem_toArray, List.getElem_cons_succ, List.getElem_cons_zero, List.setIfInBounds_toArray, List.set_cons_zero, List.set_cons_succ]
              refine wpAnyE.one (i := 8) (by kernel_rfl) rfl (fun K hK => ?_)
              have h := below_alloc W3 zero28
              have hba := below_alloc W3 zero28
              have kp4 := heap_alloc_new W3 zero28
              have hb4 := hb3.trans (h.mono hb3.size)
              have hk4 : ∀ j, j < W3.heap.size → (W3.alloc zero28).heap[j]? = W3.heap[j]? := fun j hj => h.block j hj
              have hz4 := h.size
              clear h
              go_simp
              refine hK _ _ (fun _ => (c7_of ((hb4.block _ hrW).trans kr))) ?_
              clear hK K
              try simp only [Act.put, List.getElem_toArray, List.getElem_cons_succ, List.getElem_cons_zero, List.setIfInBounds_toArray, List.set_cons_zero, List.set_cons_succ]
              generalize W3.alloc zero28 = W4 at *
              have hpW : W1.heap.size ≤ W3.heap.size := hb3.size
              refine wpAnyE.one (i := 9) (by kernel_rfl) rfl (fun K hK => ?_)
              obtain ⟨o0, o1, o2, o3, o4, o5, o6⟩ := c7_of kp4
              have fz0 := f_of (o := 0) kp4
              have fz1 := f_of (o := 1) kp4
              have fz2 := f_of (o := 2) kp4
              have fz3 := f_of (o := 3) kp4
              have fz4 := f_of (o := 4) kp4
              have fz5 := f_of (o := 5) kp4
              have fz6 := f_of (o := 6) kp4
              obtain ⟨s1, s2, s3⟩ := set7_block W4 W3.heap.size 36 (.slice none 0 0) (.slice none 0 0) (.int .i64 0) (.int .i64 0) (.slice none 0 0) (.slice none 0 0) (.bool false) kp4
              have hbs := hb4.trans (s2.mono hpW)
              have hSs := (c7_of ((hbs.block _ hrW).trans kr))
              go_simp
              refine hK _ _ (fun _ => hSs) ?_
              clear hK K
              try simp only [Act.put, List.getElem_toArray, List.getElem_cons_succ, List.getElem_cons_zero, List.setIfInBounds_toArray, List.set_cons_zero, List.set_cons_succ]
              refine wpAnyE.one (i := 10) (by kernel_rfl) rfl (fun K hK => ?_)
              go_simp
              refine hK _ _ (fun _ => hSs) ?_
              clear hK K
              try simp only [Act.put, List.getElem_toArray, List.getElem_cons_succ, List.getElem_cons_zero, List.setIfInBounds_toArray, List.set_cons_zero, List.set_cons_succ]
              refine wpAnyE.done (by kernel_rfl) ?_
              have HF : Hid (Below W.heap.size W (((((((W4.setCell ⟨W3.heap.size, 0, none⟩ (.slice none 0 0)).setCell ⟨W3.heap.size, 1, none⟩ (.slice none 0 0)).setCell ⟨W3.heap.size, 2, none⟩ (.int .i64 0)).setCell ⟨W3.heap.size, 3, none⟩ (.int .i64 0)).setCell ⟨W3.heap.size, 4, none⟩ (.slice none 0 0)).setCell ⟨W3.heap.size, 5, none⟩ (.slice none 0 0)).setCell ⟨W3.heap.size, 6, none⟩ (.bool false))) := hdr.trans (hbs.mono hWW)
              have HE : Hid (finE (Qk k).r.s (Qk k).r.l (Qk k).r.g (Qk k).r.ph (Qk k).r.m (Qk k).r.us (Qk k).r.f (C k) ≠ 0) := hne
              go_wp2
              go_meet
              case rel => exact ⟨HF.out, W3.heap.size, rfl, by omega, Or.inl ⟨HE.out, rfl⟩⟩
            · refine hK _ _ (fun _ => (c7_of ((hb3.block _ hrW).trans kr))) ?_
              clear hK K
              try simp only [Act.put, List.getElem_toArray, List.getElem_cons_succ, List.getElem_cons_zero, List.setIfInBounds_toArray, List.set_cons_zero, List.set_cons_succ]
              refine wpAnyE.take (i := 5) (v := ?_) rfl (by kernel_rfl) (by kernel_rfl) (by kernel_rfl) (by kernel_rfl) (fun _ _ _ h => h) (Or.inl ⟨by rfl, ?_⟩) (c7_of ((hb3.block _ hrW).trans kr)) ?_
              rotate_left
              · intro w hSw; obtain ⟨r0, r1, r2, r3, r4, r5, r6⟩ := hSw; go_simp; with_reducible rfl
              try simp only [Act.put, List.getElem_toArray, List.getElem_cons_succ, List.getElem_cons_zero, List.setIfInBounds_toArray, List.set_cons_zero, List.set_cons_succ]
              refine wpAnyE.take (i := 6) (v := ?_) rfl (by kernel_rfl) (by kernel_rfl) (by kernel_rfl) (by kernel_rfl) (fun _ _ _ h => h) (Or.inl ⟨by rfl, ?_⟩) (c7_of ((hb3.block _ hrW).trans kr)) ?_
              rotate_left
              · intro w hSw; obtain ⟨r0, r1, r2, r3, r4, r5, r6⟩ := hSw; go_simp; with_reducible rfl
              try simp only [Act.put, List.getElem_toArray, List.getElem_cons_succ, List.getElem_cons_zero, List.setIfInBounds_toArray, List.set_cons_zero, List.set_cons_succ]
              refine wpAnyE.take (i := 7) (v := ?_) rfl (by kernel_rfl) (by kernel_rfl) (by kernel_rfl) (by kernel_rfl) (fun _ _ _ h => h) (Or.inl ⟨by rfl, ?_⟩) (c7_of ((hb3.block _ hrW).trans kr)) ?_
              rotate_left
              · intro w hSw; obtain ⟨r0, r1, r2, r3, r4, r5, r6⟩ := hSw; go_simp; with_reducible rfl
              try simp only [Act.put, List.getElem_toArray, List.getElem_cons_succ, List.getElem_cons_zero, List.setIfInBounds_toArray, List.set_cons_zero, List.set_cons_succ]
              refine wpAnyE.one (i := 8) (by kernel_rfl) rfl (fun K hK => ?_)
              have h := below_alloc W3 zero28
              have hba := below_alloc W3 zero28
              have kp4 := heap_alloc_new W3 zero28
              have hb4 := hb3.trans (h.mono hb3.size)
              have hk4 : ∀ j, j < W3.heap.size → (W3.alloc zero28).heap[j]? = W3.heap[j]? := fun j hj => h.block j hj
              have hz4 := h.size
              clear h
              go_simp
              refine hK _ _ (fun _ => (c7_of ((hb4.block _ hrW).trans kr))) ?_
              clear hK K
              try simp only [Act.put, List.getElem_toArray, List.getElem_cons_succ, List.getElem_cons_zero, List.setIfInBounds_toArray, List.set_cons_zero, List.set_cons_succ]
              generalize W3.alloc zero28 = W4 at *
              have hpW : W1.heap.size ≤ W3.heap.size := hb3.size
              refine wpAnyE.one (i := 9) (by kernel_rfl) rfl (fun K hK => ?_)
              obtain ⟨o0, o1, o2, o3, o4, o5, o6⟩ := c7_of kp4
              have fz0 := f_of (o := 0) kp4
              have fz1 := f_of (o := 1) kp4
              have fz2 := f_of (o := 2) kp4
              have fz3 := f_of (o := 3) kp4
              have fz4 := f_of (o := 4) kp4
              have fz5 := f_of (o := 5) kp4
              have fz6 := f_of (o := 6) kp4
              obtain ⟨s1, s2, s3⟩ := set7_block W4 W3.heap.size 36 (.slice b0 (finS (Qk k).r.s (Qk k).r.m (C k)).length d0) (.slice b1 (finL (Qk k).r.l (Qk k).r.us (C k)).length d1) (.int .i64 (finG (Qk k).r.g (C k))) (.int .i64 0) (.slice b2 0 d2) (.slice b3 0 d3) (.bool false) kp4
              have hbs := hb4.trans (s2.mono hpW)
              have hSs := (c7_of ((hbs.block _ hrW).trans kr))
              go_simp
              refine hK _ _ (fun _ => hSs) ?_
              clear hK K
              try simp only [Act.put, List.getElem_toArray, List.getElem_cons_succ, List.getElem_cons_zero, List.setIfInBounds_toArray, List.set_cons_zero, List.set_cons_succ]
              refine wpAnyE.one (i := 10) (by kernel_rfl) rfl (fun K hK => ?_)
              go_simp
              refine hK _ _ (fun _ => hSs) ?_
              clear hK K
              try simp only [Act.put, List.getElem_toArray, List.getElem_cons_succ, List.getElem_cons_zero, List.setIfInBounds_toArray, List.set_cons_zero, List.set_cons_succ]
              refine wpAnyE.done (by kernel_rfl) ?_
              have FSx := Away.fresh (w := _) (z := w0.heap.size) (z' := W2.heap.size) (P := fun j => j = B ∨ j = L) (q := ⟨⟨finS (Qk k).r.s (Qk k).r.m (C k), finL (Qk k).r.l (Qk k).r.us (C k), finG (Qk k).r.g (C k), 0, [], [], false⟩, b0, d0, b1, d1, b2, d2, b3, d3⟩) (F.below ⟨(s2.mono (Nat.le_refl _)).os.trans (hba.os), (s2.mono (Nat.le_refl _)).tape.trans hba.tape, s2.output.trans hba.output, Nat.le_trans hba.size s2.size, fun j hj => (s3 j (by omega)).trans (hba.block j hj)⟩) (Nat.le_trans HB2.size hbz) (fun j hj => by have := HL2.ltB; have := HL2.ltL; rcases hj with rfl | rfl <;> omega)
              have HF : Hid (Below W.heap.size W (((((((W4.setCell ⟨W3.heap.size, 0, none⟩ (.slice b0 (finS (Qk k).r.s (Qk k).r.m (C k)).length d0)).setCell ⟨W3.heap.size, 1, none⟩ (.slice b1 (finL (Qk k).r.l (Qk k).r.us (C k)).length d1)).setCell ⟨W3.heap.size, 2, none⟩ (.int .i64 (finG (Qk k).r.g (C k)))).setCell ⟨W3.heap.size, 3, none⟩ (.int .i64 0)).setCell ⟨W3.heap.size, 4, none⟩ (.slice b2 0 d2)).setCell ⟨W3.heap.size, 5, none⟩ (.slice b3 0 d3)).setCell ⟨W3.heap.size, 6, none⟩ (.bool false))) := hdr.trans (hbs.mono hWW)
              have HE : Hid (finE (Qk k).r.s (Qk k).r.l (Qk k).r.g (Qk k).r.ph (Qk k).r.m (Qk k).r.us (Qk k).r.f (C k) = 0) := hz
              go_wp2
              go_meet
              case rel => exact ⟨HF.out, W3.heap.size, rfl, by omega, Or.inr ⟨HE.out, rfl, ⟨⟨finS (Qk k).r.s (Qk k).r.m (C k), finL (Qk k).r.l (Qk k).r.us (C k), finG (Qk k).r.g (C k), 0, [], [], false⟩, b0, d0, b1, d1, b2, d2, b3, d3⟩, rfl, s1, FSx⟩⟩
          · have h := below_alloc W2 zero28
            have kp3 := heap_alloc_new W2 zero28
            have hb3 := hb2.trans (h.mono hb2.size)
            have hk3 : ∀ j, j < W2.heap.size → (W2.alloc zero28).heap[j]? = W2.heap[j]? := fun j hj => h.block j hj
            have hz3 := h.size
            clear h
            go_simp
            refine hK _ _ (fun _ => (c7_of ((hb3.block _ hrW).trans kr))) ?_
            clear hK K
            try simp only [Act.put, List.getElem_toArray, List.getElem_cons_succ, List.getElem_cons_zero, List.setIfInBounds_toArray, List.set_cons_zero, List.set_cons_succ]
            generalize W2.alloc zero28 = W3 at *
            refine wpAnyE.one (i := 4) (by kernel_rfl) rfl (fun K hK => ?_)
            go_simp
            refine (finish_any (Qk k).aS (Qk k).cs (Qk k).r.s (Qk k).al (Qk k).cl (Qk k).r.l (Qk k).r.g (Qk k).r.ph (Qk k).a1 (Qk k).c1 (Qk k).r.m (Qk k).a2 (Qk k).c2 (Qk k).r.us (Qk k).r.f (C k) W3 (hg.below (HB2.trans (hb3.mono HB2.size))) ((HL2.each k hlt).below hb3).self).mono ?_
            rintro e W4 ⟨h, hpost⟩
            have hb4 := hb3.trans (h.mono hb3.size)
            have hk4 : ∀ j, j < W3.heap.size → W4.heap[j]? = W3.heap[j]? := fun j hj => h.block j hj
            have hz4 := h.size
            clear h
            have hbz : W1.heap.size ≤ W3.heap.size := hb3.size
            rcases hpost with ⟨hne, rfl⟩ | ⟨hz, b0, d0, b1, d1, b2, d2, b3, d3, rfl, F⟩
            · refine hK _ _ (fun _ => (c7_of ((hb4.block _ hrW).trans kr))) ?_
              clear hK K
              try simp only [Act.put, List.getElem_toArray, List.getElem_cons_succ, List.getElem_cons_zero, List.setIfInBounds_toArray, List.set_cons_zero, List.set_cons_succ]
              refine wpAnyE.take (i := 5) (v := ?_) rfl (by kernel_rfl) (by kernel_rfl) (by kernel_rfl) (by kernel_rfl) (fun _ _ _ h => h) (Or.inl ⟨by rfl, ?_⟩) (c7_of ((hb4.block _ hrW).trans kr)) ?_
              rotate_left
              · intro w hSw; obtain ⟨r0, r1, r2, r3, r4, r5, r6⟩ := hSw; go_simp; with_reducible rfl
              try simp only [Act.put, List.getElem_toArray, List.getElem_cons_succ, List.getElem_cons_zero, List.setIfInBounds_toArray, List.set_cons_zero, List.set_cons_succ]
              refine wpAnyE.take (i := 6) (v := ?_) rfl (by kernel_rfl) (by kernel_rfl) (by kernel_rfl) (by kernel_rfl) (fun _ _ _ h => h) (Or.inl ⟨by rfl, ?_⟩) (c7_of ((hb4.block _ hrW).trans kr)) ?_
              rotate_left
              · intro w hSw; obtain ⟨r0, r1, r2, r3, r4, r5, r6⟩ := hSw; go_simp; with_reducible rfl
              try simp only [Act.put, List.getElem_toArray, List.getElem_cons_succ, List.getElem_cons_zero, List.setIfInBounds_toArray, List.set_cons_zero, List.set_cons_succ]
              refine wpAnyE.take (i := 7) (v := ?_) rfl (by kernel_rfl) (by kernel_rfl) (by kernel_rfl) (by kernel_rfl) (fun _ _ _ h => h) (Or.inl ⟨by rfl, ?_⟩) (c7_of ((hb4.block _ hrW).trans kr)) ?_
              rotate_left
              · intro w hSw; obtain ⟨r0, r1, r2, r3, r4, r5, r6⟩ := hSw; go_simp; with_reducible rfl
              try simp only [Act.put, List.getElem_toArray, List.getElem_cons_succ, List.getElem_cons_zero, List.setIfInBounds_toArray, List.set_cons_zero, List.set_cons_succ]
              have kp4 := (hk4 _ (heap_lt kp3)).trans kp3
              have hpW : W1.heap.size ≤ W2.heap.size := hb2.size
              refine wpAnyE.one (i := 9) (by kernel_rfl) rfl (fun K hK => ?_)
              obtain ⟨o0, o1, o2, o3, o4, o5, o6⟩ := c7_of kp4
              have fz0 := f_of (o := 0) kp4
              have fz1 := f_of (o := 1) kp4
              have fz2 := f_of (o := 2) kp4
              have fz3 := f_of (o := 3) kp4
              have fz4 := f_of (o := 4) kp4
              have fz5 := f_of (o := 5) kp4
              have fz6 := f_of (o := 6) kp4
              obtain ⟨s1, s2, s3⟩ := set7_block W4 W2.heap.size 36 (.slice none 0 0) (.slice none 0 0) (.int .i64 0) (.int .i64 0) (.slice none 0 0) (.slice none 0 0) (.bool false) kp4
              have hbs := hb4.trans (s2.mono hpW)
              have hSs := (c7_of ((hbs.block _ hrW).trans kr))
              go_simp
              refine hK _ _ (fun _ => hSs) ?_
              clear hK K
              try simp only [Act.put, List.getElem_toArray, List.getElem_cons_succ, List.getElem_cons_zero, List.setIfInBounds_toArray, List.set_cons_zero, List.set_cons_succ]
              refine wpAnyE.one (i := 10) (by kernel_rfl) rfl (fun K hK => ?_)
              go_simp
              refine hK _ _ (fun _ => hSs) ?_
              clear hK K
              try simp only [Act.put, List.getElem_toArray, List.getElem_cons_succ, List.getElem_cons_zero, List.setIfInBounds_toArray, List.set_cons_zero, List.set_cons_succ]
              refine wpAnyE.done (by kernel_rfl) ?_
              have HF : Hid (Below W.heap.size W (((((((W4.setCell ⟨W2.heap.size, 0, none⟩ (.slice none 0 0)).setCell ⟨W2.heap.size, 1, none⟩ (.slice none 0 0)).setCell ⟨W2.heap.size, 2, none⟩ (.int .i64 0)).setCell ⟨W2.heap.size, 3, none⟩ (.int .i64 0)).setCell ⟨W2.heap.size, 4, none⟩ (.slice none 0 0)).setCell ⟨W2.heap.size, 5, none⟩ (.slice none 0 0)).setCell ⟨W2.heap.size, 6, none⟩ (.bool false))) := hdr.trans (hbs.mono hWW)
              have HE : Hid (finE (Qk k).r.s (Qk k).r.l (Qk k).r.g (Qk k).r.ph (Qk k).r.m (Qk k).r.us (Qk k).r.f (C k) ≠ 0) := hne
              go_wp2
              go_meet
              case rel => exact ⟨HF.out, W2.heap.size, rfl, by omega, Or.inl ⟨HE.out, rfl⟩⟩
            · refine hK _ _ (fun _ => (c7_of ((hb4.block _ hrW).trans kr))) ?_
              clear hK K
              try simp only [Act.put, List.getElem_toArray, List.getElem_cons_succ, List.getElem_cons_zero, List.setIfInBounds_toArray, List.set_cons_zero, List.set_cons_succ]
              refine wpAnyE.take (i := 5) (v := ?_) rfl (by kernel_rfl) (by kernel_rfl) (by kernel_rfl) (by kernel_rfl) (fun _ _ _ h => h) (Or.inl ⟨by rfl, ?_⟩) (c7_of ((hb4.block _ hrW).trans kr)) ?_
              rotate_left
              · intro w hSw; obtain ⟨r0, r1, r2, r3, r4, r5, r6⟩ := hSw; go_simp; with_reducible rfl
              try simp only [Act.put, List.getElem_toArray, List.getElem_cons_succ, List.getElem_cons_zero, List.setIfInBounds_toArray, List.set_cons_zero, List.set_cons_succ]
              refine wpAnyE.take (i := 6) (v := ?_) rfl (by kernel_rfl) (by kernel_rfl) (by kernel_rfl) (by kernel_rfl) (fun _ _ _ h => h) (Or.inl ⟨by rfl, ?_⟩) (c7_of ((hb4.block _ hrW).trans kr)) ?_
              rotate_left
              · intro w hSw; obtain ⟨r0, r1, r2, r3, r4, r5, r6⟩ := hSw; go_simp; with_reducible rfl
              try simp only [Act.put, List.getElem_toArray, List.getElem_cons_succ, List.getElem_cons_zero, List.setIfInBounds_toArray, List.set_cons_zero, List.set_cons_succ]
              refine wpAnyE.take (i := 7) (v := ?_) rfl (by kernel_rfl) (by kernel_rfl) (by kernel_rfl) (by kernel_rfl) (fun _ _ _ h => h) (Or.inl ⟨by rfl, ?_⟩) (c7_of ((hb4.block _ hrW).trans kr)) ?_
              rotate_left
              · intro w hSw; obtain ⟨r0, r1, r2, r3, r4, r5, r6⟩ := hSw; go_simp; with_reducible rfl
              try simp only [Act.put, List.getElem_toArray, List.getElem_cons_succ, List.getElem_cons_zero, List.setIfInBounds_toArray, List.set_cons_zero, List.set_cons_succ]
              have kp4 := (hk4 _ (heap_lt kp3)).trans kp3
              have hpW : W1.heap.size ≤ W2.heap.size := hb2.size
              refine wpAnyE.one (i := 9) (by kernel_rfl) rfl (fun K hK => ?_)
              obtain ⟨o0, o1, o2, o3, o4, o5, o6⟩ := c7_of kp4
              have fz0 := f_of (o := 0) kp4
              have fz1 := f_of (o := 1) kp4
              have fz2 := f_of (o := 2) kp4
              have fz3 := f_of (o := 3) kp4
              have fz4 := f_of (o := 4) kp4
              have fz5 := f_of (o := 5) kp4
              have fz6 := f_of (o := 6) kp4
              obtain ⟨s1, s2, s3⟩ := set7_block W4 W2.heap.size 36 (.slice b0 (finS (Qk k).r.s (Qk k).r.m (C k)).length d0) (.slice b1 (finL (Qk k).r.l (Qk k).r.us (C k)).length d1) (.int .i64 (finG (Qk k).r.g (C k))) (.int .i64 0) (.slice b2 0 d2) (.slice b3 0 d3) (.bool false) kp4
              have hbs := hb4.trans (s2.mono hpW)
              have hSs := (c7_of ((hbs.block _ hrW).trans kr))
              go_simp
              refine hK _ _ (fun _ => hSs) ?_
              clear hK K
              try simp only [Act.put, List.getElem_toArray, List.getElem_cons_succ, List.getElem_cons_zero, List.setIfInBounds_toArray, List.set_cons_zero, List.set_cons_succ]
              refine wpAnyE.one (i := 10) (by kernel_rfl) rfl (fun K hK => ?_)
              go_simp
              refine hK _ _ (fun _ => hSs) ?_
              clear hK K
              try simp only [Act.put, List.getElem_toArray, List.getElem_cons_succ, List.getElem_cons_zero, List.setIfInBounds_toArray, List.set_cons_zero, List.set_cons_succ]
              refine wpAnyE.done (by kernel_rfl) ?_
              have FSx := Away.fresh (w := _) (z := w0.heap.size) (z' := W3.heap.size) (P := fun j => j = B ∨ j = L) (q := ⟨⟨finS (Qk k).r.s (Qk k).r.m (C k), finL (Qk k).r.l (Qk k).r.us (C k), finG (Qk k).r.g (C k), 0, [], [], false⟩, b0, d0, b1, d1, b2, d2, b3, d3⟩) (F.keep s2.size (fun j hj => s3 j (by have := heap_lt kp3; omega))) (Nat.le_trans HB2.size hbz) (fun j hj => by have := HL2.ltB; have := HL2.ltL; rcases hj with rfl | rfl <;> omega)
              have HF : Hid (Below W.heap.size W (((((((W4.setCell ⟨W2.heap.size, 0, none⟩ (.slice b0 (finS (Qk k).r.s (Qk k).r.m (C k)).length d0)).setCell ⟨W2.heap.size, 1, none⟩ (.slice b1 (finL (Qk k).r.l (Qk k).r.us (C k)).length d1)).setCell ⟨W2.heap.size, 2, none⟩ (.int .i64 (finG (Qk k).r.g (C k)))).setCell ⟨W2.heap.size, 3, none⟩ (.int .i64 0)).setCell ⟨W2.heap.size, 4, none⟩ (.slice b2 0 d2)).setCell ⟨W2.heap.size, 5, none⟩ (.slice b3 0 d3)).setCell ⟨W2.heap.size, 6, none⟩ (.bool false))) := hdr.trans (hbs.mono hWW)
              have HE : Hid (finE (Qk k).r.s (Qk k).r.l (Qk k).r.g (Qk k).r.ph (Qk k).r.m (Qk k).r.us (Qk k).r.f (C k) = 0) := hz
              go_wp2
              go_meet
              case rel => exact ⟨HF.out, W2.heap.size, rfl, by omega, Or.inr ⟨HE.out, rfl, ⟨⟨finS (Qk k).r.s (Qk k).r.m (C k), finL (Qk k).r.l (Qk k).r.us (C k), finG (Qk k).r.g (C k), 0, [], [], false⟩, b0, d0, b1, d1, b2, d2, b3, d3⟩, rfl, s1, FSx⟩⟩
        · have h := below_alloc W1 zero28
          have kp2 := heap_alloc_new W1 zero28
          have hb2 := hb1.trans (h.mono hb1.size)
          have hk2 : ∀ j, j < W1.heap.size → (W1.alloc zero28).heap[j]? = W1.heap[j]? := fun j hj => h.block j hj
          have hz2 := h.size
          clear h
          go_simp
          refine hK _ _ (fun _ => (c7_of ((hb2.block _ hrW).trans kr))) ?_
          clear hK K
          try simp only [Act.put, List.getElem_toArray, List.getElem_cons_succ, List.getElem_cons_zero, List.setIfInBounds_toArray, List.set_cons_zero, List.set_cons_succ]
          generalize W1.alloc zero28 = W2 at *
          refine wpAnyE.one (i := 3) (by kernel_rfl) rfl (fun K hK => ?_)
          go_simp
          refine (hcl k W2 hlt (HK2.below hb2)).mono ?_
          rintro e W3 ⟨rfl, h⟩
          have hb3 := hb2.trans (h.mono hb2.size)
          have hk3 : ∀ j, j < W2.heap.size → W3.heap[j]? = W2.heap[j]? := fun j hj => h.block j hj
          have hz3 := h.size
          clear h
          refine hK _ _ (fun _ => (c7_of ((hb3.block _ hrW).trans kr))) ?_
          clear hK K
          try simp only [Act.put, List.getElem_toArray, List.getElem_cons_succ, List.getElem_cons_zero, List.setIfInBounds_toArray, List.set_cons_zero, List.set_cons_succ]
          have kp3 := (hk3 _ (heap_lt kp2)).trans kp2
          refine wpAnyE.one (i := 4) (by kernel_rfl) rfl (fun K hK => ?_)
          go_simp
          refine (finish_any (Qk k).aS (Qk k).cs (Qk k).r.s (Qk k).al (Qk k).cl (Qk k).r.l (Qk k).r.g (Qk k).r.ph (Qk k).a1 (Qk k).c1 (Qk k).r.m (Qk k).a2 (Qk k).c2 (Qk k).r.us (Qk k).r.f (C k) W3 (hg.below (HB2.trans (hb3.mono HB2.size))) ((HL2.each k hlt).below hb3).self).mono ?_
          rintro e W4 ⟨h, hpost⟩
          have hb4 := hb3.trans (h.mono hb3.size)
          have hk4 : ∀ j, j < W3.heap.size → W4.heap[j]? = W3.heap[j]? := fun j hj => h.block j hj
          have hz4 := h.size
          clear h
          have hbz : W1.heap.size ≤ W3.heap.size := hb3.size
          rcases hpost with ⟨hne, rfl⟩ | ⟨hz, b0, d0, b1, d1, b2, d2, b3, d3, rfl, F⟩
          · refine hK _ _ (fun _ => (c7_of ((hb4.block _ hrW).trans kr))) ?_
            clear hK K
            try simp only [Act.put, List.getElem_toArray, List.getElem_cons_succ, List.getElem_cons_zero, List.setIfInBounds_toArray, List.set_cons_zero, List.set_cons_succ]
            refine wpAnyE.take (i := 5) (v := ?_) rfl (by kernel_rfl) (by kernel_rfl) (by kernel_rfl) (by kernel_rfl) (fun _ _ _ h => h) (Or.inl ⟨by rfl, ?_⟩) (c7_of ((hb4.block _ hrW).trans kr)) ?_
            rotate_left
            · intro w hSw; obtain ⟨r0, r1, r2, r3, r4, r5, r6⟩ := hSw; go_simp; with_reducible rfl
            try simp only [Act.put, List.getElem_toArray, List.getElem_cons_succ, List.getElem_cons_zero, List.setIfInBounds_toArray, List.set_cons_zero, List.set_cons_succ]
            refine wpAnyE.take (i := 6) (v := ?_) rfl (by kernel_rfl) (by kernel_rfl) (by kernel_rfl) (by kernel_rfl) (fun _ _ _ h => h) (Or.inl ⟨by rfl, ?_⟩) (c7_of ((hb4.block _ hrW).trans kr)) ?_
            rotate_left
            · intro w hSw; obtain ⟨r0, r1, r2, r3, r4, r5, r6⟩ := hSw; go_simp; with_reducible rfl
            try simp only [Act.put, List.getElem_toArray, List.getElem_cons_succ, List.getElem_cons_zero, List.setIfInBounds_toArray, List.set_cons_zero, List.set_cons_succ]
            refine wpAnyE.take (i := 7) (v := ?_) rfl (by kernel_rfl) (by kernel_rfl) (by kernel_rfl) (by kernel_rfl) (fun _ _ _ h => h) (Or.inl ⟨by rfl, ?_⟩) (c7_of ((hb4.block _ hrW).trans kr)) ?_
            rotate_left
            · intro w hSw; obtain ⟨r0, r1, r2, r3, r4, r5, r6⟩ := hSw; go_simp; with_reducible rfl
            try simp only [Act.put, List.getElem_toArray, List.getElem_cons_succ, List.getElem_cons_zero, List.setIfInBounds_toArray, List.set_cons_zero, List.set_cons_succ]
            have kp4 := (hk4 _ (heap_lt kp3)).trans kp3
            have hpW : W1.heap.size ≤ W1.heap.size := Nat.le_refl _
            refine wpAnyE.one (i := 9) (by kernel_rfl) rfl (fun K hK => ?_)
            obtain ⟨o0, o1, o2, o3, o4, o5, o6⟩ := c7_of kp4
            have fz0 := f_of (o := 0) kp4
            have fz1 := f_of (o := 1) kp4
            have fz2 := f_of (o := 2) kp4
            have fz3 := f_of (o := 3) kp4
            have fz4 := f_of (o := 4) kp4
            have fz5 := f_of (o := 5) kp4
            have fz6 := f_of (o := 6) kp4
            obtain ⟨s1, s2, s3⟩ := set7_block W4 W1.heap.size 36 (.slice none 0 0) (.slice none 0 0) (.int .i64 0) (.int .i64 0) (.slice none 0 0) (.slice none 0 0) (.bool false) kp4
            have hbs := hb4.trans (s2.mono hpW)
            have hSs := (c7_of ((hbs.block _ hrW).trans kr))
            go_simp
            refine hK _ _ (fun _ => hSs) ?_
            clear hK K
            try simp only [Act.put, List.getElem_toArray, List.getElem_cons_succ, List.getElem_cons_zero, List.setIfInBounds_toArray, List.set_cons_zero, List.set_cons_succ]
            refine wpAnyE.one (i := 10) (by kernel_rfl) rfl (fun K hK => ?_)
            go_simp
            refine hK _ _ (fun _ => hSs) ?_
            clear hK K
            try simp only [Act.put, List.getElem_toArray, List.getElem_cons_succ, List.getElem_cons_zero, List.setIfInBounds_toArray, List.set_cons_zero, List.set_cons_succ]
            refine wpAnyE.done (by kernel_rfl) ?_
            have HF : Hid (Below W.heap.size W (((((((W4.setCell ⟨W1.heap.size, 0, none⟩ (.slice none 0 0)).setCell ⟨W1.heap.size, 1, none⟩ (.slice none 0 0)).setCell ⟨W1.heap.size, 2, none⟩ (.int .i64 0)).setCell ⟨W1.heap.size, 3, none⟩ (.int .i64 0)).setCell ⟨W1.heap.size, 4, none⟩ (.slice none 0 0)).setCell ⟨W1.heap.size, 5, none⟩ (.slice none 0 0)).setCell ⟨W1.heap.size, 6, none⟩ (.bool false))) := hdr.trans (hbs.mono hWW)
            have HE : Hid (finE (Qk k).r.s (Qk k).r.l (Qk k).r.g (Qk k).r.ph (Qk k).r.m (Qk k).r.us (Qk k).r.f (C k) ≠ 0) := hne
            go_wp2
            go_meet
            case rel => exact ⟨HF.out, W1.heap.size, rfl, by omega, Or.inl ⟨HE.out, rfl⟩⟩
          · refine hK _ _ (fun _ => (c7_of ((hb4.block _ hrW).trans kr))) ?_
            clear hK K
            try simp only [Act.put, List.getElem_toArray, List.getElem_cons_succ, List.getElem_cons_zero, List.setIfInBounds_toArray, List.set_cons_zero, List.set_cons_succ]
            refine wpAnyE.take (i := 5) (v := ?_) rfl (by kernel_rfl) (by kernel_rfl) (by kernel_rfl) (by kernel_rfl) (fun _ _ _ h => h) (Or.inl ⟨by rfl, ?_⟩) (c7_of ((hb4.block _ hrW).trans kr)) ?_
            rotate_left
            · intro w hSw; obtain ⟨r0, r1, r2, r3, r4, r5, r6⟩ := hSw; go_simp; with_reducible rfl
            try simp only [Act.put, List.getElem_toArray, List.getElem_cons_succ, List.getElem_cons_zero, List.setIfInBounds_toArray, List.set_cons_zero, List.set_cons_succ]
            refine wpAnyE.take (i := 6) (v := ?_) rfl (by kernel_rfl) (by kernel_rfl) (by kernel_rfl) (by kernel_rfl) (fun _ _ _ h => h) (Or.inl ⟨by rfl, ?_⟩) (c7_of ((hb4.block _ hrW).trans kr)) ?_
            rotate_left
            · intro w hSw; obtain ⟨r0, r1, r2, r3, r4, r5, r6⟩ := hSw; go_simp; with_reducible rfl
            try simp only [Act.put, List.getElem_toArray, List.getElem_cons_succ, List.getElem_cons_zero, List.setIfInBounds_toArray, List.set_cons_zero, List.set_cons_succ]
            refine wpAnyE.take (i := 7) (v := ?_) rfl (by kernel_rfl) (by kernel_rfl) (by kernel_rfl) (by kernel_rfl) (fun _ _ _ h => h) (Or.inl ⟨by rfl, ?_⟩) (c7_of ((hb4.block _ hrW).trans kr)) ?_
            rotate_left
            · intro w hSw; obtain ⟨r0, r1, r2, r3, r4, r5, r6⟩ := hSw; go_simp; with_reducible rfl
            try simp only [Act.put, List.getElem_toArray, List.getElem_cons_succ, List.getElem_cons_zero, List.setIfInBounds_toArray, List.set_cons_zero, List.set_cons_succ]
            have kp4 := (hk4 _ (heap_lt kp3)).trans kp3
            have hpW : W1.heap.size ≤ W1.heap.size := Nat.le_refl _
            refine wpAnyE.one (i := 9) (by kernel_rfl) rfl (fun K hK => ?_)
            obtain ⟨o0, o1, o2, o3, o4, o5, o6⟩ := c7_of kp4
            have fz0 := f_of (o := 0) kp4
            have fz1 := f_of (o := 1) kp4
            have fz2 := f_of (o := 2) kp4
            have fz3 := f_of (o := 3) kp4
            have fz4 := f_of (o := 4) kp4
            have fz5 := f_of (o := 5) kp4
            have fz6 := f_of (o := 6) kp4
            obtain ⟨s1, s2, s3⟩ := set7_block W4 W1.heap.size 36 (.slice b0 (finS (Qk k).r.s (Qk k).r.m (C k)).length d0) (.slice b1 (finL (Qk k).r.l (Qk k).r.us (C k)).length d1) (.int .i64 (finG (Qk k).r.g (C k))) (.int .i64 0) (.slice b2 0 d2) (.slice b3 0 d3) (.bool false) kp4
            have hbs := hb4.trans (s2.mono hpW)
            have hSs := (c7_of ((hbs.block _ hrW).trans kr))
            go_simp
            refine hK _ _ (fun _ => hSs) ?_
            clear hK K
            try simp only [Act.put, List.getElem_toArray, List.getElem_cons_succ, List.getElem_cons_zero, List.setIfInBounds_toArray, List.set_cons_zero, List.set_cons_succ]
            refine wpAnyE.one (i := 10) (by kernel_rfl) rfl (fun K hK => ?_)
            go_simp
            refine hK _ _ (fun _ => hSs) ?_
            clear hK K
            try simp only [Act.put, List.getElem_toArray, List.getElem_cons_succ, List.getElem_cons_zero, List.setIfInBounds_toArray, List.set_cons_zero, List.set_cons_succ]
            refine wpAnyE.done (by kernel_rfl) ?_
            have FSx := Away.fresh (w := _) (z := w0.heap.size) (z' := W3.heap.size) (P := fun j => j = B ∨ j = L) (q := ⟨⟨finS (Qk k).r.s (Qk k).r.m (C k), finL (Qk k).r.l (Qk k).r.us (C k), finG (Qk k).r.g (C k), 0, [], [], false⟩, b0, d0, b1, d1, b2, d2, b3, d3⟩) (F.keep s2.size (fun j hj => s3 j (by have := heap_lt kp3; omega))) (Nat.le_trans HB2.size hbz) (fun j hj => by have := HL2.ltB; have := HL2.ltL; rcases hj with rfl | rfl <;> omega)
            have HF : Hid (Below W.heap.size W (((((((W4.setCell ⟨W1.heap.size, 0, none⟩ (.slice b0 (finS (Qk k).r.s (Qk k).r.m (C k)).length d0)).setCell ⟨W1.heap.size, 1, none⟩ (.slice b1 (finL (Qk k).r.l (Qk k).r.us (C k)).length d1)).setCell ⟨W1.heap.size, 2, none⟩ (.int .i64 (finG (Qk k).r.g (C k)))).setCell ⟨W1.heap.size, 3, none⟩ (.int .i64 0)).setCell ⟨W1.heap.size, 4, none⟩ (.slice b2 0 d2)).setCell ⟨W1.heap.size, 5, none⟩ (.slice b3 0 d3)).setCell ⟨W1.heap.size, 6, none⟩ (.bool false))) := hdr.trans (hbs.mono hWW)
            have HE : Hid (finE (Qk k).r.s (Qk k).r.l (Qk k).r.g (Qk k).r.ph (Qk k).r.m (Qk k).r.us (Qk k).r.f (C k) = 0) := hz
            go_wp2
            go_meet
            case rel => exact ⟨HF.out, W1.heap.size, rfl, by omega, Or.inr ⟨HE.out, rfl, ⟨⟨finS (Qk k).r.s (Qk k).r.m (C k), finL (Qk k).r.l (Qk k).r.us (C k), finG (Qk k).r.g (C k), 0, [], [], false⟩, b0, d0, b1, d1, b2, d2, b3, d3⟩, rfl, s1, FSx⟩⟩
      case rest =>
        obtain ⟨hbx, p, rfl, hpW, hor⟩ := hcut
        have HB2 := HB1.trans (hbx.mono HB1.size)
        have HL2 := HL1.below hbx
        have HK2 := HK1.below hbx
        have hpB : p ≠ B := by have := HL1.ltB; omega
        have HFV : Hid (finV (Q k).r (V k) (C k) = finE (Qk k).r.s (Qk k).r.l (Qk k).r.g (Qk k).r.ph (Qk k).r.m (Qk k).r.us (Qk k).r.f (C k)) := by unfold Hid finV; rw [HV.out, ← HQ.out]; rfl
        clear hbx HB1 HL1 HK1 hn0
        rcases hor with ⟨hne, rfl⟩ | ⟨hz, rfl, q, HQR, kq, HAq⟩
        · have hb : (finE (Qk k).r.s (Qk k).r.l (Qk k).r.g (Qk k).r.ph (Qk k).r.m (Qk k).r.us (Qk k).r.f (C k) != 0) = true := by simpa using hne
          have HF : Hid (PO (.returned (.int .i64 (finE (Qk k).r.s (Qk k).r.l (Qk k).r.g (Qk k).r.ph (Qk k).r.m (Qk k).r.us (Qk k).r.f (C k)))) wc) := by
            have e : fstE (fun i => finV (Q i).r (V i) (C i)) = finE (Qk k).r.s (Qk k).r.l (Qk k).r.g (Qk k).r.ph (Qk k).r.m (Qk k).r.us (Qk k).r.f (C k) := by
              rw [fstE_at hlt (fun i hi => HZ.out i hi) (by rw [HFV.out]; exact hne)]; exact HFV.out
            refine (HPO.out _ _).2 ⟨by rw [e], HB2, HK2, fun h => ?_⟩
            rw [e] at h; exact absurd h hne
          clear hne
          go_wp2
          exact HF.out
        · go_upto_region 8 with fail
          have hdr := below_refl_drew wc
          have HB3 := HB2.trans (hdr.mono HB2.size)
          have HL3 := HL2.below hdr
          have HK3 := HK2.below hdr
          have kqD := (hdr.block _ (heap_lt kq)).trans kq
          have HAD := HAq.below hdr
          have hS0 : wc.drew.cell? ⟨L, 0, none⟩ = some (.slice (some ⟨B, off, none⟩) 3 cap) ∧ (wc.drew.cell? ⟨p, 0, none⟩ = some (.slice q.aS q.r.s.length q.cs) ∧ wc.drew.cell? ⟨p, 1, none⟩ = some (.slice q.al q.r.l.length q.cl) ∧ wc.drew.cell? ⟨p, 2, none⟩ = some (.int .i64 q.r.g) ∧ wc.drew.cell? ⟨p, 3, none⟩ = some (.int .i64 q.r.ph) ∧ wc.drew.cell? ⟨p, 4, none⟩ = some (.slice q.a1 q.r.m.length q.c1) ∧ wc.drew.cell? ⟨p, 5, none⟩ = some (.slice q.a2 q.r.us.length q.c2) ∧ wc.drew.cell? ⟨p, 6, none⟩ = some (.bool q.r.f)) := ⟨HL3.head, c7_of kqD⟩
          refine wp_region_E (fun W => W.cell? ⟨L, 0, none⟩ = some (.slice (some ⟨B, off, none⟩) 3 cap) ∧ (W.cell? ⟨p, 0, none⟩ = some (.slice q.aS q.r.s.length q.cs) ∧ W.cell? ⟨p, 1, none⟩ = some (.slice q.al q.r.l.length q.cl) ∧ W.cell? ⟨p, 2, none⟩ = some (.int .i64 q.r.g) ∧ W.cell? ⟨p, 3, none⟩ = some (.int .i64 q.r.ph) ∧ W.cell? ⟨p, 4, none⟩ = some (.slice q.a1 q.r.m.length q.c1) ∧ W.cell? ⟨p, 5, none⟩ = some (.slice q.a2 q.r.us.length q.c2) ∧ W.cell? ⟨p, 6, none⟩ = some (.bool q.r.f))) (fun _ => false) (by kernel_rfl) hS0 (fun hS => ?_)
          generalize wc.drew = W1 at *
          clear hS0 hdr HB2 HL2 HK2 kq HAq
          refine wpAnyE.take (i := 0) (v := ?_) rfl (by kernel_rfl) (by kernel_rfl) (by kernel_rfl) (by kernel_rfl) (fun _ _ _ h => h) (Or.inl ⟨by rfl, ?_⟩) (by assumption) ?_
          rotate_left
          · intro w hSw; obtain ⟨s0, r0, r1, r2, r3, r4, r5, r6⟩ := hSw; go_simp; with_reducible rfl
          try simp only [Act.put, List.getElem_toArray, List.getElem_cons_zero, List.setIfInBounds_toArray, List.set_cons_zero, List.set_cons_succ]
          refine wpAnyE.take (i := 1) (v := ?_) rfl (by kernel_rfl) (by kernel_rfl) (by kernel_rfl) (by kernel_rfl) (fun _ _ _ h => h) (Or.inl ⟨by rfl, ?_⟩) (by assumption) ?_
          rotate_left
          · intro w hSw; obtain ⟨s0, r0, r1, r2, r3, r4, r5, r6⟩ := hSw; go_simp; with_reducible rfl
          try simp only [Act.put, List.getElem_toArray, List.getElem_cons_succ, List.getElem_cons_zero, List.setIfInBounds_toArray, List.set_cons_zero, List.set_cons_succ]
          refine wpAnyE.take (i := 2) (v := ?_) rfl (by kernel_rfl) (by kernel_rfl) (by kernel_rfl) (by kernel_rfl) (fun _ _ _ h => h) (Or.inl ⟨by rfl, ?_⟩) (by assumption) ?_
          rotate_left
          · intro w hSw; obtain ⟨s0, r0, r1, r2, r3, r4, r5, r6⟩ := hSw; go_simp; with_reducible rfl
          try simp only [Act.put, List.getElem_toArray, List.getElem_cons_succ, List.getElem_cons_zero, List.setIfInBounds_toArray, List.set_cons_zero, List.set_cons_succ]
          refine wpAnyE.take (i := 3) (v := ?_) rfl (by kernel_rfl) (by kernel_rfl) (by kernel_rfl) (by kernel_rfl) (fun _ _ _ h => h) (Or.inl ⟨by rfl, ?_⟩) (by assumption) ?_
          rotate_left
          · intro w hSw; obtain ⟨s0, r0, r1, r2, r3, r4, r5, r6⟩ := hSw; go_simp; with_reducible rfl
          try simp only [Act.put, List.getElem_toArray, List.getElem_cons_succ, List.getElem_cons_zero, List.setIfInBounds_toArray, List.set_cons_zero, List.set_cons_succ]
          refine wpAnyE.take (i := 4) (v := ?_) rfl (by kernel_rfl) (by kernel_rfl) (by kernel_rfl) (by kernel_rfl) (fun _ _ _ h => h) (Or.inl ⟨by rfl, ?_⟩) (by assumption) ?_
          rotate_left
          · intro w hSw; obtain ⟨s0, r0, r1, r2, r3, r4, r5, r6⟩ := hSw; go_simp; with_reducible rfl
          try simp only [Act.put, List.getElem_toArray, List.getElem_cons_succ, List.getElem_cons_zero, List.setIfInBounds_toArray, List.set_cons_zero, List.set_cons_succ]
          refine wpAnyE.take (i := 5) (v := ?_) rfl (by kernel_rfl) (by kernel_rfl) (by kernel_rfl) (by kernel_rfl) (fun _ _ _ h => h) (Or.inl ⟨by rfl, ?_⟩) (by assumption) ?_
          rotate_left
          · intro w hSw; obtain ⟨s0, r0, r1, r2, r3, r4, r5, r6⟩ := hSw; go_simp; with_reducible rfl
          try simp only [Act.put, List.getElem_toArray, List.getElem_cons_succ, List.getElem_cons_zero, List.setIfInBounds_toArray, List.set_cons_zero, List.set_cons_succ]
          refine wpAnyE.take (i := 6) (v := ?_) rfl (by kernel_rfl) (by kernel_rfl) (by kernel_rfl) (by kernel_rfl) (fun _ _ _ h => h) (Or.inl ⟨by rfl, ?_⟩) (by assumption) ?_
          rotate_left
          · intro w hSw; obtain ⟨s0, r0, r1, r2, r3, r4, r5, r6⟩ := hSw; go_simp; with_reducible rfl
          try simp only [Act.put, List.getElem_toArray, List.getElem_cons_succ, List.getElem_cons_zero, List.setIfInBounds_toArray, List.set_cons_zero, List.set_cons_succ]
          refine wpAnyE.take (i := 7) (v := ?_) rfl (by kernel_rfl) (by kernel_rfl) (by kernel_rfl) (by kernel_rfl) (fun _ _ _ h => h) (Or.inl ⟨by rfl, ?_⟩) (by assumption) ?_
          rotate_left
          · intro w hSw; obtain ⟨s0, r0, r1, r2, r3, r4, r5, r6⟩ := hSw; go_simp; with_reducible rfl
          try simp only [Act.put, List.getElem_toArray, List.getElem_cons_succ, List.getElem_cons_zero, List.setIfInBounds_toArray, List.set_cons_zero, List.set_cons_succ]
          refine wpAnyE.one (i := 8) (by kernel_rfl) rfl (fun K hK => ?_)
          obtain ⟨u0, u1, u2, u3, u4, u5, u6⟩ := HL3.row k hlt
          obtain ⟨cb, kb5⟩ := HL3.hB
          have fb0 := f_of (o := off + k * 7) kb5
          have fb1 := f_of (o := off + k * 7 + 1) kb5
          have fb2 := f_of (o := off + k * 7 + 2) kb5
          have fb3 := f_of (o := off + k * 7 + 3) kb5
          have fb4 := f_of (o := off + k * 7 + 4) kb5
          have fb5 := f_of (o := off + k * 7 + 5) kb5
          have fb6 := f_of (o := off + k * 7 + 6) kb5
          have HL6 := HL3.row_set hlt q HAD
          have HB6 : Below w0.heap.size w0 (set7 W1 B (off + k * 7) (.slice q.aS q.r.s.length q.cs) (.slice q.al q.r.l.length q.cl) (.int .i64 q.r.g) (.int .i64 q.r.ph) (.slice q.a1 q.r.m.length q.c1) (.slice q.a2 q.r.us.length q.c2) (.bool q.r.f)) := below_set7 _ _ _ _ _ _ _ HB3 HL3.zb
          have HK6 : KpB B w (set7 W1 B (off + k * 7) (.slice q.aS q.r.s.length q.cs) (.slice q.al q.r.l.length q.cl) (.int .i64 q.r.g) (.int .i64 q.r.ph) (.slice q.a1 q.r.m.length q.c1) (.slice q.a2 q.r.us.length q.c2) (.bool q.r.f)) := ⟨Nat.le_trans HK3.1 (Nat.le_of_eq (set7_size _ _ _ _ _ _ _ _ _ _).symm), fun j hj hn => (set7_blk W1 B (off + k * 7) j _ _ _ _ _ _ _ hn).trans (HK3.2 j hj hn)⟩
          have kq6 : (set7 W1 B (off + k * 7) (.slice q.aS q.r.s.length q.cs) (.slice q.al q.r.l.length q.cl) (.int .i64 q.r.g) (.int .i64 q.r.ph) (.slice q.a1 q.r.m.length q.c1) (.slice q.a2 q.r.us.length q.c2) (.bool q.r.f)).heap[p]? = some q.blk := (set7_blk W1 B (off + k * 7) p _ _ _ _ _ _ _ hpB).trans kqD
          have hS6 : (set7 W1 B (off + k * 7) (.slice q.aS q.r.s.length q.cs) (.slice q.al q.r.l.length q.cl) (.int .i64 q.r.g) (.int .i64 q.r.ph) (.slice q.a1 q.r.m.length q.c1) (.slice q.a2 q.r.us.length q.c2) (.bool q.r.f)).cell? ⟨L, 0, none⟩ = some (.slice (some ⟨B, off, none⟩) 3 cap) ∧ ((set7 W1 B (off + k * 7) (.slice q.aS q.r.s.length q.cs) (.slice q.al q.r.l.length q.cl) (.int .i64 q.r.g) (.int .i64 q.r.ph) (.slice q.a1 q.r.m.length q.c1) (.slice q.a2 q.r.us.length q.c2) (.bool q.r.f)).cell? ⟨p, 0, none⟩ = some (.slice q.aS q.r.s.length q.cs) ∧ (set7 W1 B (off + k * 7) (.slice q.aS q.r.s.length q.cs) (.slice q.al q.r.l.length q.cl) (.int .i64 q.r.g) (.int .i64 q.r.ph) (.slice q.a1 q.r.m.length q.c1) (.slice q.a2 q.r.us.length q.c2) (.bool q.r.f)).cell? ⟨p, 1, none⟩ = some (.slice q.al q.r.l.length q.cl) ∧ (set7 W1 B (off + k * 7) (.slice q.aS q.r.s.length q.cs) (.slice q.al q.r.l.length q.cl) (.int .i64 q.r.g) (.int .i64 q.r.ph) (.slice q.a1 q.r.m.length q.c1) (.slice q.a2 q.r.us.length q.c2) (.bool q.r.f)).cell? ⟨p, 2, none⟩ = some (.int .i64 q.r.g) ∧ (set7 W1 B (off + k * 7) (.slice q.aS q.r.s.length q.cs) (.slice q.al q.r.l.length q.cl) (.int .i64 q.r.g) (.int .i64 q.r.ph) (.slice q.a1 q.r.m.length q.c1) (.slice q.a2 q.r.us.length q.c2) (.bool q.r.f)).cell? ⟨p, 3, none⟩ = some (.int .i64 q.r.ph) ∧ (set7 W1 B (off + k * 7) (.slice q.aS q.r.s.length q.cs) (.slice q.al q.r.l.length q.cl) (.int .i64 q.r.g) (.int .i64 q.r.ph) (.slice q.a1 q.r.m.length q.c1) (.slice q.a2 q.r.us.length q.c2) (.bool q.r.f)).cell? ⟨p, 4, none⟩ = some (.slice q.a1 q.r.m.length q.c1) ∧ (set7 W1 B (off + k * 7) (.slice q.aS q.r.s.length q.cs) (.slice q.al q.r.l.length q.cl) (.int .i64 q.r.g) (.int .i64 q.r.ph) (.slice q.a1 q.r.m.length q.c1) (.slice q.a2 q.r.us.length q.c2) (.bool q.r.f)).cell? ⟨p, 5, none⟩ = some (.slice q.a2 q.r.us.length q.c2) ∧ (set7 W1 B (off + k * 7) (.slice q.aS q.r.s.length q.cs) (.slice q.al q.r.l.length q.cl) (.int .i64 q.r.g) (.int .i64 q.r.ph) (.slice q.a1 q.r.m.length q.c1) (.slice q.a2 q.r.us.length q.c2) (.bool q.r.f)).cell? ⟨p, 6, none⟩ = some (.bool q.r.f)) := ⟨HL6.head, c7_of kq6⟩
          go_simp
          refine hK _ _ (fun _ => hS6) ?_
          clear hK K
          try simp only [Act.put, List.getElem_toArray, List.getElem_cons_succ, List.getElem_cons_zero, List.setIfInBounds_toArray, List.set_cons_zero, List.set_cons_succ]
          generalize hW6 : (set7 W1 B (off + k * 7) (.slice q.aS q.r.s.length q.cs) (.slice q.al q.r.l.length q.cl) (.int .i64 q.r.g) (.int .i64 q.r.ph) (.slice q.a1 q.r.m.length q.c1) (.slice q.a2 q.r.us.length q.c2) (.bool q.r.f)) = W6 at HL6 HB6 HK6 kq6 hS6
          unfold set7 at hW6
          rw [hW6]
          clear hW6 u0 u1 u2 u3 u4 u5 u6 fb0 fb1 fb2 fb3 fb4 fb5 fb6 kb5 HL3 HB3 HK3 kqD hS6 kq6 HAD
          refine wpAnyE.done (by kernel_rfl) ?_
          have HI' : Hid (∀ i, i < 3 → i < k + 1 → (upd Qk k q i).r = finR (Q i).r (V i) (C i)) := fun i hi hik => by
            by_cases e : i = k
            · subst e
              rw [upd_same, HQR.out, HQ.out]
              unfold finR
              rw [HV.out]; rfl
            · rw [upd_other _ _ e]; exact HI.out i hi (by omega)
          have HJ' : Hid (∀ i, i < 3 → k + 1 ≤ i → upd Qk k q i = Q i) := fun i hi hik => by
            rw [upd_other _ _ (by omega : i ≠ k)]; exact HJ.out i hi (by omega)
          have HZ' : Hid (∀ i, i < k + 1 → finV (Q i).r (V i) (C i) = 0) := fun i hik => by
            by_cases e : i = k
            · subst e; rw [HFV.out]; exact hz
            · exact HZ.out i (by omega)
          clear HI HJ HZ hz
          go_wp2
          go_roundw
          case rel => exact ⟨k + 1, _, by go_num, by omega, HB6, HL6, HK6, HI', HJ', HZ'⟩
          case measure => simp [intOf]; omega
    · have hk3 : k = 3 := by omega
      subst hk3
      have HF : Hid (PO (.returned (.int .i64 0)) wr) := by
        have e : fstE (fun i => finV (Q i).r (V i) (C i)) = 0 := fstE_zero.2 (fun i hi => HZ.out i hi)
        exact (HPO.out _ _).2 ⟨by rw [e], HB, HK, fun _ => ⟨Qk, HL, fun i hi => HI.out i hi hi⟩⟩
      clear HI HJ HZ HB HL HK
      go_wp2
      exact HF.out
end

section
open Go.RowKit
set_option maxRecDepth 100000

/-- what holds of w holds of each world whose blocks from z to y are those of w. -/
def Dep (w : World) (z y : Nat) (P : World → Prop) : Prop := y ≤ w.heap.size ∧ ∀ w', y ≤ w'.heap.size → (∀ k, z ≤ k → k < y → w'.heap[k]? = w.heap[k]?) → P w'
theorem Dep.here {w : World} {z y : Nat} {P : World → Prop} (h : Dep w z y P) : P w := h.2 w h.1 (fun _ _ _ => rfl)
theorem Dep.next {w w' : World} {z y : Nat} {P : World → Prop} (h : Dep w z y P) (hs : y ≤ w'.heap.size) (hk : ∀ k, z ≤ k → k < y → w'.heap[k]? = w.heap[k]?) : Dep w' z y P :=
  ⟨hs, fun w2 h2 k2 => h.2 w2 h2 (fun k q1 q2 => (k2 k q1 q2).trans (hk k q1 q2))⟩
theorem Dep.below {w w' : World} {z y : Nat} {P : World → Prop} (h : Dep w z y P) (hb : Below w.heap.size w w') : Dep w' z y P :=
  h.next (Nat.le_trans h.1 hb.size) (fun k _ q => hb.block k (Nat.lt_of_lt_of_le q h.1))
theorem Dep.set {w : World} {z y p o : Nat} {v : Value} {P : World → Prop} (h : Dep w z y P) (hp : p < z ∨ y ≤ p) : Dep (w.setCell ⟨p, o, none⟩ v) z y P :=
  h.next (Nat.le_trans h.1 (setcell_size _ _ _)) (fun k q1 q2 => heap_setCell_other w ⟨p, o, none⟩ k v (by show k ≠ p; omega))
theorem Dep.imp {w : World} {z y : Nat} {P Q : World → Prop} (h : Dep w z y P) (f : ∀ W, P W → Q W) : Dep w z y Q := ⟨h.1, fun w' a b => f _ (h.2 w' a b)⟩
theorem Dep.and {w : World} {z y : Nat} {P Q : World → Prop} (h : Dep w z y P) (k : Dep w z y Q) : Dep w z y (fun W => P W ∧ Q W) := ⟨h.1, fun w' a b => ⟨h.2 w' a b, k.2 w' a b⟩⟩
theorem Dep.widen {w : World} {z z' y : Nat} {P : World → Prop} (h : Dep w z y P) (hz : z' ≤ z) : Dep w z' y P := ⟨h.1, fun w' a b => h.2 w' a (fun k q1 q2 => b k (Nat.le_trans hz q1) q2)⟩
theorem RepF.dep {w : World} {z : Nat} {aS al am au : Option Addr} {cs cl cm cu : Nat} {s : List Ob} {l : List Rf} {m : List Ob} {us : List Up} (h : RepF w z aS cs s al cl l am cm m au cu us) : Dep w z w.heap.size (fun W => RepH W aS s al l am m au us) :=
  ⟨Nat.le_refl _, fun w' hs hk => by
    obtain ⟨a, b, c, d⟩ := (h.fr.kept hs hk).holds
    exact ⟨a, b, c, d, h.h.ns, h.h.nl, h.h.nm, h.h.nu⟩⟩
theorem Objs.dep {w : World} {z : Nat} {m : List Ob} {rs : List Pl} {a : Option Addr} {c : Nat} (e : rs.map Pl.x = m) (o : Objs w z (.slice a m.length c) rs) : Dep w z w.heap.size (fun W => HoldsS W a m ∧ Room W a m) :=
  ⟨Nat.le_refl _, fun w' hs hk => by
    have o' := o.kept hs hk
    refine ⟨Objs.list e o', ?_⟩
    have := o'.room
    rwa [e] at this⟩

theorem Ld.dep {w : World} {z L B cap : Nat} {Q : Nat → Rq} {V : Nat → ByteArray} (h : Ld w z L B 0 cap Q V) : Dep w z w.heap.size (fun W => HoldsQ W (some ⟨B, 0, none⟩) [Q 0, Q 1, Q 2]) :=
  ⟨Nat.le_refl _, fun w' hs hk => by
    have hB := (hk B h.zb h.ltB)
    have hl : Like z (fun k => k = B ∨ k = L) w w' := ⟨hs, fun k q1 q2 _ => hk k q1 q2⟩
    intro i hi
    refine ⟨B, 0, rfl, Nat.lt_of_lt_of_le h.ltB hs, fun j hj => ?_⟩
    have hj' : j = 0 ∨ j = 1 ∨ j = 2 := by simp at hj; omega
    rcases hj' with rfl | rfl | rfl
    · exact ⟨(h.row 0 (by omega)).block hB, h.each 0 (by omega) w' hl⟩
    · exact ⟨(h.row 1 (by omega)).block hB, h.each 1 (by omega) w' hl⟩
    · exact ⟨(h.row 2 (by omega)).block hB, h.each 2 (by omega) w' hl⟩⟩
end

section
open Go.RowKit
set_option maxRecDepth 100000

def rOf (l : List Rp) (i : Nat) : Rp := l.getD i ⟨[], [], 0, 0, [], [], false⟩
def vI (l : List Rp) (m : List Ob) (us : List Up) (f : Bool) (up : Int) (i : Nat) : ByteArray := askV m us f up (rOf l i) i
def tI (l : List Rp) (m : List Ob) (us : List Up) (f : Bool) (up : Int) : ByteArray × Bool := tal3 (vI l m us f up 0) (vI l m us f up 1) (vI l m us f up 2)
def wI (l : List Rp) (m : List Ob) (us : List Up) (f : Bool) (up late : Int) (i : Nat) : Bool := wouldB (tI l m us f up).2 (vI l m us f up i) (tI l m us f up).1 late i
def doI (l : List Rp) (m : List Ob) (us : List Up) (f : Bool) (up late : Int) : Bool := decide (3 < 2 * cntTo (wI l m us f up late) 3)
def cI (l : List Rp) (m : List Ob) (us : List Up) (f : Bool) (up late : Int) (i : Nat) : Bool := doI l m us f up late && wI l m us f up late i
def eI (l : List Rp) (m : List Ob) (us : List Up) (f : Bool) (up late : Int) (i : Nat) : Rp := finR (askR m us f up (rOf l i) i) (vI l m us f up i) (cI l m us f up late i)
def enE (l : List Rp) (m : List Ob) (us : List Up) (f : Bool) (up late : Int) : Int := fstE (fun i => finV (askR m us f up (rOf l i) i) (vI l m us f up i) (cI l m us f up late i))
/-- what Push answers: its error. -/
def pE (l : List Rp) (m : List Ob) (us : List Up) (f : Bool) (up late : Int) : Int := if cpE l m us up late ≠ 0 then cpE l m us up late else enE l m us f up late
def eL (l : List Rp) (m : List Ob) (us : List Up) (f : Bool) (up late : Int) : List Rp := [eI l m us f up late 0, eI l m us f up late 1, eI l m us f up late 2]
def PuPost (l : List Rp) (m : List Ob) (us : List Up) (f : Bool) (up late : Int) (w : World) (e : Ending) (w' : World) : Prop :=
  Below w.heap.size w w' ∧ ((pE l m us f up late ≠ 0 ∧ e = .returned (.tuple #[.agg #[.slice none 0 0], .bool false, .int .i64 (pE l m us f up late)])) ∨
    (pE l m us f up late = 0 ∧ ∃ B cap qs, e = .returned (.tuple #[.agg #[.slice (some ⟨B, 0, none⟩) 3 cap], .bool (doI l m us f up late), .int .i64 0]) ∧ qs.map Rq.r = eL l m us f up late ∧ Dep w' w.heap.size w'.heap.size (fun W => HoldsQ W (some ⟨B, 0, none⟩) qs) ∧ 3 ≤ cap ∧ cap ≤ 9223372036854775807))

theorem Ld.holds {w : World} {z L B cap : Nat} {Q : Nat → Rq} {V : Nat → ByteArray} (h : Ld w z L B 0 cap Q V) : HoldsQ w (some ⟨B, 0, none⟩) [Q 0, Q 1, Q 2] := by
  intro i hi
  refine ⟨B, 0, rfl, h.ltB, fun j hj => ?_⟩
  have hj' : j = 0 ∨ j = 1 ∨ j = 2 := by simp at hj; omega
  rcases hj' with rfl | rfl | rfl
  · exact ⟨h.row 0 (by omega), (h.each 0 (by omega)).self⟩
  · exact ⟨h.row 1 (by omega), (h.each 1 (by omega)).self⟩
  · exact ⟨h.row 2 (by omega), (h.each 2 (by omega)).self⟩
theorem Ld.of_copy {w : World} {z B cap : Nat} {qs : List Rq} (h : Qs w z (.slice (some ⟨B, 0, none⟩) 3 cap) qs) (hl : qs.length = 3) (d : Rq) (hz : z ≤ w.heap.size) :
    Ld (w.alloc (.cells #[.slice (some ⟨B, 0, none⟩) 3 cap, .string sNil, .string sNil, .string sNil] 89)) z w.heap.size B 0 cap (fun i => qs.getD i d) (fun _ => sNil) := by
  have hA := below_alloc w (.cells #[.slice (some ⟨B, 0, none⟩) 3 cap, .string sNil, .string sNil, .string sNil] 89)
  have hn := heap_alloc_new w (.cells #[.slice (some ⟨B, 0, none⟩) 3 cap, .string sNil, .string sNil, .string sNil] 89)
  have hlt := h.own.lt B rfl
  have hcl := h.own.cells (g := B) rfl
  have hadd : ∀ j, (⟨B, 0, none⟩ : Addr).add j = ⟨B, 0 + j, none⟩ := fun j => by unfold Addr.add; split <;> simp_all
  have hat : ∀ i, i < 3 → QAt w B (0 + i * 7) (qs.getD i d) := by
    intro i hi
    have hiq : i < qs.length := by omega
    have e : qs.getD i d = qs[i] := by simp [hiq]
    rw [e]
    have hr : ∀ j u, j < 7 → (qs[i].cells)[j]? = some u → w.cell? ⟨B, 0 + i * 7 + j, none⟩ = some u := by
      intro j u hj hu
      have := hcl (i * 7 + j) u (by rw [rowQ_get qs i j hiq hj]; exact hu)
      rw [hadd] at this
      rw [show 0 + i * 7 + j = 0 + (i * 7 + j) by omega]; exact this
    exact ⟨hr 0 _ (by omega) rfl, hr 1 _ (by omega) rfl, hr 2 _ (by omega) rfl, hr 3 _ (by omega) rfl, hr 4 _ (by omega) rfl, hr 5 _ (by omega) rfl, hr 6 _ (by omega) rfl⟩
  refine ⟨⟨_, hn⟩, ?_, hz, hlt.1, by omega, ?_, ?_, fun i hi => (hat i hi).block (hA.block B hlt.2), ?_⟩
  · rcases h.own.2 with ⟨e, _⟩ | ⟨g, c2, cur, e, _, hg, _⟩
    · cases e
    · have hgB : some g = some B := by have := congrArg Value.ownBlock e; simpa [Value.ownBlock] using this.symm
      cases hgB
      exact ⟨cur, (hA.block _ hlt.2).trans hg⟩
  · rw [cell_of_row _ _ _ _ _ _ hn]; rfl
  · intro i hi
    have : i = 0 ∨ i = 1 ∨ i = 2 := by omega
    rcases this with rfl | rfl | rfl <;> (rw [cell_of_row _ _ _ _ _ _ hn]; rfl)
  · intro i hi
    have hm : qs.getD i d ∈ qs := by
      have hiq : i < qs.length := by omega
      have e : qs.getD i d = qs[i] := by simp [hiq]
      rw [e]; exact List.getElem_mem _
    refine (h.each _ hm).next (Like.of_below hA) (fun j hj e => ?_)
    rcases e with rfl | rfl
    · rfl
    · exact absurd hj (Nat.lt_irrefl _)
theorem rOf_map {l : List Rq} {i : Nat} {d : Rq} (h : i < l.length) : rOf (l.map Rq.r) i = (l.getD i d).r := by simp [rOf, h]
theorem four_blocks (w : World) (A B C D : Obj) : ((((w.alloc A).alloc B).alloc C).alloc D).heap[w.heap.size]? = some A ∧ ((((w.alloc A).alloc B).alloc C).alloc D).heap[w.heap.size + 1]? = some B ∧ ((((w.alloc A).alloc B).alloc C).alloc D).heap[w.heap.size + 2]? = some C ∧ ((((w.alloc A).alloc B).alloc C).alloc D).heap[w.heap.size + 3]? = some D ∧ Below w.heap.size w ((((w.alloc A).alloc B).alloc C).alloc D) := by
  obtain ⟨h1, h2, h3, hB⟩ := three_blocks w A B C
  have hA := below_alloc (((w.alloc A).alloc B).alloc C) D
  have h4 := heap_alloc_new (((w.alloc A).alloc B).alloc C) D
  rw [show (((w.alloc A).alloc B).alloc C).heap.size = w.heap.size + 3 by simp] at h4
  exact ⟨(hA.block _ (heap_lt h1)).trans h1, (hA.block _ (heap_lt h2)).trans h2, (hA.block _ (heap_lt h3)).trans h3, h4, hB.trans (hA.mono hB.size)⟩
theorem PuPost.bad {l : List Rp} {m : List Ob} {us : List Up} {f : Bool} {up late : Int} {w w' : World} {r : Int} (h : pE l m us f up late = r) (h0 : r ≠ 0) (hb : Below w.heap.size w w') : PuPost l m us f up late w (.returned (.tuple #[.agg #[.slice none 0 0], .bool false, .int .i64 r])) w' :=
  ⟨hb, .inl ⟨by rw [h]; exact h0, by rw [h]⟩⟩
end

section
open Go.RowKit
set_option maxRecDepth 100000

theorem one1_iff {x v : ByteArray} : one1 x v = 1 ↔ x = v := by
  unfold one1
  constructor
  · intro h
    split at h
    · rename_i c; exact name_eq.1 c
    · cases h
  · intro h; rw [if_pos (name_eq.2 h)]
theorem good_iff {a b c v : ByteArray} : good a b c v = true ↔ preB v = true ∧ 2 ≤ cnt a b c v := by simp [good, wonB]
theorem talL_told {a b c : ByteArray} : ∀ L : List ByteArray, (talL a b c L).2 = true → good a b c (talL a b c L).1 = true
  | [], h => by cases h
  | v :: r, h => by
    unfold talL at h ⊢
    split
    · assumption
    · rename_i k
      rw [if_neg k] at h
      exact talL_told r h
theorem tal3_pre {a b c : ByteArray} (h : (tal3 a b c).2 = true) : preB (tal3 a b c).1 = true := (good_iff.1 (talL_told _ h)).1
theorem pre_nil : preB sNil = false := by decide +kernel
theorem empty_iff {v : ByteArray} : v.toList.isEmpty = true ↔ v = sNil := by
  rw [List.isEmpty_iff]
  constructor
  · intro h
    exact name_eq.1 (by rw [h, show sNil.toList = [] by decide +kernel]; rfl)
  · rintro rfl; decide +kernel
theorem without_nil {m : List Ob} {us : List Up} {f : Bool} (h : withoutB m us f = true) : m = [] ∧ us = [] ∧ f = false := by
  simp only [withoutB, Bool.and_eq_true, decide_eq_true_eq] at h
  exact ⟨List.eq_nil_of_length_eq_zero h.1.1, List.eq_nil_of_length_eq_zero h.1.2, by simpa using h.2⟩
theorem rep_idle {s : List Ob} {l : List Rf} {g : Int} (h : refsE l s = 0) (hg : 0 ≤ g ∧ g ≤ 999) : repE s l g 0 [] [] false = 0 := repE_iff.2 ⟨h, hg, by omega, fun e => absurd rfl e, fun _ => rfl⟩
theorem vote_yes {s : List Ob} {l : List Rf} {g : Int} {m : List Ob} {us : List Up} {f : Bool} (hv : voteE g m us = 0) (h : tryE s l m us f = 0) : voteS s l g m us f = sYesB ++ (itoaS g ++ sBl ++ textS us) := by
  unfold voteS voteT
  rw [if_neg (fun e => e hv), if_neg (fun e => e h)]
  apply ByteArray.ext
  simp [ByteArray.data_append, Array.append_assoc]
theorem vote_not {s : List Ob} {l : List Rf} {g : Int} {m : List Ob} {us : List Up} {f : Bool} (hv : voteE g m us = 0) (h : tryE s l m us f ≠ 0) : preB (voteS s l g m us f) = false := by
  unfold voteS voteT
  rw [if_neg (fun e => e hv), if_pos h]
  unfold preB Lib.hasPrefix
  rw [ByteArray.data_append, Array.toList_append]
  rfl
theorem vote_some {s : List Ob} {l : List Rf} {g : Int} {m : List Ob} {us : List Up} {f : Bool} (hv : voteE g m us = 0) : voteS s l g m us f ≠ sNil := by
  intro e
  have h : 3 ≤ (voteS s l g m us f).size := by
    unfold voteS voteT
    rw [if_neg (fun e => e hv)]
    split
    · rw [size_app]; show 3 ≤ 3 + _; omega
    · rw [size_app, size_app, size_app]; show 3 ≤ 4 + _ + _ + _; omega
  rw [e] at h
  exact absurd h (by decide)
def readD (l : List UInt8) : Nat := l.foldl (fun n c => n * 10 + (c.toNat - 48)) 0
theorem readD_itoa : ∀ n : Nat, n ≤ 999 → readD (itoaS (n : Int)).data.toList = n := by decide +kernel
theorem itoa_inj {g h : Int} (hg : 0 ≤ g ∧ g ≤ 999) (hh : 0 ≤ h ∧ h ≤ 999) (e : itoaS g = itoaS h) : g = h := by
  obtain ⟨n, rfl⟩ := Int.eq_ofNat_of_zero_le hg.1
  obtain ⟨k, rfl⟩ := Int.eq_ofNat_of_zero_le hh.1
  have h1 := readD_itoa n (by omega)
  have h2 := readD_itoa k (by omega)
  rw [e, h2] at h1
  omega
theorem yes_same {g h : Int} {t : ByteArray} (hg : 0 ≤ g ∧ g ≤ 999) (hh : 0 ≤ h ∧ h ≤ 999) (e : sYesB ++ (itoaS g ++ sBl ++ t) = sYesB ++ (itoaS h ++ sBl ++ t)) : g = h := by
  refine itoa_inj hg hh (ByteArray.ext ?_)
  have q := congrArg (fun x => x.data.toList) e
  simp only [ByteArray.data_append, Array.toList_append, List.append_assoc] at q
  have q1 := List.append_cancel_left q
  have q2 := List.append_cancel_right q1
  exact Array.ext' q2

theorem ask_no {m : List Ob} {us : List Up} {f : Bool} {up : Int} {r : Rp} {i : Nat} (h : askB up r i = false) : askR m us f up r i = r ∧ askV m us f up r i = sNil := by simp [askR, askV, h]
theorem ask_yes {m : List Ob} {us : List Up} {f : Bool} {up : Int} {r : Rp} {i : Nat} (h : askB up r i = true) : askR m us f up r i = ⟨r.s, r.l, r.g, 2, m, us, f⟩ ∧ askV m us f up r i = voteS r.s r.l r.g m us f := by simp [askR, askV, h]
theorem fin_nil (r : Rp) (c : Bool) : finR r sNil c = r ∧ finV r sNil c = 0 := by
  unfold finR finV
  rw [if_pos (empty_iff.2 rfl), if_pos (empty_iff.2 rfl)]; exact ⟨rfl, rfl⟩
theorem fin_some (r : Rp) {v : ByteArray} (c : Bool) (h : v ≠ sNil) : finR r v c = ⟨finS r.s r.m c, finL r.l r.us c, finG r.g c, 0, [], [], false⟩ ∧ finV r v c = finE r.s r.l r.g r.ph r.m r.us r.f c := by
  unfold finR finV
  rw [if_neg (fun e => h (empty_iff.1 e)), if_neg (fun e => h (empty_iff.1 e))]; exact ⟨rfl, rfl⟩
theorem idle_rest {r : Rp} (h : r.err = 0) (hp : r.ph = 0) : (⟨r.s, r.l, r.g, 0, [], [], false⟩ : Rp) = r := by
  obtain ⟨s, l, g, ph, m, us, f⟩ := r
  obtain ⟨rfl, rfl, rfl⟩ := without_nil ((repE_iff.1 h).2.2.2.2 hp)
  cases hp; rfl
theorem err_gen {r : Rp} (h : r.err = 0) : 0 ≤ r.g ∧ r.g ≤ 999 := (repE_iff.1 h).2.1
theorem vote_right {r : Rp} {m : List Ob} {us : List Up} (h : r.err = 0) (hp : pushE m us = 0) : voteE r.g m us = 0 := voteE_iff.2 ⟨hp, err_gen h⟩
theorem ask_ph {up : Int} {r : Rp} {i : Nat} (h : askB up r i = true) : bitB up i = true ∧ r.ph = 0 := by
  simpa [askB] using h

section
variable {l : List Rp} {m : List Ob} {us : List Up} {f : Bool} {up late : Int} {i : Nat}
theorem eI_out (he : (rOf l i).err = 0) (hp : pushE m us = 0) (hc : cI l m us f up late i = false) : eI l m us f up late i = rOf l i := by
  unfold eI
  rw [hc]
  cases ha : askB up (rOf l i) i with
  | false =>
    rw [(ask_no ha).1]; unfold vI; rw [(ask_no ha).2]; exact (fin_nil _ _).1
  | true =>
    rw [(ask_yes ha).1]; unfold vI; rw [(ask_yes ha).2]
    rw [(fin_some _ _ (vote_some (vote_right he hp))).1]
    exact idle_rest he (ask_ph ha).2
theorem wI_in (he : (rOf l i).err = 0) (hp : pushE m us = 0) (hw : wI l m us f up late i = true) :
    askB up (rOf l i) i = true ∧ tryE (rOf l i).s (rOf l i).l m us f = 0 ∧ bitB late i = false ∧ sYesB ++ (itoaS (rOf l i).g ++ sBl ++ textS us) = (tI l m us f up).1 := by
  unfold wI wouldB at hw
  simp only [Bool.and_eq_true, Bool.not_eq_true'] at hw
  obtain ⟨⟨h1, h2⟩, h3⟩ := hw
  have hpre : preB (tI l m us f up).1 = true := tal3_pre h1
  have hv : vI l m us f up i = (tI l m us f up).1 := name_eq.1 h2
  rw [← hv] at hpre ⊢
  unfold vI at hpre ⊢
  cases ha : askB up (rOf l i) i with
  | false => rw [(ask_no ha).2, pre_nil] at hpre; cases hpre
  | true =>
    rw [(ask_yes ha).2] at hpre ⊢
    have ht : tryE (rOf l i).s (rOf l i).l m us f = 0 := by
      refine Classical.byContradiction fun hn => ?_
      rw [vote_not (vote_right he hp) hn] at hpre; cases hpre
    exact ⟨rfl, ht, h3, (vote_yes (vote_right he hp) ht).symm⟩
theorem cI_wI (h : cI l m us f up late i = true) : doI l m us f up late = true ∧ wI l m us f up late i = true := by
  simpa [cI] using h
theorem eI_in (he : (rOf l i).err = 0) (hp : pushE m us = 0) (hc : cI l m us f up late i = true) (hz : finV (askR m us f up (rOf l i) i) (vI l m us f up i) (cI l m us f up late i) = 0) :
    eI l m us f up late i = ⟨takeRes (rOf l i).s m, runL (rOf l i).l us, (rOf l i).g + 1, 0, [], [], false⟩ ∧ tryE (rOf l i).s (rOf l i).l m us f = 0 ∧ (rOf l i).g ≠ 999 := by
  obtain ⟨h1, h2, _, _⟩ := wI_in he hp (cI_wI hc).2
  unfold eI
  rw [hc] at hz ⊢
  rw [(ask_yes h1).1] at hz ⊢
  unfold vI at hz ⊢
  rw [(ask_yes h1).2] at hz ⊢
  rw [(fin_some _ _ (vote_some (vote_right he hp))).1]
  rw [(fin_some _ _ (vote_some (vote_right he hp))).2] at hz
  refine ⟨rfl, h2, fun h9 => ?_⟩
  have hr : repE (rOf l i).s (rOf l i).l (rOf l i).g 2 m us f = 0 := rep_held he hp ⟨by decide, by decide⟩
  unfold finE at hz
  rw [if_neg (fun e => e (duE_iff.2 ⟨hr, rfl⟩)), if_neg (by decide), if_neg (fun e => e h2), if_pos h9] at hz
  cases hz
end
theorem pE_zero {l : List Rp} {m : List Ob} {us : List Up} {f : Bool} {up late : Int} (h : pE l m us f up late = 0) : cpE l m us up late = 0 ∧ ∀ i, i < 3 → finV (askR m us f up (rOf l i) i) (vI l m us f up i) (cI l m us f up late i) = 0 := by
  unfold pE at h
  split at h
  · rename_i c; exact absurd h c
  · rename_i c
    exact ⟨Classical.byContradiction c, fstE_zero.1 h⟩

theorem checkC_iff {l : List Rp} : checkC l = 0 ↔ l.length = 3 ∧ (∀ i, i < 3 → (rOf l i).err = 0) ∧ (∀ i j, i < j → j < 3 → ¬ unl (rOf l i) (rOf l j)) ∧ 2 ≤ cntTo (topB l) 3 := by
  have key : l.length = 3 → ∀ i (h : i < l.length), rOf l i = l[i] := fun _ i h => by simp [rOf, h]
  unfold checkC
  by_cases h3 : l.length = 3
  · rw [if_neg (fun e => e h3)]
    have k := key h3
    have hf : firstE l = 0 ↔ ∀ i, i < 3 → (rOf l i).err = 0 := by
      rw [firstE_zero]
      constructor
      · intro h i hi; rw [k i (by omega)]; exact h _ (List.getElem_mem _)
      · intro h r hr
        obtain ⟨n, hn, rfl⟩ := List.mem_iff_getElem.1 hr
        rw [← k n hn]; exact h n (by omega)
    have hu : anyUnlB l = true ↔ ∃ i j, i < j ∧ j < 3 ∧ unl (rOf l i) (rOf l j) := by
      rw [anyUnlB_iff]
      constructor
      · rintro ⟨i, j, hi, hj, hij, q⟩; exact ⟨i, j, hij, by omega, by rw [k i hi, k j hj]; exact q⟩
      · rintro ⟨i, j, hij, hj, q⟩; exact ⟨i, j, by omega, by omega, hij, by rw [k i (by omega), k j (by omega)] at q; exact q⟩
    constructor
    · intro h
      split at h
      · rename_i c; exact absurd h c
      rename_i c1
      split at h
      · cases h
      rename_i c2
      split at h
      · rename_i c3
        exact ⟨h3, hf.1 (Classical.byContradiction c1), fun i j hij hj q => c2 (hu.2 ⟨i, j, hij, hj, q⟩), by omega⟩
      · cases h
    · rintro ⟨_, h1, h2, h4⟩
      rw [if_neg (fun e => e (hf.2 h1)), if_neg (fun e => by obtain ⟨i, j, hij, hj, q⟩ := hu.1 e; exact h2 i j hij hj q), if_pos (by omega)]
  · rw [if_pos h3]
    constructor
    · intro h; cases h
    · intro h; exact absurd h.1 h3
def bestI (l : List Rp) : Nat := bestTo (gOf l) l.length
theorem best_max (gs : List Int) (n : Nat) : ∀ k, k < n → gs.getD k 0 ≤ gs.getD (bestTo gs n) 0 := by
  induction n with
  | zero => intro k hk; omega
  | succ n ih =>
    intro k hk
    rw [bestTo]
    rcases Nat.lt_or_ge k n with c | c
    · have := ih k c
      split
      · omega
      · exact this
    · have : k = n := by omega
      subst this
      split
      · exact Int.le_refl _
      · omega
theorem gOf_at (l : List Rp) (i : Nat) : (gOf l).getD i 0 = (rOf l i).g := by
  unfold gOf rOf
  rw [List.getD_eq_getElem?_getD, List.getD_eq_getElem?_getD, List.getElem?_map]
  cases l[i]? <;> rfl
theorem bestI_lt {l : List Rp} (h : l.length = 3) : bestI l < 3 := by
  have := bestTo_lt (gOf l) l.length l.length (by omega) (Nat.le_refl _)
  unfold bestI; omega
theorem bestI_max {l : List Rp} (h : l.length = 3) {i : Nat} (hi : i < 3) : (rOf l i).g ≤ (rOf l (bestI l)).g := by
  have := best_max (gOf l) l.length i (by omega)
  rwa [gOf_at, gOf_at] at this
theorem topB_iff {l : List Rp} {i : Nat} : topB l i = true ↔ (rOf l i).g = (rOf l (bestI l)).g := by
  unfold topB
  rw [gOf_at, gOf_at, beq_iff_eq]; rfl
theorem two_meet {a b : Nat → Bool} (ha : 2 ≤ cntTo a 3) (hb : 2 ≤ cntTo b 3) : ∃ k, k < 3 ∧ a k = true ∧ b k = true := by
  simp only [cntTo] at ha hb
  cases a0 : a 0 <;> cases a1 : a 1 <;> cases a2 : a 2 <;> cases b0 : b 0 <;> cases b1 : b 1 <;> cases b2 : b 2 <;> simp [a0, a1, a2, b0, b1, b2] at ha hb <;>
    first | exact ⟨0, by decide, a0, b0⟩ | exact ⟨1, by decide, a1, b1⟩ | exact ⟨2, by decide, a2, b2⟩
theorem cnt_mono {a b : Nat → Bool} (h : ∀ i, i < 3 → a i = true → b i = true) : cntTo a 3 ≤ cntTo b 3 := by
  have h0 := h 0 (by decide); have h1 := h 1 (by decide); have h2 := h 2 (by decide)
  simp only [cntTo]
  revert h0 h1 h2
  cases a 0 <;> cases a 1 <;> cases a 2 <;> cases b 0 <;> cases b 1 <;> cases b 2 <;> simp
theorem cnt_one {a : Nat → Bool} (h : 2 ≤ cntTo a 3) : ∃ i, i < 3 ∧ a i = true := by
  obtain ⟨k, hk, h1, _⟩ := two_meet h h; exact ⟨k, hk, h1⟩
theorem rOf_eL {l : List Rp} {m : List Ob} {us : List Up} {f : Bool} {up late : Int} {i : Nat} (hi : i < 3) : rOf (eL l m us f up late) i = eI l m us f up late i := by
  have : i = 0 ∨ i = 1 ∨ i = 2 := by omega
  rcases this with rfl | rfl | rfl <;> rfl

/-- what a push that has no error makes of a cluster. -/
structure Pushed (l : List Rp) (m : List Ob) (us : List Up) (f : Bool) (up late : Int) : Prop where
  len : l.length = 3
  err : ∀ i, i < 3 → (rOf l i).err = 0
  not : ∀ i, i < 3 → cI l m us f up late i = false → eI l m us f up late i = rOf l i
  yes : ∀ i, i < 3 → cI l m us f up late i = true → eI l m us f up late i = ⟨takeRes (rOf l i).s m, runL (rOf l i).l us, (rOf l i).g + 1, 0, [], [], false⟩ ∧ tryE (rOf l i).s (rOf l i).l m us f = 0 ∧ (rOf l i).g ≠ 999
  top : ∀ i, i < 3 → cI l m us f up late i = true → (rOf l i).g = (rOf l (bestI l)).g
  many : doI l m us f up late = true → 2 ≤ cntTo (cI l m us f up late) 3
  right : checkC (eL l m us f up late) = 0
  best : doI l m us f up late = true → cI l m us f up late (bestI (eL l m us f up late)) = true
theorem pushed {l : List Rp} {m : List Ob} {us : List Up} {f : Bool} {up late : Int} (h : pE l m us f up late = 0) : Pushed l m us f up late := by
  obtain ⟨hcp, hfv⟩ := pE_zero h
  obtain ⟨hC, hP, -, -⟩ := cpE_zero.1 hcp
  obtain ⟨hlen, herr, hun, htop⟩ := checkC_iff.1 hC
  have hnot : ∀ i, i < 3 → cI l m us f up late i = false → eI l m us f up late i = rOf l i := fun i hi hc => eI_out (herr i hi) hP hc
  have hyes := fun i (hi : i < 3) (hc : cI l m us f up late i = true) => eI_in (herr i hi) hP hc (hfv i hi)
  have hmany : doI l m us f up late = true → 2 ≤ cntTo (cI l m us f up late) 3 := fun hd => by
    have h1 : 2 ≤ cntTo (wI l m us f up late) 3 := by
      have := hd; unfold doI at this; have := of_decide_eq_true this; omega
    exact Nat.le_trans h1 (cnt_mono fun i _ hw => by unfold cI; rw [hd, hw]; rfl)
  have hT : ∀ i, i < 3 → cI l m us f up late i = true → (rOf l i).g = (rOf l (bestI l)).g := fun i hi hc => by
    obtain ⟨hd, hw⟩ := cI_wI hc
    obtain ⟨k, hk, hck, htk⟩ := two_meet (hmany hd) htop
    obtain ⟨_, _, _, e1⟩ := wI_in (herr i hi) hP hw
    obtain ⟨_, _, _, e2⟩ := wI_in (herr k hk) hP (cI_wI hck).2
    rw [yes_same (err_gen (herr i hi)) (err_gen (herr k hk)) (e1.trans e2.symm)]
    exact topB_iff.1 htk
  have herr' : ∀ i, i < 3 → (eI l m us f up late i).err = 0 := fun i hi => by
    cases hc : cI l m us f up late i with
    | false => rw [hnot i hi hc]; exact herr i hi
    | true =>
      obtain ⟨e, ht, h9⟩ := hyes i hi hc
      rw [e]
      have hg := err_gen (herr i hi)
      exact rep_idle (applyE_iff.1 (tryE_iff.1 ht).2.2).2.2.2 (by show 0 ≤ (rOf l i).g + 1 ∧ (rOf l i).g + 1 ≤ 999; omega)
  have hg' : ∀ i, i < 3 → (eI l m us f up late i).g = if cI l m us f up late i = true then (rOf l (bestI l)).g + 1 else (rOf l i).g := fun i hi => by
    cases hc : cI l m us f up late i with
    | false => rw [hnot i hi hc]; rfl
    | true => rw [(hyes i hi hc).1, if_pos rfl]; show (rOf l i).g + 1 = _; rw [hT i hi hc]
  have hbl := bestI_lt (l := eL l m us f up late) rfl
  have hbest : doI l m us f up late = true → cI l m us f up late (bestI (eL l m us f up late)) = true := fun hd => by
    obtain ⟨k, hk, hck⟩ := cnt_one (hmany hd)
    have h1 := bestI_max (l := eL l m us f up late) rfl hk
    rw [rOf_eL hk, rOf_eL hbl, hg' k hk, if_pos hck, hg' _ hbl] at h1
    cases hc : cI l m us f up late (bestI (eL l m us f up late)) with
    | true => rfl
    | false =>
      rw [hc, if_neg (by decide)] at h1
      have := bestI_max hlen hbl
      omega
  refine ⟨hlen, herr, hnot, hyes, hT, hmany, ?_, hbest⟩
  refine checkC_iff.2 ⟨rfl, fun i hi => by rw [rOf_eL hi]; exact herr' i hi, fun i j hij hj => ?_, ?_⟩
  · have hi : i < 3 := by omega
    rw [rOf_eL hi, rOf_eL hj]
    rintro ⟨q1, q2⟩
    rw [hg' i hi, hg' j hj] at q1
    cases ci : cI l m us f up late i <;> cases cj : cI l m us f up late j
    · rw [hnot i hi ci, hnot j hj cj] at q2
      rw [ci, cj] at q1
      exact hun i j hij hj ⟨q1, q2⟩
    · rw [ci, cj] at q1
      simp at q1
      have := bestI_max hlen hi; omega
    · rw [ci, cj] at q1
      simp at q1
      have := bestI_max hlen hj; omega
    · rw [(hyes i hi ci).1, (hyes j hj cj).1] at q2
      refine hun i j hij hj ⟨(hT i hi ci).trans (hT j hj cj).symm, fun e => q2 ?_⟩
      show runL (rOf l i).l us = runL (rOf l j).l us
      rw [e]
  · cases hd : doI l m us f up late with
    | true =>
      have hb := hbest hd
      refine Nat.le_trans (hmany hd) (cnt_mono fun i hi hc => topB_iff.2 ?_)
      rw [rOf_eL hi, rOf_eL hbl, hg' i hi, hg' _ hbl, if_pos hc, if_pos hb]
    | false =>
      have hc : ∀ i, cI l m us f up late i = false := fun i => by unfold cI; rw [hd]; rfl
      have e : ∀ i, i < 3 → rOf (eL l m us f up late) i = rOf l i := fun i hi => by rw [rOf_eL hi]; exact hnot i hi (hc i)
      refine Nat.le_trans htop (cnt_mono fun i hi ht => topB_iff.2 ?_)
      rw [e i hi]
      have h1 := bestI_max (l := eL l m us f up late) rfl hi
      have h2 := bestI_max (l := eL l m us f up late) rfl (bestI_lt hlen)
      have h3 := bestI_max hlen hbl
      have h4 := topB_iff.1 ht
      rw [e _ hbl] at h1 h2 ⊢
      rw [e i hi] at h1
      rw [e _ (bestI_lt hlen)] at h2
      omega
theorem Pushed.same {l : List Rp} {m : List Ob} {us : List Up} {f : Bool} {up late : Int} (h : Pushed l m us f up late) (hd : doI l m us f up late = false) : eL l m us f up late = l := by
  have hc : ∀ i, cI l m us f up late i = false := fun i => by unfold cI; rw [hd]; rfl
  obtain ⟨a, b, c, rfl⟩ : ∃ a b c, l = [a, b, c] := by
    match l, h.len with
    | [a, b, c], _ => exact ⟨a, b, c, rfl⟩
  unfold eL
  rw [h.not 0 (by decide) (hc 0), h.not 1 (by decide) (hc 1), h.not 2 (by decide) (hc 2)]
  rfl
/-- the greatest Gen, behind a push. -/
theorem Pushed.grown {l : List Rp} {m : List Ob} {us : List Up} {f : Bool} {up late : Int} (h : Pushed l m us f up late) : (rOf (eL l m us f up late) (bestI (eL l m us f up late))).g = (rOf l (bestI l)).g + if doI l m us f up late = true then 1 else 0 := by
  cases hd : doI l m us f up late with
  | false => rw [h.same hd]; simp
  | true =>
    have hbl := bestI_lt (l := eL l m us f up late) rfl
    rw [rOf_eL hbl, (h.yes _ hbl (h.best hd)).1, if_pos rfl]
    show (rOf l _).g + 1 = _
    rw [h.top _ hbl (h.best hd)]
theorem Pushed.moved {l : List Rp} {m : List Ob} {us : List Up} {f : Bool} {up late : Int} (h : Pushed l m us f up late) {i : Nat} (hi : i < 3) (hc : cI l m us f up late i = true) : eI l m us f up late i ≠ rOf l i ∧ ∀ u ∈ us, lookI (eI l m us f up late i).l u.name = u.new := by
  obtain ⟨e, ht, _⟩ := h.yes i hi hc
  rw [e]
  refine ⟨fun q => ?_, fun u hu => apply_new (tryE_iff.1 ht).2.2 hu⟩
  have := congrArg Rp.g q
  have : (rOf l i).g + 1 = (rOf l i).g := this
  omega

/-! What is said of who takes no part. -/
section
variable {l : List Rp} {m : List Ob} {us : List Up} {f : Bool} {up late late' : Int}
theorem wI_bits (h : ∀ i, i < 3 → bitB up i = true → bitB late i = bitB late' i) : ∀ i, i < 3 → wI l m us f up late i = wI l m us f up late' i := fun i hi => by
  unfold wI wouldB
  cases hu : bitB up i with
  | true => rw [h i hi hu]
  | false =>
    have ha : askB up (rOf l i) i = false := by unfold askB; rw [hu]; rfl
    have hv : vI l m us f up i = sNil := (ask_no ha).2
    cases hw : (tI l m us f up).2 with
    | false => rfl
    | true =>
      have hp : preB (tI l m us f up).1 = true := tal3_pre hw
      have : ((vI l m us f up i).toList == (tI l m us f up).1.toList) = false := by
        cases hq : ((vI l m us f up i).toList == (tI l m us f up).1.toList) with
        | false => rfl
        | true =>
          have e := name_eq.1 hq
          rw [← e, hv, pre_nil] at hp; cases hp
      rw [this]; rfl
theorem push_bits (h : ∀ i, i < 3 → bitB up i = true → bitB late i = bitB late' i) (h1 : 0 ≤ late' ∧ late' < 8) (hp : pE l m us f up late = 0) : pE l m us f up late' = 0 ∧ doI l m us f up late' = doI l m us f up late ∧ eL l m us f up late' = eL l m us f up late := by
  obtain ⟨hcp, hfv⟩ := pE_zero hp
  have hw := wI_bits (l := l) (m := m) (us := us) (f := f) h
  have hd : doI l m us f up late' = doI l m us f up late := by
    unfold doI
    rw [show cntTo (wI l m us f up late') 3 = cntTo (wI l m us f up late) 3 by simp only [cntTo]; rw [hw 0 (by decide), hw 1 (by decide), hw 2 (by decide)]]
  have hc : ∀ i, i < 3 → cI l m us f up late' i = cI l m us f up late i := fun i hi => by unfold cI; rw [hd, hw i hi]
  have hcp' : cpE l m us up late' = 0 := by
    obtain ⟨a, b, c, _⟩ := cpE_zero.1 hcp
    exact cpE_zero.2 ⟨a, b, c, h1⟩
  refine ⟨?_, hd, ?_⟩
  · unfold pE
    rw [if_neg (fun e => e hcp')]
    exact fstE_zero.2 fun i hi => by rw [hc i hi]; exact hfv i hi
  · unfold eL eI
    rw [hc 0 (by decide), hc 1 (by decide), hc 2 (by decide)]
end
/-- who takes no part is as it was. -/
theorem Pushed.out {l : List Rp} {m : List Ob} {us : List Up} {f : Bool} {up late : Int} (h : Pushed l m us f up late) (hp : pE l m us f up late = 0) {i : Nat} (hi : i < 3) (hn : bitB up i = false ∨ bitB late i = true ∨ (rOf l i).ph ≠ 0) : eI l m us f up late i = rOf l i := by
  refine h.not i hi ?_
  cases hc : cI l m us f up late i with
  | false => rfl
  | true =>
    obtain ⟨hcp, _⟩ := pE_zero hp
    obtain ⟨_, hP, -, -⟩ := cpE_zero.1 hcp
    obtain ⟨h1, _, h3, _⟩ := wI_in (h.err i hi) hP (cI_wI hc).2
    obtain ⟨h4, h5⟩ := ask_ph h1
    rcases hn with q | q | q
    · rw [h4] at q; cases q
    · rw [h3] at q; cases q
    · exact absurd h5 q
end
end Go.Proofs.YtehmlpkapjdhkaaGreatDoor
