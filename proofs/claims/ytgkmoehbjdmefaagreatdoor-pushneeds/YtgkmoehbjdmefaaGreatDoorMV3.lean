import Derived.Test.YtgkmoehbjdmefaaGreatDoorMP
import Derived.Deep.CutRange
namespace Go.Proofs.YtgkmoehbjdmefaaGreatDoor
open Go.RowKit
set_option maxRecDepth 100000

set_option maxHeartbeats 800000 in
theorem objectAt_any (a : Option Addr) (c : Nat) (l : List Ob) (id : Int) (w : World) (h : HoldsS w a l) (hl : l.length ≤ 9223372036854775807) :
    Calls Tryz.prog 13 #[.slice a l.length c, .int .i64 id] w fun e w' => e = .returned (.int .i64 (placeI l id)) ∧ Below w.heap.size w w' := by
  go_enter Tryz.func13, Tryz.ntmps13
  go_wp2
  go_loopw [5] (fun i wr => ∃ k : Nat, i = .int .i64 k ∧ k ≤ l.length ∧ Below w.heap.size w wr ∧ Hid (∀ j (hj : j < l.length), j < k → (l[j].id == id) = false)) (fun i _ => l.length - (intOf i).toNat)
  case atStart => exact ⟨0, rfl, Nat.zero_le _, Below.refl _ _, fun j _ h => absurd h (Nat.not_lt_zero j)⟩
  case round =>
    obtain ⟨k, rfl, hk, hB, H⟩ := hrel
    by_cases hlt : k < l.length
    · have hlt' : (k : Int) < (l.length : Int) := by omega
      obtain ⟨b, off, rfl, hb, hc⟩ := (h.below hB) k hlt
      obtain ⟨sa, sc, x0, -, -, -, -, -⟩ := hc k hlt
      clear hc
      cases hq : (l[k].id == id) with
      | true =>
        have HR : Hid (placeI l id = k) := findIdx_hit hlt H.out hq
        go_wp2
        go_ret
        exact ⟨ret_int HR.out.symm, hB⟩
      | false =>
        have HN : Hid (∀ j (hj : j < l.length), j < k + 1 → (l[j].id == id) = false) := fun j hj hjk => by
          rcases Nat.lt_or_ge j k with h1 | h1
          · exact H.out j hj h1
          · have : j = k := by omega
            subst this
            exact hq
        go_wp2
        go_roundw
        case rel => exact ⟨k + 1, by go_num, by omega, hB, HN⟩
        case measure => simp [intOf]; omega
    · have HR : Hid (placeI l id = -1) := findIdx_miss (fun j hj => H.out j hj (by omega))
      go_wp2
      go_ret
      exact ⟨ret_int HR.out.symm, hB⟩

theorem c7_at {w : World} {q : Nat} {x0 x1 x2 x3 x4 x5 x6 : Value} {t : TypeId} (h : w.heap[q]? = some (.cells #[x0, x1, x2, x3, x4, x5, x6] t)) : w.cell? ⟨q, 0, none⟩ = some x0 ∧ w.cell? ⟨q, 1, none⟩ = some x1 ∧ w.cell? ⟨q, 2, none⟩ = some x2 ∧ w.cell? ⟨q, 3, none⟩ = some x3 ∧ w.cell? ⟨q, 4, none⟩ = some x4 ∧ w.cell? ⟨q, 5, none⟩ = some x5 ∧ w.cell? ⟨q, 6, none⟩ = some x6 := by
  refine ⟨?_, ?_, ?_, ?_, ?_, ?_, ?_⟩ <;> rw [cell_of_row w _ _ _ _ _ h] <;> rfl

set_option maxHeartbeats 16000000 in
theorem pushNeeds_any (aS : Option Addr) (cs : Nat) (s : List Ob) (al : Option Addr) (cl : Nat) (l : List Rf) (g ph : Int) (a1 : Option Addr) (n1 c1 : Nat) (a2 : Option Addr) (n2 c2 : Nat) (f0 : Bool) (am : Option Addr) (cm : Nat) (m : List Ob) (au : Option Addr) (cu : Nat) (us : List Up) (f : Bool) (w : World) (hg : Glob w)
    (hs : HoldsS w aS s) (hsl : s.length ≤ 9223372036854775807) (hl : HoldsR w al l) (hll : l.length ≤ 9223372036854775807) (hm : HoldsS w am m) (hml : m.length ≤ 9223372036854775807) (hu : HoldsU w au us) (hul : us.length ≤ 9223372036854775807) :
    Calls Tryz.prog 3 #[replV aS s.length cs al l.length cl g ph a1 n1 c1 a2 n2 c2 f0, pushV am m.length cm au us.length cu f] w fun e w' => e = .returned (.bool true) ∧ Below w.heap.size w w' := by
  have hB := below_alloc2 w (.cells #[.slice aS s.length cs, .slice al l.length cl, .int .i64 g, .int .i64 ph, .slice a1 n1 c1, .slice a2 n2 c2, .bool f0] 28) (.cells #[.slice am m.length cm, .slice au us.length cu, .bool f] 26)
  have hA2 := below_alloc (w.alloc (.cells #[.slice aS s.length cs, .slice al l.length cl, .int .i64 g, .int .i64 ph, .slice a1 n1 c1, .slice a2 n2 c2, .bool f0] 28)) (.cells #[.slice am m.length cm, .slice au us.length cu, .bool f] 26)
  have hk2 : ((w.alloc (.cells #[.slice aS s.length cs, .slice al l.length cl, .int .i64 g, .int .i64 ph, .slice a1 n1 c1, .slice a2 n2 c2, .bool f0] 28)).alloc (.cells #[.slice am m.length cm, .slice au us.length cu, .bool f] 26)).heap[w.heap.size + 1]? = some (.cells #[.slice am m.length cm, .slice au us.length cu, .bool f] 26) := by
    have := heap_alloc_new (w.alloc (.cells #[.slice aS s.length cs, .slice al l.length cl, .int .i64 g, .int .i64 ph, .slice a1 n1 c1, .slice a2 n2 c2, .bool f0] 28)) (.cells #[.slice am m.length cm, .slice au us.length cu, .bool f] 26)
    rwa [show (w.alloc (.cells #[.slice aS s.length cs, .slice al l.length cl, .int .i64 g, .int .i64 ph, .slice a1 n1 c1, .slice a2 n2 c2, .bool f0] 28)).heap.size = w.heap.size + 1 by simp] at this
  have hk1 : ((w.alloc (.cells #[.slice aS s.length cs, .slice al l.length cl, .int .i64 g, .int .i64 ph, .slice a1 n1 c1, .slice a2 n2 c2, .bool f0] 28)).alloc (.cells #[.slice am m.length cm, .slice au us.length cu, .bool f] 26)).heap[w.heap.size]? = some (.cells #[.slice aS s.length cs, .slice al l.length cl, .int .i64 g, .int .i64 ph, .slice a1 n1 c1, .slice a2 n2 c2, .bool f0] 28) := (hA2.block _ (by simp)).trans (heap_alloc_new w _)
  clear hA2
  obtain ⟨y0, y1, y2⟩ := c3_of hk2
  obtain ⟨r0, -, -, -, -, -, -⟩ := c7_at hk1
  have hnd := needs_any aS cs s am cm m au cu us f _ (hg.below hB) (hs.below hB) hsl (hm.below hB) hml (hu.below hB) hul
  go_enter Tryz.func3, Tryz.ntmps3
  go_wp2_with fail
  refine hnd.mono ?_
  clear hnd
  rintro e w1 ⟨hb1, hpost⟩
  have hB1 := hB.trans (hb1.mono hB.size)
  have hk11 := (hb1.block _ (heap_lt hk1)).trans hk1
  have hk21 := (hb1.block _ (heap_lt hk2)).trans hk2
  clear hb1 hB hk1 hk2 y0 y1 y2 r0
  rcases hpost with ⟨hne, rfl⟩ | ⟨hz, an, cn, rfl, hN⟩
  · have z1 : (needsE s m us != 0) = true := by simpa using hne
    clear hne hk11 hk21
    go_wp2_with fail
    refine (pushBegun_any w1 (hg.below hB1)).mono ?_
    rintro e w2 ⟨rfl, hb2⟩
    have hB2 := hB1.trans (hb2.mono hB1.size)
    clear hb2 hB1
    go_wp2_with fail
    refine (storeBegun_any w2).mono ?_
    rintro e w3 ⟨rfl, hb3⟩
    have hB3 := hB2.trans (hb3.mono hB2.size)
    clear hb3 hB2
    go_wp2
    go_ret
    exact ⟨rfl, hB3⟩
  have HC0 : Hid (checkS s = 0) := (needsE_iff.1 hz).1
  have HMem : Hid (∀ i ∈ needsL s m us, placeI s i = -1 ∧ placeI m i = -1) := fun i hi => needs_mem hi
  have HRise : Hid ((needsL s m us).Pairwise (fun x y => x < y)) := needs_rise s m us
  have HTN : Hid (tryE s l m us f = 0 → needsL s m us = []) := fun q => try_needs_none q
  have hnl : (needsL s m us).length ≤ 100 := by unfold needsL; rw [List.length_mergeSort]; exact needs_length (needsE_iff.1 hz).2
  obtain ⟨NL, hNe⟩ : ∃ NL, NL = needsL s m us := ⟨_, rfl⟩
  rw [← hNe] at hN HMem HRise HTN hnl
  rw [← hNe]
  clear hNe hz
  go_wp2_with fail
  refine (pushBegun_any w1 (hg.below hB1)).mono ?_
  rintro e w2 ⟨rfl, hb2⟩
  have hB2 := hB1.trans (hb2.mono hB1.size)
  have hk12 := (hb2.block _ (heap_lt hk11)).trans hk11
  have hk22 := (hb2.block _ (heap_lt hk21)).trans hk21
  have hN2 := hN.below hb2
  clear hb2 hB1 hk11 hk21 hN
  go_wp2_with fail
  refine (storeBegun_any w2).mono ?_
  rintro e w3 ⟨rfl, hb3⟩
  have hB3 := hB2.trans (hb3.mono hB2.size)
  have hk13 := (hb3.block _ (heap_lt hk12)).trans hk12
  have hk23 := (hb3.block _ (heap_lt hk22)).trans hk22
  have hN3 := hN2.below hb3
  clear hb3 hB2 hk12 hk22 hN2
  go_wp2
  go_loopw [7] (fun i wr => ∃ k : Nat, i = .int .i64 k ∧ k ≤ NL.length ∧ Below w3.heap.size w3 wr) (fun i _ => NL.length - (intOf i).toNat)
  case atStart => exact ⟨0, rfl, Nat.zero_le _, Below.refl _ _⟩
  case round =>
    obtain ⟨k, rfl, hk, hBr⟩ := hrel
    by_cases hlt : k < NL.length
    · have hlt' : (k : Int) < (NL.length : Int) := by omega
      obtain ⟨b, off, rfl, hb, hc⟩ := hN3 k hlt
      have HC1 : Hid (∀ W, Below w3.heap.size w3 W → W.cell? ⟨w.heap.size, 0, none⟩ = some (.slice aS s.length cs) ∧ W.cell? ⟨b, off + k, none⟩ = some (.int .i64 (NL.getD k 0))) := fun W hW =>
        ⟨(hW.cell (p := ⟨w.heap.size, 0, none⟩) (heap_lt hk13)).trans (c7_at hk13).1, (hW.cell (p := ⟨b, off + k, none⟩) hb).trans (hc k hlt)⟩
      have HC2 : Hid (∀ W, Below w3.heap.size w3 W → W.cell? ⟨w.heap.size + 1, 0, none⟩ = some (.slice am m.length cm) ∧ W.cell? ⟨b, off + k, none⟩ = some (.int .i64 (NL.getD k 0))) := fun W hW =>
        ⟨(hW.cell (p := ⟨w.heap.size + 1, 0, none⟩) (heap_lt hk23)).trans (c3_of hk23).1, (hW.cell (p := ⟨b, off + k, none⟩) hb).trans (hc k hlt)⟩
      have HC3 : Hid (∀ j, k = j + 1 → ∀ W, Below w3.heap.size w3 W → W.cell? ⟨b, off + j, none⟩ = some (.int .i64 (NL.getD j 0))) := fun j e W hW => (hW.cell (p := ⟨b, off + j, none⟩) hb).trans (hc j (by omega))
      have HPl : Hid (placeI s (NL.getD k 0) = -1 ∧ placeI m (NL.getD k 0) = -1) := HMem.out _ (by rw [List.getD_eq_getElem?_getD, List.getElem?_eq_getElem hlt]; exact List.getElem_mem hlt)
      have HLt : Hid (∀ j, k = j + 1 → NL.getD j 0 < NL.getD k 0) := fun j e => by
        have := List.pairwise_iff_getElem.1 HRise.out j k (by omega) hlt (by omega)
        rw [List.getD_eq_getElem?_getD, List.getD_eq_getElem?_getD, List.getElem?_eq_getElem hlt, List.getElem?_eq_getElem (by omega)]
        exact this
      clear hc
      go_upto_region 9 with fail
      go_cut [8, 9] from 33 to 76 (fun s8 s9 wx => s9 = .int .i64 5 ∧ Below w3.heap.size w3 wx ∧ ∃ B, s8 = .pointer (some ⟨B, 0, none⟩))
      case rest =>
        obtain ⟨rfl, hBc, B, rfl⟩ := hcut
        go_wp2_with fail
        have SD := (Below.refl wc.heap.size wc).drew
        have HBD := hBc.trans (SD.mono hBc.size)
        clear SD hBc
        by_cases hk0 : k = 0
        · have hd : decide (0 < k) = false := by simp; omega
          obtain ⟨x, hx⟩ : ∃ x, x = NL.getD k 0 := ⟨_, rfl⟩
          rw [← hx] at HC2 HPl
          clear hx HC1 HC3 HLt hk0
          refine wp_region_E (fun W => W.cell? ⟨w.heap.size + 1, 0, none⟩ = some (.slice am m.length cm) ∧ W.cell? ⟨b, off + k, none⟩ = some (.int .i64 x)) (fun _ => false) (by kernel_rfl) (HC2.out _ HBD) (fun hS => ?_)
          generalize wc.drew = W0 at *
          refine wpAnyE.take (i := 0) (v := ?_) rfl (by kernel_rfl) (by kernel_rfl) (by kernel_rfl) (by kernel_rfl) (fun _ _ _ h => h) (Or.inl ⟨by rfl, ?_⟩) (by assumption) ?_
          rotate_left
          · intro w hSw; obtain ⟨z0, z1⟩ := hSw; go_simp; with_reducible rfl
          try simp only [Act.put, List.getElem_toArray, List.getElem_cons_zero, List.setIfInBounds_toArray, List.set_cons_zero, List.set_cons_succ]
          refine wpAnyE.take (i := 1) (v := ?_) rfl (by kernel_rfl) (by kernel_rfl) (by kernel_rfl) (by kernel_rfl) (fun _ _ _ h => h) (Or.inl ⟨by rfl, ?_⟩) (by assumption) ?_
          rotate_left
          · intro w hSw; obtain ⟨z0, z1⟩ := hSw; go_simp; with_reducible rfl
          try simp only [Act.put, List.getElem_toArray, List.getElem_cons_succ, List.getElem_cons_zero, List.setIfInBounds_toArray, List.set_cons_zero, List.set_cons_succ]
          refine wpAnyE.take (i := 2) (v := ?_) rfl (by kernel_rfl) (by kernel_rfl) (by kernel_rfl) (by kernel_rfl) (fun _ _ _ h => h) (Or.inl ⟨by rfl, ?_⟩) (by assumption) ?_
          rotate_left
          · intro w hSw; obtain ⟨z0, z1⟩ := hSw; go_simp; with_reducible rfl
          try simp only [Act.put, List.getElem_toArray, List.getElem_cons_succ, List.getElem_cons_zero, List.setIfInBounds_toArray, List.set_cons_zero, List.set_cons_succ]
          refine wpAnyE.take (i := 3) (v := ?_) rfl (by kernel_rfl) (by kernel_rfl) (by kernel_rfl) (by kernel_rfl) (fun _ _ _ h => h) (Or.inl ⟨by rfl, ?_⟩) (by assumption) ?_
          rotate_left
          · intro w hSw; obtain ⟨z0, z1⟩ := hSw; go_simp; with_reducible rfl
          try simp only [Act.put, List.getElem_toArray, List.getElem_cons_succ, List.getElem_cons_zero, List.setIfInBounds_toArray, List.set_cons_zero, List.set_cons_succ]
          refine wpAnyE.take (i := 4) (v := ?_) rfl (by kernel_rfl) (by kernel_rfl) (by kernel_rfl) (by kernel_rfl) (fun _ _ _ h => h) (Or.inl ⟨by rfl, ?_⟩) (by assumption) ?_
          rotate_left
          · intro w hSw; obtain ⟨z0, z1⟩ := hSw; go_simp; with_reducible rfl
          try simp only [Act.put, List.getElem_toArray, List.getElem_cons_succ, List.getElem_cons_zero, List.setIfInBounds_toArray, List.set_cons_zero, List.set_cons_succ]
          refine wpAnyE.take (i := 5) (v := ?_) rfl (by kernel_rfl) (by kernel_rfl) (by kernel_rfl) (by kernel_rfl) (fun _ _ _ h => h) (Or.inl ⟨by rfl, ?_⟩) (by assumption) ?_
          rotate_left
          · intro w hSw; obtain ⟨z0, z1⟩ := hSw; go_simp; with_reducible rfl
          try simp only [Act.put, List.getElem_toArray, List.getElem_cons_succ, List.getElem_cons_zero, List.setIfInBounds_toArray, List.set_cons_zero, List.set_cons_succ]
          refine wpAnyE.take (i := 6) (v := ?_) rfl (by kernel_rfl) (by kernel_rfl) (by kernel_rfl) (by kernel_rfl) (fun _ _ _ h => h) (Or.inl ⟨by rfl, ?_⟩) (by assumption) ?_
          rotate_left
          · intro w hSw; obtain ⟨z0, z1⟩ := hSw; go_simp; with_reducible rfl
          try simp only [Act.put, List.getElem_toArray, List.getElem_cons_succ, List.getElem_cons_zero, List.setIfInBounds_toArray, List.set_cons_zero, List.set_cons_succ]
          refine wpAnyE.take (i := 7) (v := ?_) rfl (by kernel_rfl) (by kernel_rfl) (by kernel_rfl) (by kernel_rfl) (fun _ _ _ h => h) (Or.inl ⟨by rfl, ?_⟩) (by assumption) ?_
          rotate_left
          · intro w hSw; obtain ⟨z0, z1⟩ := hSw; go_simp; with_reducible rfl
          try simp only [Act.put, List.getElem_toArray, List.getElem_cons_succ, List.getElem_cons_zero, List.setIfInBounds_toArray, List.set_cons_zero, List.set_cons_succ]
          refine wpAnyE.take (i := 8) (v := ?_) rfl (by kernel_rfl) (by kernel_rfl) (by kernel_rfl) (by kernel_rfl) (fun _ _ _ h => h) (Or.inl ⟨by rfl, ?_⟩) (by assumption) ?_
          rotate_left
          · intro w hSw; obtain ⟨z0, z1⟩ := hSw; go_simp; with_reducible rfl
          try simp only [Act.put, List.getElem_toArray, List.getElem_cons_succ, List.getElem_cons_zero, List.setIfInBounds_toArray, List.set_cons_zero, List.set_cons_succ]
          refine wpAnyE.one (i := 9) (by kernel_rfl) rfl (fun K hK => ?_)
          go_simp
          refine (objectAt_any am cm m x W0 (hm.below (hB3.trans (HBD.mono hB3.size))) hml).mono ?_
          rintro e W1 ⟨rfl, hb1⟩
          rw [HPl.out.2]
          have HB1 := HBD.trans (hb1.mono HBD.size)
          have hS1 := HC2.out _ HB1
          clear hb1 HBD hS
          refine hK _ _ (fun _ => hS1) ?_
          clear hK K
          try simp only [Act.put, List.getElem_toArray, List.getElem_cons_succ, List.getElem_cons_zero, List.setIfInBounds_toArray, List.set_cons_zero, List.set_cons_succ]
          refine wpAnyE.take (i := 10) (v := ?_) rfl (by kernel_rfl) (by kernel_rfl) (by kernel_rfl) (by kernel_rfl) (fun _ _ _ h => h) (Or.inl ⟨by rfl, ?_⟩) (by assumption) ?_
          rotate_left
          · intro w hSw; obtain ⟨z0, z1⟩ := hSw; go_simp; with_reducible rfl
          try simp only [Act.put, List.getElem_toArray, List.getElem_cons_succ, List.getElem_cons_zero, List.setIfInBounds_toArray, List.set_cons_zero, List.set_cons_succ]
          refine wpAnyE.take (i := 11) (v := ?_) rfl (by kernel_rfl) (by kernel_rfl) (by kernel_rfl) (by kernel_rfl) (fun _ _ _ h => h) (Or.inl ⟨by rfl, ?_⟩) (by assumption) ?_
          rotate_left
          · intro w hSw; obtain ⟨z0, z1⟩ := hSw; go_simp; with_reducible rfl
          try simp only [Act.put, List.getElem_toArray, List.getElem_cons_succ, List.getElem_cons_zero, List.setIfInBounds_toArray, List.set_cons_zero, List.set_cons_succ]
          refine wpAnyE.take (i := 12) (v := ?_) rfl (by kernel_rfl) (by kernel_rfl) (by kernel_rfl) (by kernel_rfl) (fun _ _ _ h => h) (Or.inl ⟨by rfl, ?_⟩) (by assumption) ?_
          rotate_left
          · intro w hSw; obtain ⟨z0, z1⟩ := hSw; go_simp; with_reducible rfl
          try simp only [Act.put, List.getElem_toArray, List.getElem_cons_succ, List.getElem_cons_zero, List.setIfInBounds_toArray, List.set_cons_zero, List.set_cons_succ]
          refine wpAnyE.take (i := 13) (v := ?_) rfl (by kernel_rfl) (by kernel_rfl) (by kernel_rfl) (by kernel_rfl) (fun _ _ _ h => h) (Or.inl ⟨by rfl, ?_⟩) (by assumption) ?_
          rotate_left
          · intro w hSw; obtain ⟨z0, z1⟩ := hSw; go_simp; with_reducible rfl
          try simp only [Act.put, List.getElem_toArray, List.getElem_cons_succ, List.getElem_cons_zero, List.setIfInBounds_toArray, List.set_cons_zero, List.set_cons_succ]
          refine wpAnyE.take (i := 14) (v := ?_) rfl (by kernel_rfl) (by kernel_rfl) (by kernel_rfl) (by kernel_rfl) (fun _ _ _ h => h) (Or.inl ⟨by rfl, ?_⟩) (by assumption) ?_
          rotate_left
          · intro w hSw; obtain ⟨z0, z1⟩ := hSw; go_simp; with_reducible rfl
          try simp only [Act.put, List.getElem_toArray, List.getElem_cons_succ, List.getElem_cons_zero, List.setIfInBounds_toArray, List.set_cons_zero, List.set_cons_succ]
          refine wpAnyE.take (i := 15) (v := ?_) rfl (by kernel_rfl) (by kernel_rfl) (by kernel_rfl) (by kernel_rfl) (fun _ _ _ h => h) (Or.inl ⟨by rfl, ?_⟩) (by assumption) ?_
          rotate_left
          · intro w hSw; obtain ⟨z0, z1⟩ := hSw; go_simp; with_reducible rfl
          try simp only [Act.put, List.getElem_toArray, List.getElem_cons_succ, List.getElem_cons_zero, List.setIfInBounds_toArray, List.set_cons_zero, List.set_cons_succ]
          refine wpAnyE.take (i := 16) (v := undef) rfl (by kernel_rfl) (by kernel_rfl) (by kernel_rfl) (by kernel_rfl) (fun _ _ _ h => h) (Or.inr ⟨by rfl, rfl⟩) (by assumption) ?_
          try simp only [Act.put, List.getElem_toArray, List.getElem_cons_succ, List.getElem_cons_zero, List.setIfInBounds_toArray, List.set_cons_zero, List.set_cons_succ]
          refine wpAnyE.take (i := 17) (v := undef) rfl (by kernel_rfl) (by kernel_rfl) (by kernel_rfl) (by kernel_rfl) (fun _ _ _ h => h) (Or.inr ⟨by rfl, rfl⟩) (by assumption) ?_
          try simp only [Act.put, List.getElem_toArray, List.getElem_cons_succ, List.getElem_cons_zero, List.setIfInBounds_toArray, List.set_cons_zero, List.set_cons_succ]
          refine wpAnyE.take (i := 18) (v := undef) rfl (by kernel_rfl) (by kernel_rfl) (by kernel_rfl) (by kernel_rfl) (fun _ _ _ h => h) (Or.inr ⟨by rfl, rfl⟩) (by assumption) ?_
          try simp only [Act.put, List.getElem_toArray, List.getElem_cons_succ, List.getElem_cons_zero, List.setIfInBounds_toArray, List.set_cons_zero, List.set_cons_succ]
          refine wpAnyE.take (i := 19) (v := undef) rfl (by kernel_rfl) (by kernel_rfl) (by kernel_rfl) (by kernel_rfl) (fun _ _ _ h => h) (Or.inr ⟨by rfl, rfl⟩) (by assumption) ?_
          try simp only [Act.put, List.getElem_toArray, List.getElem_cons_succ, List.getElem_cons_zero, List.setIfInBounds_toArray, List.set_cons_zero, List.set_cons_succ]
          refine wpAnyE.take (i := 20) (v := undef) rfl (by kernel_rfl) (by kernel_rfl) (by kernel_rfl) (by kernel_rfl) (fun _ _ _ h => h) (Or.inr ⟨by rfl, rfl⟩) (by assumption) ?_
          try simp only [Act.put, List.getElem_toArray, List.getElem_cons_succ, List.getElem_cons_zero, List.setIfInBounds_toArray, List.set_cons_zero, List.set_cons_succ]
          refine wpAnyE.take (i := 21) (v := undef) rfl (by kernel_rfl) (by kernel_rfl) (by kernel_rfl) (by kernel_rfl) (fun _ _ _ h => h) (Or.inr ⟨by rfl, rfl⟩) (by assumption) ?_
          try simp only [Act.put, List.getElem_toArray, List.getElem_cons_succ, List.getElem_cons_zero, List.setIfInBounds_toArray, List.set_cons_zero, List.set_cons_succ]
          refine wpAnyE.take (i := 22) (v := undef) rfl (by kernel_rfl) (by kernel_rfl) (by kernel_rfl) (by kernel_rfl) (fun _ _ _ h => h) (Or.inr ⟨by rfl, rfl⟩) (by assumption) ?_
          try simp only [Act.put, List.getElem_toArray, List.getElem_cons_succ, List.getElem_cons_zero, List.setIfInBounds_toArray, List.set_cons_zero, List.set_cons_succ]
          refine wpAnyE.take (i := 23) (v := undef) rfl (by kernel_rfl) (by kernel_rfl) (by kernel_rfl) (by kernel_rfl) (fun _ _ _ h => h) (Or.inr ⟨by rfl, rfl⟩) (by assumption) ?_
          try simp only [Act.put, List.getElem_toArray, List.getElem_cons_succ, List.getElem_cons_zero, List.setIfInBounds_toArray, List.set_cons_zero, List.set_cons_succ]
          refine wpAnyE.take (i := 24) (v := undef) rfl (by kernel_rfl) (by kernel_rfl) (by kernel_rfl) (by kernel_rfl) (fun _ _ _ h => h) (Or.inr ⟨by rfl, rfl⟩) (by assumption) ?_
          try simp only [Act.put, List.getElem_toArray, List.getElem_cons_succ, List.getElem_cons_zero, List.setIfInBounds_toArray, List.set_cons_zero, List.set_cons_succ]
          refine wpAnyE.take (i := 25) (v := undef) rfl (by kernel_rfl) (by kernel_rfl) (by kernel_rfl) (by kernel_rfl) (fun _ _ _ h => h) (Or.inr ⟨by rfl, rfl⟩) (by assumption) ?_
          try simp only [Act.put, List.getElem_toArray, List.getElem_cons_succ, List.getElem_cons_zero, List.setIfInBounds_toArray, List.set_cons_zero, List.set_cons_succ]
          refine wpAnyE.take (i := 26) (v := ?_) rfl (by kernel_rfl) (by kernel_rfl) (by kernel_rfl) (by kernel_rfl) (fun _ _ _ h => h) (Or.inl ⟨by rfl, ?_⟩) (by assumption) ?_
          rotate_left
          · intro w hSw; obtain ⟨z0, z1⟩ := hSw; go_simp; with_reducible rfl
          try simp only [Act.put, List.getElem_toArray, List.getElem_cons_succ, List.getElem_cons_zero, List.setIfInBounds_toArray, List.set_cons_zero, List.set_cons_succ]
          refine wpAnyE.take (i := 27) (v := ?_) rfl (by kernel_rfl) (by kernel_rfl) (by kernel_rfl) (by kernel_rfl) (fun _ _ _ h => h) (Or.inl ⟨by rfl, ?_⟩) (by assumption) ?_
          rotate_left
          · intro w hSw; obtain ⟨z0, z1⟩ := hSw; go_simp; with_reducible rfl
          try simp only [Act.put, List.getElem_toArray, List.getElem_cons_succ, List.getElem_cons_zero, List.setIfInBounds_toArray, List.set_cons_zero, List.set_cons_succ]
          refine wpAnyE.done (by kernel_rfl) ?_
          clear hS1
          go_wp2
          go_roundw
          case rel => exact ⟨k + 1, by go_num, by omega, HB1⟩
          case measure => simp [intOf]; omega
        · obtain ⟨j, rfl⟩ : ∃ j, k = j + 1 := ⟨k - 1, by omega⟩
          obtain ⟨x, hx⟩ : ∃ x, x = NL.getD (j + 1) 0 := ⟨_, rfl⟩
          obtain ⟨y, hy⟩ : ∃ y, y = NL.getD j 0 := ⟨_, rfl⟩
          have hxy := HLt.out j rfl
          have HC4 : Hid (∀ W, Below w3.heap.size w3 W → W.cell? ⟨b, off + j, none⟩ = some (.int .i64 (NL.getD j 0))) := HC3.out j rfl
          rw [← hx] at HC2 HPl hxy
          rw [← hy] at HC4 hxy
          have hd : decide (x ≤ y) = false := by simp; omega
          have hjl : (j : Int) < (NL.length : Int) := by omega
          have hwr : IntKind.i64.wrap (j : Int) = (j : Int) := by simp [IntKind.wrap, IntKind.bits, IntKind.signed]; omega
          have hj0 : (0 : Int) ≤ (j : Int) + 1 := by omega
          have hj1 : (j : Int) + 1 < (NL.length : Int) := by omega
          have hj2 : (0 : Int) < (j : Int) + 1 := by omega
          clear hx hy HC1 HC3 HLt hk0
          refine wp_region_E (fun W => W.cell? ⟨w.heap.size + 1, 0, none⟩ = some (.slice am m.length cm) ∧ W.cell? ⟨b, off + (j + 1), none⟩ = some (.int .i64 x) ∧ W.cell? ⟨b, off + j, none⟩ = some (.int .i64 y)) (fun _ => false) (by kernel_rfl) ⟨(HC2.out _ HBD).1, (HC2.out _ HBD).2, HC4.out _ HBD⟩ (fun hS => ?_)
          generalize wc.drew = W0 at *
          refine wpAnyE.take (i := 0) (v := ?_) rfl (by kernel_rfl) (by kernel_rfl) (by kernel_rfl) (by kernel_rfl) (fun _ _ _ h => h) (Or.inl ⟨by rfl, ?_⟩) (by assumption) ?_
          rotate_left
          · intro w hSw; obtain ⟨z0, z1, z2⟩ := hSw; go_simp; with_reducible rfl
          try simp only [Act.put, List.getElem_toArray, List.getElem_cons_zero, List.setIfInBounds_toArray, List.set_cons_zero, List.set_cons_succ]
          refine wpAnyE.take (i := 1) (v := ?_) rfl (by kernel_rfl) (by kernel_rfl) (by kernel_rfl) (by kernel_rfl) (fun _ _ _ h => h) (Or.inl ⟨by rfl, ?_⟩) (by assumption) ?_
          rotate_left
          · intro w hSw; obtain ⟨z0, z1, z2⟩ := hSw; go_simp; with_reducible rfl
          try simp only [Act.put, List.getElem_toArray, List.getElem_cons_succ, List.getElem_cons_zero, List.setIfInBounds_toArray, List.set_cons_zero, List.set_cons_succ]
          refine wpAnyE.take (i := 2) (v := ?_) rfl (by kernel_rfl) (by kernel_rfl) (by kernel_rfl) (by kernel_rfl) (fun _ _ _ h => h) (Or.inl ⟨by rfl, ?_⟩) (by assumption) ?_
          rotate_left
          · intro w hSw; obtain ⟨z0, z1, z2⟩ := hSw; go_simp; with_reducible rfl
          try simp only [Act.put, List.getElem_toArray, List.getElem_cons_succ, List.getElem_cons_zero, List.setIfInBounds_toArray, List.set_cons_zero, List.set_cons_succ]
          refine wpAnyE.take (i := 3) (v := ?_) rfl (by kernel_rfl) (by kernel_rfl) (by kernel_rfl) (by kernel_rfl) (fun _ _ _ h => h) (Or.inl ⟨by rfl, ?_⟩) (by assumption) ?_
          rotate_left
          · intro w hSw; obtain ⟨z0, z1, z2⟩ := hSw; go_simp; with_reducible rfl
          try simp only [Act.put, List.getElem_toArray, List.getElem_cons_succ, List.getElem_cons_zero, List.setIfInBounds_toArray, List.set_cons_zero, List.set_cons_succ]
          refine wpAnyE.take (i := 4) (v := ?_) rfl (by kernel_rfl) (by kernel_rfl) (by kernel_rfl) (by kernel_rfl) (fun _ _ _ h => h) (Or.inl ⟨by rfl, ?_⟩) (by assumption) ?_
          rotate_left
          · intro w hSw; obtain ⟨z0, z1, z2⟩ := hSw; go_simp; with_reducible rfl
          try simp only [Act.put, List.getElem_toArray, List.getElem_cons_succ, List.getElem_cons_zero, List.setIfInBounds_toArray, List.set_cons_zero, List.set_cons_succ]
          refine wpAnyE.take (i := 5) (v := ?_) rfl (by kernel_rfl) (by kernel_rfl) (by kernel_rfl) (by kernel_rfl) (fun _ _ _ h => h) (Or.inl ⟨by rfl, ?_⟩) (by assumption) ?_
          rotate_left
          · intro w hSw; obtain ⟨z0, z1, z2⟩ := hSw; go_simp; with_reducible rfl
          try simp only [Act.put, List.getElem_toArray, List.getElem_cons_succ, List.getElem_cons_zero, List.setIfInBounds_toArray, List.set_cons_zero, List.set_cons_succ]
          refine wpAnyE.take (i := 6) (v := ?_) rfl (by kernel_rfl) (by kernel_rfl) (by kernel_rfl) (by kernel_rfl) (fun _ _ _ h => h) (Or.inl ⟨by rfl, ?_⟩) (by assumption) ?_
          rotate_left
          · intro w hSw; obtain ⟨z0, z1, z2⟩ := hSw; go_simp; with_reducible rfl
          try simp only [Act.put, List.getElem_toArray, List.getElem_cons_succ, List.getElem_cons_zero, List.setIfInBounds_toArray, List.set_cons_zero, List.set_cons_succ]
          refine wpAnyE.take (i := 7) (v := ?_) rfl (by kernel_rfl) (by kernel_rfl) (by kernel_rfl) (by kernel_rfl) (fun _ _ _ h => h) (Or.inl ⟨by rfl, ?_⟩) (by assumption) ?_
          rotate_left
          · intro w hSw; obtain ⟨z0, z1, z2⟩ := hSw; go_simp; with_reducible rfl
          try simp only [Act.put, List.getElem_toArray, List.getElem_cons_succ, List.getElem_cons_zero, List.setIfInBounds_toArray, List.set_cons_zero, List.set_cons_succ]
          refine wpAnyE.take (i := 8) (v := ?_) rfl (by kernel_rfl) (by kernel_rfl) (by kernel_rfl) (by kernel_rfl) (fun _ _ _ h => h) (Or.inl ⟨by rfl, ?_⟩) (by assumption) ?_
          rotate_left
          · intro w hSw; obtain ⟨z0, z1, z2⟩ := hSw; go_simp; with_reducible rfl
          try simp only [Act.put, List.getElem_toArray, List.getElem_cons_succ, List.getElem_cons_zero, List.setIfInBounds_toArray, List.set_cons_zero, List.set_cons_succ]
          refine wpAnyE.one (i := 9) (by kernel_rfl) rfl (fun K hK => ?_)
          go_simp
          refine (objectAt_any am cm m x W0 (hm.below (hB3.trans (HBD.mono hB3.size))) hml).mono ?_
          rintro e W1 ⟨rfl, hb1⟩
          rw [HPl.out.2]
          have HB1 := HBD.trans (hb1.mono HBD.size)
          have hS1 := (⟨(HC2.out _ HB1).1, (HC2.out _ HB1).2, HC4.out _ HB1⟩ : W1.cell? ⟨w.heap.size + 1, 0, none⟩ = some (.slice am m.length cm) ∧ W1.cell? ⟨b, off + (j + 1), none⟩ = some (.int .i64 x) ∧ W1.cell? ⟨b, off + j, none⟩ = some (.int .i64 y))
          clear hb1 HBD hS
          refine hK _ _ (fun _ => hS1) ?_
          clear hK K
          try simp only [Act.put, List.getElem_toArray, List.getElem_cons_succ, List.getElem_cons_zero, List.setIfInBounds_toArray, List.set_cons_zero, List.set_cons_succ]
          refine wpAnyE.take (i := 10) (v := ?_) rfl (by kernel_rfl) (by kernel_rfl) (by kernel_rfl) (by kernel_rfl) (fun _ _ _ h => h) (Or.inl ⟨by rfl, ?_⟩) (by assumption) ?_
          rotate_left
          · intro w hSw; obtain ⟨z0, z1, z2⟩ := hSw; go_simp; with_reducible rfl
          try simp only [Act.put, List.getElem_toArray, List.getElem_cons_succ, List.getElem_cons_zero, List.setIfInBounds_toArray, List.set_cons_zero, List.set_cons_succ]
          refine wpAnyE.take (i := 11) (v := ?_) rfl (by kernel_rfl) (by kernel_rfl) (by kernel_rfl) (by kernel_rfl) (fun _ _ _ h => h) (Or.inl ⟨by rfl, ?_⟩) (by assumption) ?_
          rotate_left
          · intro w hSw; obtain ⟨z0, z1, z2⟩ := hSw; go_simp; with_reducible rfl
          try simp only [Act.put, List.getElem_toArray, List.getElem_cons_succ, List.getElem_cons_zero, List.setIfInBounds_toArray, List.set_cons_zero, List.set_cons_succ]
          refine wpAnyE.take (i := 12) (v := ?_) rfl (by kernel_rfl) (by kernel_rfl) (by kernel_rfl) (by kernel_rfl) (fun _ _ _ h => h) (Or.inl ⟨by rfl, ?_⟩) (by assumption) ?_
          rotate_left
          · intro w hSw; obtain ⟨z0, z1, z2⟩ := hSw; go_simp; with_reducible rfl
          try simp only [Act.put, List.getElem_toArray, List.getElem_cons_succ, List.getElem_cons_zero, List.setIfInBounds_toArray, List.set_cons_zero, List.set_cons_succ]
          refine wpAnyE.take (i := 13) (v := ?_) rfl (by kernel_rfl) (by kernel_rfl) (by kernel_rfl) (by kernel_rfl) (fun _ _ _ h => h) (Or.inl ⟨by rfl, ?_⟩) (by assumption) ?_
          rotate_left
          · intro w hSw; obtain ⟨z0, z1, z2⟩ := hSw; go_simp; with_reducible rfl
          try simp only [Act.put, List.getElem_toArray, List.getElem_cons_succ, List.getElem_cons_zero, List.setIfInBounds_toArray, List.set_cons_zero, List.set_cons_succ]
          refine wpAnyE.take (i := 14) (v := ?_) rfl (by kernel_rfl) (by kernel_rfl) (by kernel_rfl) (by kernel_rfl) (fun _ _ _ h => h) (Or.inl ⟨by rfl, ?_⟩) (by assumption) ?_
          rotate_left
          · intro w hSw; obtain ⟨z0, z1, z2⟩ := hSw; go_simp; with_reducible rfl
          try simp only [Act.put, List.getElem_toArray, List.getElem_cons_succ, List.getElem_cons_zero, List.setIfInBounds_toArray, List.set_cons_zero, List.set_cons_succ]
          refine wpAnyE.take (i := 15) (v := ?_) rfl (by kernel_rfl) (by kernel_rfl) (by kernel_rfl) (by kernel_rfl) (fun _ _ _ h => h) (Or.inl ⟨by rfl, ?_⟩) (by assumption) ?_
          rotate_left
          · intro w hSw; obtain ⟨z0, z1, z2⟩ := hSw; go_simp; with_reducible rfl
          try simp only [Act.put, List.getElem_toArray, List.getElem_cons_succ, List.getElem_cons_zero, List.setIfInBounds_toArray, List.set_cons_zero, List.set_cons_succ]
          refine wpAnyE.take (i := 16) (v := ?_) rfl (by kernel_rfl) (by kernel_rfl) (by kernel_rfl) (by kernel_rfl) (fun _ _ _ h => h) (Or.inl ⟨by rfl, ?_⟩) (by assumption) ?_
          rotate_left
          · intro w hSw; obtain ⟨z0, z1, z2⟩ := hSw; go_simp; with_reducible rfl
          try simp only [Act.put, List.getElem_toArray, List.getElem_cons_succ, List.getElem_cons_zero, List.setIfInBounds_toArray, List.set_cons_zero, List.set_cons_succ]
          refine wpAnyE.take (i := 17) (v := ?_) rfl (by kernel_rfl) (by kernel_rfl) (by kernel_rfl) (by kernel_rfl) (fun _ _ _ h => h) (Or.inl ⟨by rfl, ?_⟩) (by assumption) ?_
          rotate_left
          · intro w hSw; obtain ⟨z0, z1, z2⟩ := hSw; go_simp; with_reducible rfl
          try simp only [Act.put, List.getElem_toArray, List.getElem_cons_succ, List.getElem_cons_zero, List.setIfInBounds_toArray, List.set_cons_zero, List.set_cons_succ]
          refine wpAnyE.take (i := 18) (v := ?_) rfl (by kernel_rfl) (by kernel_rfl) (by kernel_rfl) (by kernel_rfl) (fun _ _ _ h => h) (Or.inl ⟨by rfl, ?_⟩) (by assumption) ?_
          rotate_left
          · intro w hSw; obtain ⟨z0, z1, z2⟩ := hSw; go_simp; with_reducible rfl
          try simp only [Act.put, List.getElem_toArray, List.getElem_cons_succ, List.getElem_cons_zero, List.setIfInBounds_toArray, List.set_cons_zero, List.set_cons_succ]
          refine wpAnyE.take (i := 19) (v := ?_) rfl (by kernel_rfl) (by kernel_rfl) (by kernel_rfl) (by kernel_rfl) (fun _ _ _ h => h) (Or.inl ⟨by rfl, ?_⟩) (by assumption) ?_
          rotate_left
          · intro w hSw; obtain ⟨z0, z1, z2⟩ := hSw; go_simp; with_reducible rfl
          try simp only [Act.put, List.getElem_toArray, List.getElem_cons_succ, List.getElem_cons_zero, List.setIfInBounds_toArray, List.set_cons_zero, List.set_cons_succ]
          refine wpAnyE.take (i := 20) (v := ?_) rfl (by kernel_rfl) (by kernel_rfl) (by kernel_rfl) (by kernel_rfl) (fun _ _ _ h => h) (Or.inl ⟨by rfl, ?_⟩) (by assumption) ?_
          rotate_left
          · intro w hSw; obtain ⟨z0, z1, z2⟩ := hSw; go_simp; with_reducible rfl
          try simp only [Act.put, List.getElem_toArray, List.getElem_cons_succ, List.getElem_cons_zero, List.setIfInBounds_toArray, List.set_cons_zero, List.set_cons_succ]
          refine wpAnyE.take (i := 21) (v := ?_) rfl (by kernel_rfl) (by kernel_rfl) (by kernel_rfl) (by kernel_rfl) (fun _ _ _ h => h) (Or.inl ⟨by rfl, ?_⟩) (by assumption) ?_
          rotate_left
          · intro w hSw; obtain ⟨z0, z1, z2⟩ := hSw; go_simp; with_reducible rfl
          try simp only [Act.put, List.getElem_toArray, List.getElem_cons_succ, List.getElem_cons_zero, List.setIfInBounds_toArray, List.set_cons_zero, List.set_cons_succ]
          refine wpAnyE.take (i := 22) (v := ?_) rfl (by kernel_rfl) (by kernel_rfl) (by kernel_rfl) (by kernel_rfl) (fun _ _ _ h => h) (Or.inl ⟨by rfl, ?_⟩) (by assumption) ?_
          rotate_left
          · intro w hSw; obtain ⟨z0, z1, z2⟩ := hSw; go_simp; with_reducible rfl
          try simp only [Act.put, List.getElem_toArray, List.getElem_cons_succ, List.getElem_cons_zero, List.setIfInBounds_toArray, List.set_cons_zero, List.set_cons_succ]
          refine wpAnyE.take (i := 23) (v := ?_) rfl (by kernel_rfl) (by kernel_rfl) (by kernel_rfl) (by kernel_rfl) (fun _ _ _ h => h) (Or.inl ⟨by rfl, ?_⟩) (by assumption) ?_
          rotate_left
          · intro w hSw; obtain ⟨z0, z1, z2⟩ := hSw; go_simp; with_reducible rfl
          try simp only [Act.put, List.getElem_toArray, List.getElem_cons_succ, List.getElem_cons_zero, List.setIfInBounds_toArray, List.set_cons_zero, List.set_cons_succ]
          refine wpAnyE.take (i := 24) (v := ?_) rfl (by kernel_rfl) (by kernel_rfl) (by kernel_rfl) (by kernel_rfl) (fun _ _ _ h => h) (Or.inl ⟨by rfl, ?_⟩) (by assumption) ?_
          rotate_left
          · intro w hSw; obtain ⟨z0, z1, z2⟩ := hSw; go_simp; with_reducible rfl
          try simp only [Act.put, List.getElem_toArray, List.getElem_cons_succ, List.getElem_cons_zero, List.setIfInBounds_toArray, List.set_cons_zero, List.set_cons_succ]
          refine wpAnyE.take (i := 25) (v := ?_) rfl (by kernel_rfl) (by kernel_rfl) (by kernel_rfl) (by kernel_rfl) (fun _ _ _ h => h) (Or.inl ⟨by rfl, ?_⟩) (by assumption) ?_
          rotate_left
          · intro w hSw; obtain ⟨z0, z1, z2⟩ := hSw; go_simp; with_reducible rfl
          try simp only [Act.put, List.getElem_toArray, List.getElem_cons_succ, List.getElem_cons_zero, List.setIfInBounds_toArray, List.set_cons_zero, List.set_cons_succ]
          refine wpAnyE.take (i := 26) (v := ?_) rfl (by kernel_rfl) (by kernel_rfl) (by kernel_rfl) (by kernel_rfl) (fun _ _ _ h => h) (Or.inl ⟨by rfl, ?_⟩) (by assumption) ?_
          rotate_left
          · intro w hSw; obtain ⟨z0, z1, z2⟩ := hSw; go_simp; with_reducible rfl
          try simp only [Act.put, List.getElem_toArray, List.getElem_cons_succ, List.getElem_cons_zero, List.setIfInBounds_toArray, List.set_cons_zero, List.set_cons_succ]
          refine wpAnyE.take (i := 27) (v := ?_) rfl (by kernel_rfl) (by kernel_rfl) (by kernel_rfl) (by kernel_rfl) (fun _ _ _ h => h) (Or.inl ⟨by rfl, ?_⟩) (by assumption) ?_
          rotate_left
          · intro w hSw; obtain ⟨z0, z1, z2⟩ := hSw; go_simp; with_reducible rfl
          try simp only [Act.put, List.getElem_toArray, List.getElem_cons_succ, List.getElem_cons_zero, List.setIfInBounds_toArray, List.set_cons_zero, List.set_cons_succ]
          refine wpAnyE.done (by kernel_rfl) ?_
          clear hS1
          go_wp2
          go_roundw
          case rel => exact ⟨(j + 1) + 1, by go_num, by omega, HB1⟩
          case measure => simp [intOf]; omega
      case first =>
      have SD := (Below.refl wr.heap.size wr).drew
      have HBD := hBr.trans (SD.mono hBr.size)
      clear SD hBr
      obtain ⟨x, hx⟩ : ∃ x, x = NL.getD k 0 := ⟨_, rfl⟩
      rw [← hx] at HC1 HPl
      clear hx HC2 HC3 HLt
      refine wp_region_E (fun W => W.cell? ⟨w.heap.size, 0, none⟩ = some (.slice aS s.length cs) ∧ W.cell? ⟨b, off + k, none⟩ = some (.int .i64 x)) (fun _ => false) (by kernel_rfl) (HC1.out _ HBD) (fun hS => ?_)
      generalize wr.drew = W0 at *
      refine wpAnyE.take (i := 0) (v := ?_) rfl (by kernel_rfl) (by kernel_rfl) (by kernel_rfl) (by kernel_rfl) (fun _ _ _ h => h) (Or.inl ⟨by rfl, ?_⟩) (by assumption) ?_
      rotate_left
      · intro w hSw; obtain ⟨z0, z1⟩ := hSw; go_simp; with_reducible rfl
      try simp only [Act.put, List.getElem_toArray, List.getElem_cons_zero, List.setIfInBounds_toArray, List.set_cons_zero, List.set_cons_succ]
      refine wpAnyE.take (i := 1) (v := ?_) rfl (by kernel_rfl) (by kernel_rfl) (by kernel_rfl) (by kernel_rfl) (fun _ _ _ h => h) (Or.inl ⟨by rfl, ?_⟩) (by assumption) ?_
      rotate_left
      · intro w hSw; obtain ⟨z0, z1⟩ := hSw; go_simp; with_reducible rfl
      try simp only [Act.put, List.getElem_toArray, List.getElem_cons_succ, List.getElem_cons_zero, List.setIfInBounds_toArray, List.set_cons_zero, List.set_cons_succ]
      refine wpAnyE.take (i := 2) (v := ?_) rfl (by kernel_rfl) (by kernel_rfl) (by kernel_rfl) (by kernel_rfl) (fun _ _ _ h => h) (Or.inl ⟨by rfl, ?_⟩) (by assumption) ?_
      rotate_left
      · intro w hSw; obtain ⟨z0, z1⟩ := hSw; go_simp; with_reducible rfl
      try simp only [Act.put, List.getElem_toArray, List.getElem_cons_succ, List.getElem_cons_zero, List.setIfInBounds_toArray, List.set_cons_zero, List.set_cons_succ]
      refine wpAnyE.take (i := 3) (v := ?_) rfl (by kernel_rfl) (by kernel_rfl) (by kernel_rfl) (by kernel_rfl) (fun _ _ _ h => h) (Or.inl ⟨by rfl, ?_⟩) (by assumption) ?_
      rotate_left
      · intro w hSw; obtain ⟨z0, z1⟩ := hSw; go_simp; with_reducible rfl
      try simp only [Act.put, List.getElem_toArray, List.getElem_cons_succ, List.getElem_cons_zero, List.setIfInBounds_toArray, List.set_cons_zero, List.set_cons_succ]
      refine wpAnyE.take (i := 4) (v := ?_) rfl (by kernel_rfl) (by kernel_rfl) (by kernel_rfl) (by kernel_rfl) (fun _ _ _ h => h) (Or.inl ⟨by rfl, ?_⟩) (by assumption) ?_
      rotate_left
      · intro w hSw; obtain ⟨z0, z1⟩ := hSw; go_simp; with_reducible rfl
      try simp only [Act.put, List.getElem_toArray, List.getElem_cons_succ, List.getElem_cons_zero, List.setIfInBounds_toArray, List.set_cons_zero, List.set_cons_succ]
      refine wpAnyE.take (i := 5) (v := ?_) rfl (by kernel_rfl) (by kernel_rfl) (by kernel_rfl) (by kernel_rfl) (fun _ _ _ h => h) (Or.inl ⟨by rfl, ?_⟩) (by assumption) ?_
      rotate_left
      · intro w hSw; obtain ⟨z0, z1⟩ := hSw; go_simp; with_reducible rfl
      try simp only [Act.put, List.getElem_toArray, List.getElem_cons_succ, List.getElem_cons_zero, List.setIfInBounds_toArray, List.set_cons_zero, List.set_cons_succ]
      refine wpAnyE.two (i := 6) (j := 10) (by kernel_rfl) rfl rfl (fun K hK => ?_) (fun K hK => ?_)
      · go_simp
        refine (find_none aS cs s x W0 (hs.below (hB3.trans (HBD.mono hB3.size))) HC0.out HPl.out.1).mono ?_
        rintro e W1 ⟨rfl, hb1⟩
        have HB1 := HBD.trans (hb1.mono HBD.size)
        have hS1 := HC1.out _ HB1
        clear hb1 HBD hS
        refine hK _ _ (fun _ => hS1) ?_
        clear hK K
        try simp only [Act.put, List.getElem_toArray, List.getElem_cons_succ, List.getElem_cons_zero, List.setIfInBounds_toArray, List.set_cons_zero, List.set_cons_succ]
        refine wpAnyE.take (i := 7) (v := ?_) rfl (by kernel_rfl) (by kernel_rfl) (by kernel_rfl) (by kernel_rfl) (fun _ _ _ h => h) (Or.inl ⟨by rfl, ?_⟩) (by assumption) ?_
        rotate_left
        · intro w hSw; obtain ⟨z0, z1⟩ := hSw; go_simp; with_reducible rfl
        try simp only [Act.put, List.getElem_toArray, List.getElem_cons_succ, List.getElem_cons_zero, List.setIfInBounds_toArray, List.set_cons_zero, List.set_cons_succ]
        refine wpAnyE.take (i := 8) (v := ?_) rfl (by kernel_rfl) (by kernel_rfl) (by kernel_rfl) (by kernel_rfl) (fun _ _ _ h => h) (Or.inl ⟨by rfl, ?_⟩) (by assumption) ?_
        rotate_left
        · intro w hSw; obtain ⟨z0, z1⟩ := hSw; go_simp; with_reducible rfl
        try simp only [Act.put, List.getElem_toArray, List.getElem_cons_succ, List.getElem_cons_zero, List.setIfInBounds_toArray, List.set_cons_zero, List.set_cons_succ]
        refine wpAnyE.take (i := 9) (v := ?_) rfl (by kernel_rfl) (by kernel_rfl) (by kernel_rfl) (by kernel_rfl) (fun _ _ _ h => h) (Or.inl ⟨by rfl, ?_⟩) (by assumption) ?_
        rotate_left
        · intro w hSw; obtain ⟨z0, z1⟩ := hSw; go_simp; with_reducible rfl
        try simp only [Act.put, List.getElem_toArray, List.getElem_cons_succ, List.getElem_cons_zero, List.setIfInBounds_toArray, List.set_cons_zero, List.set_cons_succ]
        refine wpAnyE.one (i := 10) (by kernel_rfl) rfl (fun K hK => ?_)
        go_simp
        have HBa := HB1.trans ((below_alloc W1 (.cells #[.int .i64 0, .int .i64 0, .slice none 0 0, .string { data := #[] }] 35)).mono HB1.size)
        have hS2 := HC1.out _ HBa
        refine hK _ _ (fun _ => hS2) ?_
        clear hK K
        try simp only [Act.put, List.getElem_toArray, List.getElem_cons_succ, List.getElem_cons_zero, List.setIfInBounds_toArray, List.set_cons_zero, List.set_cons_succ]
        refine wpAnyE.one (i := 11) (by kernel_rfl) rfl (fun K hK => ?_)
        go_simp
        refine hK _ _ (fun _ => hS2) ?_
        clear hK K
        try simp only [Act.put, List.getElem_toArray, List.getElem_cons_succ, List.getElem_cons_zero, List.setIfInBounds_toArray, List.set_cons_zero, List.set_cons_succ]
        refine wpAnyE.one (i := 12) (by kernel_rfl) rfl (fun K hK => ?_)
        go_simp
        refine hK _ _ (fun _ => hS2) ?_
        clear hK K
        try simp only [Act.put, List.getElem_toArray, List.getElem_cons_succ, List.getElem_cons_zero, List.setIfInBounds_toArray, List.set_cons_zero, List.set_cons_succ]
        refine wpAnyE.done (by kernel_rfl) ?_
        go_wp2_with fail
        go_meet
        exact ⟨rfl, HBa, _, rfl⟩
      · go_simp
        have HBa := HBD.trans ((below_alloc W0 (.cells #[.int .i64 0, .int .i64 0, .slice none 0 0, .string { data := #[] }] 35)).mono HBD.size)
        have CA := Cells4.new W0 (.int .i64 0) (.int .i64 0) (.slice none 0 0) (.string { data := #[] }) 35
        have hs0 := HBD.size
        have hSa := HC1.out _ HBa
        clear HBD hS
        refine hK _ _ (fun _ => hSa) ?_
        clear hK K
        try simp only [Act.put, List.getElem_toArray, List.getElem_cons_succ, List.getElem_cons_zero, List.setIfInBounds_toArray, List.set_cons_zero, List.set_cons_succ]
        generalize W0.alloc (.cells #[.int .i64 0, .int .i64 0, .slice none 0 0, .string { data := #[] }] 35) = WA at *
        refine wpAnyE.one (i := 6) (by kernel_rfl) rfl (fun K hK => ?_)
        go_simp
        refine (find_none aS cs s x WA (hs.below (hB3.trans (HBa.mono hB3.size))) HC0.out HPl.out.1).mono ?_
        rintro e W1 ⟨rfl, hb1⟩
        have HB1 := HBa.trans (hb1.mono HBa.size)
        have CB := CA.below hb1 CA.lt
        have hS1 := HC1.out _ HB1
        clear hb1 HBa hSa CA
        refine hK _ _ (fun _ => hS1) ?_
        clear hK K
        try simp only [Act.put, List.getElem_toArray, List.getElem_cons_succ, List.getElem_cons_zero, List.setIfInBounds_toArray, List.set_cons_zero, List.set_cons_succ]
        refine wpAnyE.take (i := 7) (v := ?_) rfl (by kernel_rfl) (by kernel_rfl) (by kernel_rfl) (by kernel_rfl) (fun _ _ _ h => h) (Or.inl ⟨by rfl, ?_⟩) (by assumption) ?_
        rotate_left
        · intro w hSw; obtain ⟨z0, z1⟩ := hSw; go_simp; with_reducible rfl
        try simp only [Act.put, List.getElem_toArray, List.getElem_cons_succ, List.getElem_cons_zero, List.setIfInBounds_toArray, List.set_cons_zero, List.set_cons_succ]
        refine wpAnyE.take (i := 8) (v := ?_) rfl (by kernel_rfl) (by kernel_rfl) (by kernel_rfl) (by kernel_rfl) (fun _ _ _ h => h) (Or.inl ⟨by rfl, ?_⟩) (by assumption) ?_
        rotate_left
        · intro w hSw; obtain ⟨z0, z1⟩ := hSw; go_simp; with_reducible rfl
        try simp only [Act.put, List.getElem_toArray, List.getElem_cons_succ, List.getElem_cons_zero, List.setIfInBounds_toArray, List.set_cons_zero, List.set_cons_succ]
        refine wpAnyE.take (i := 9) (v := ?_) rfl (by kernel_rfl) (by kernel_rfl) (by kernel_rfl) (by kernel_rfl) (fun _ _ _ h => h) (Or.inl ⟨by rfl, ?_⟩) (by assumption) ?_
        rotate_left
        · intro w hSw; obtain ⟨z0, z1⟩ := hSw; go_simp; with_reducible rfl
        try simp only [Act.put, List.getElem_toArray, List.getElem_cons_succ, List.getElem_cons_zero, List.setIfInBounds_toArray, List.set_cons_zero, List.set_cons_succ]
        obtain ⟨c0, c1, c2, c3, f0, f1, f2, f3, cl⟩ := CB
        refine wpAnyE.one (i := 11) (by kernel_rfl) rfl (fun K hK => ?_)
        go_simp
        have HB2 := below_set4 (B := W0.heap.size) (x0 := .int .i64 0) (x1 := .int .i64 0) (x2 := .slice none 0 0) (x3 := .string { data := #[] }) HB1 hs0
        have hS2 := HC1.out _ HB2
        clear c0 c1 c2 c3 f0 f1 f2 f3 cl HB1 hS1
        refine hK _ _ (fun _ => hS2) ?_
        clear hK K
        try simp only [Act.put, List.getElem_toArray, List.getElem_cons_succ, List.getElem_cons_zero, List.setIfInBounds_toArray, List.set_cons_zero, List.set_cons_succ]
        refine wpAnyE.one (i := 12) (by kernel_rfl) rfl (fun K hK => ?_)
        go_simp
        refine hK _ _ (fun _ => hS2) ?_
        clear hK K
        try simp only [Act.put, List.getElem_toArray, List.getElem_cons_succ, List.getElem_cons_zero, List.setIfInBounds_toArray, List.set_cons_zero, List.set_cons_succ]
        refine wpAnyE.done (by kernel_rfl) ?_
        go_wp2_with fail
        go_meet
        exact ⟨rfl, HB2, _, rfl⟩
    · have hBw := hB3.trans (hBr.mono hB3.size)
      have hk14 := (hBr.block _ (heap_lt hk13)).trans hk13
      have hk24 := (hBr.block _ (heap_lt hk23)).trans hk23
      clear hB3 hBr hk13 hk23 hN3
      obtain ⟨y0, y1, y2⟩ := c3_of hk24
      obtain ⟨r0, r1, r2, r3, r4, r5, r6⟩ := c7_at hk14
      have htr := try_any aS cs s al cl l g ph a1 n1 c1 a2 n2 c2 f0 am cm m au cu us f wr (hg.below hBw) (hs.below hBw) hsl (hl.below hBw) hll (hm.below hBw) hml (hu.below hBw) hul
      go_wp2_with fail
      refine htr.mono ?_
      clear htr
      rintro e w4 ⟨hb4, hpost⟩
      have hB4 := hBw.trans (hb4.mono hBw.size)
      have hk25 := (hb4.block _ (heap_lt hk24)).trans hk24
      clear hb4 hBw hk14 hk24 y0 y1 y2 r0 r1 r2 r3 r4 r5 r6
      rcases hpost with ⟨hne, rfl⟩ | ⟨hz, a3, c3, a4, c4, rfl, hS1, -, -⟩
      · have z1 : (tryE s l m us f != 0) = true := by simpa using hne
        clear hne hk25
        go_wp2
        go_ret
        exact ⟨rfl, hB4⟩
      · have hn0 := HTN.out hz
        subst hn0
        have HE : Hid (needsE (takeRes s m) m us = 0 ∧ needsL (takeRes s m) m us = []) := try_needs_then hz
        have hT40 : (takeRes s m).length ≤ 9223372036854775807 := by have := (checkS_zero (addE_zero (tryE_iff.1 hz).2.1).2.2.2.2).1; omega
        obtain ⟨y0, y1, y2⟩ := c3_of hk25
        have hnd := needs_any a3 c3 (takeRes s m) am cm m au cu us f w4 (hg.below hB4) hS1 hT40 (hm.below hB4) hml (hu.below hB4) hul
        clear hz
        go_wp2_with fail
        refine hnd.mono ?_
        clear hnd
        rintro e w5 ⟨hb5, ⟨hno, -⟩ | ⟨-, a5, c5, rfl, -⟩⟩
        case inl => exact absurd HE.out.1 hno
        rw [HE.out.2]
        have hB5 := hB4.trans (hb5.mono hB4.size)
        clear hb5 hB4 hk25 y0 y1 y2 hS1
        go_wp2
        go_ret
        exact ⟨rfl, hB5⟩
end Go.Proofs.YtgkmoehbjdmefaaGreatDoor
