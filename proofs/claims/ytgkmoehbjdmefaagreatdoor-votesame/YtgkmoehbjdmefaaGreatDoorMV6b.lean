import Derived.Test.YtgkmoehbjdmefaaGreatDoorMV6a
namespace Go.Proofs.YtgkmoehbjdmefaaGreatDoor
section
open Go.RowKit
set_option maxRecDepth 100000

set_option maxHeartbeats 60000000 in
theorem voteSame_yesA (aS : Option Addr) (cs : Nat) (s : List Ob) (al : Option Addr) (cl : Nat) (l : List Rf) (g ph : Int) (a1 : Option Addr) (n1 c1 : Nat) (a2 : Option Addr) (n2 c2 : Nat) (f0 : Bool) (am : Option Addr) (cm : Nat) (m : List Ob) (au : Option Addr) (cu : Nat) (us : List Up) (f turned : Bool) (w : World) (hg : Glob w) (ht : Tab w)
    (hs : HoldsS w aS s) (hsl : s.length ≤ 9223372036854775807) (hl : HoldsR w al l) (hll : l.length ≤ 9223372036854775807) (hm : HoldsS w am m) (hml : m.length ≤ 9223372036854775807) (hu : HoldsU w au us) (hul : us.length ≤ 9223372036854775807) (hv : voteE g m us = 0) (hz : tryE s l m us f = 0) (hlen : turned = true → us.length = 1) :
    Calls Tryz.prog 6 #[replV aS s.length cs al l.length cl g ph a1 n1 c1 a2 n2 c2 f0, pushV am m.length cm au us.length cu f, .bool turned] w fun e w' => e = .returned (.bool true) ∧ Below w.heap.size w w' := by
  have HV : Hid (voteE g m us = 0) := hv
  have HTr : Hid (tryE s l m us f = 0) := hz
  have HLn : Hid (turned = true → us.length = 1) := hlen
  clear hv hlen hz
  have hB := below_alloc2 w (.cells #[.slice aS s.length cs, .slice al l.length cl, .int .i64 g, .int .i64 ph, .slice a1 n1 c1, .slice a2 n2 c2, .bool f0] 28) (.cells #[.slice am m.length cm, .slice au us.length cu, .bool f] 26)
  obtain ⟨hk1, hk2⟩ := two_blocks w (.cells #[.slice aS s.length cs, .slice al l.length cl, .int .i64 g, .int .i64 ph, .slice a1 n1 c1, .slice a2 n2 c2, .bool f0] 28) (.cells #[.slice am m.length cm, .slice au us.length cu, .bool f] 26)
  obtain ⟨y0, y1, y2⟩ := c3_of hk2
  obtain ⟨r0, r1, r2, r3, r4, r5, r6⟩ := c7_of hk1
  have hof := of_any aS cs s al cl l g ph a1 n1 c1 a2 n2 c2 f0 am cm m au cu us f _ (hg.below hB) (ht.below hB) (hs.below hB) hsl (hl.below hB) hll (hm.below hB) hml (hu.below hB) hul
  go_enter Tryz.func6, Tryz.ntmps6
  go_wp2_with fail
  refine hof.mono ?_
  clear hof
  rintro e w1 ⟨rfl, hb1⟩
  have hB1 := hB.trans (hb1.mono hB.size)
  have hk11 := (hb1.block _ (heap_lt hk1)).trans hk1
  have hk21 := (hb1.block _ (heap_lt hk2)).trans hk2
  clear hb1 hB hk1 hk2 y0 y1 y2 r0 r1 r2 r3 r4 r5 r6
  go_wp2_with fail
  refine (voteBegun_any w1 (hg.below hB1) (ht.below hB1)).mono ?_
  rintro e w2 ⟨rfl, hb2⟩
  have hB2 := hB1.trans (hb2.mono hB1.size)
  have hk12 := (hb2.block _ (heap_lt hk11)).trans hk11
  have hk22 := (hb2.block _ (heap_lt hk21)).trans hk21
  clear hb2 hB1 hk11 hk21
  go_wp2_with fail
  refine (pushBegun_any w2 (hg.below hB2)).mono ?_
  rintro e w3 ⟨rfl, hb3⟩
  have hB3 := hB2.trans (hb3.mono hB2.size)
  have hk13 := (hb3.block _ (heap_lt hk12)).trans hk12
  have hk23 := (hb3.block _ (heap_lt hk22)).trans hk22
  clear hb3 hB2 hk12 hk22
  rw [HV.out]
  have HP : Hid (pushE m us = 0 ∧ 0 ≤ g ∧ g ≤ 999) := voteE_iff.1 HV.out
  have hu4 : us.length ≤ 4 := (checkU_iff.1 (pushE_iff.1 HP.out.1).2.2).2.1
  have hu1 : 0 < us.length := (checkU_iff.1 (pushE_iff.1 HP.out.1).2.2).1
  obtain ⟨y0, y1, y2⟩ := c3_of hk23
  obtain ⟨r0, r1, r2, r3, r4, r5, r6⟩ := c7_of hk13
  have htr := try_any aS cs s al cl l g ph a1 n1 c1 a2 n2 c2 f0 am cm m au cu us f w3 (hg.below hB3) (hs.below hB3) hsl (hl.below hB3) hll (hm.below hB3) hml (hu.below hB3) hul
  -- the two ways
  obtain ⟨T, hT⟩ : ∃ T, T = voteS s l g m us f := ⟨_, rfl⟩
  rw [← hT]
  have HT : Hid (T = voteS s l g m us f) := hT
  clear hT
  go_wp2_with fail
  refine htr.mono ?_
  clear htr
  rintro e w4 ⟨hb4, hpost⟩
  have hB4 := hB3.trans (hb4.mono hB3.size)
  have hk14 := (hb4.block _ (heap_lt hk13)).trans hk13
  have hk24 := (hb4.block _ (heap_lt hk23)).trans hk23
  clear hb4 hB3 hk13 hk23 y0 y1 y2 r0 r1 r2 r3 r4 r5 r6
  obtain ⟨b, off, rfl, hbu, hcu⟩ := hu 0 hu1
  obtain ⟨a3, c3, a4, c4, rfl⟩ : ∃ a3 c3 a4 c4, e = .returned (.tuple #[.slice a3 (takeRes s m).length c3, .slice a4 (runL l us).length c4, .int .i64 0]) := by
    rcases hpost with ⟨q, _⟩ | ⟨_, a3, c3, a4, c4, q, _⟩
    · exact absurd HTr.out q
    · exact ⟨a3, c3, a4, c4, q⟩
  clear hpost
  have hz := HTr.out
  have HY : Hid (T = sYesB ++ (itoaS g ++ sBl ++ textS us)) := by unfold Hid; rw [HT.out]; exact vote_yes HV.out hz
  have hsz := yes_size T g (textS us) HY.out
  have hle : (4 : Int) < (T.size : Int) := by omega
  have hle2 : (4 : Int) ≤ (T.size : Int) := by omega
  have hpre := yes_pre T _ HY.out
  go_upto_region 9 with fail
  go_cut [12] from 50 to 58 (fun s12 wx => ∃ q gq cap cur, s12 = .pointer (some ⟨q, 0, none⟩) ∧ Qu w4 wx am m.length cm f us q gq cap cur)
  case first =>
    have hdr := (Below.refl w4.heap.size w4).drew
    have hS0 : w4.drew.cell? ⟨w.heap.size + 1, 0, none⟩ = some (.slice am m.length cm) ∧ w4.drew.cell? ⟨w.heap.size + 1, 1, none⟩ = some (.slice (some ⟨b, off, none⟩) us.length cu) ∧ w4.drew.cell? ⟨w.heap.size + 1, 2, none⟩ = some (.bool f) := c3_of hk24
    have hU0 : ∀ k (hk : k < us.length), UpAt w4.drew b (off + k * 3) us[k] := fun k hk => ⟨cell_keep (hB4.trans (hdr.mono hB4.size)) hbu (hcu k hk).1, cell_keep (hB4.trans (hdr.mono hB4.size)) hbu (hcu k hk).2.1, cell_keep (hB4.trans (hdr.mono hB4.size)) hbu (hcu k hk).2.2⟩
    have hbW : b < w4.drew.heap.size := Nat.lt_of_lt_of_le hbu (hB4.trans (hdr.mono hB4.size)).size
    have hpW : w.heap.size + 1 < w4.drew.heap.size := heap_lt hk24
    refine wp_region_E (fun W => W.cell? ⟨w.heap.size + 1, 0, none⟩ = some (.slice am m.length cm) ∧ W.cell? ⟨w.heap.size + 1, 1, none⟩ = some (.slice (some ⟨b, off, none⟩) us.length cu) ∧ W.cell? ⟨w.heap.size + 1, 2, none⟩ = some (.bool f)) (fun _ => false) (by kernel_rfl) hS0 (fun hS => ?_)
    generalize w4.drew = W0 at *
    refine wpAnyE.take (i := 0) (v := ?_) rfl (by kernel_rfl) (by kernel_rfl) (by kernel_rfl) (by kernel_rfl) (fun _ _ _ h => h) (Or.inl ⟨by rfl, ?_⟩) (by assumption) ?_
    rotate_left
    · intro w hSw; obtain ⟨z0, z1, z2⟩ := hSw; go_simp; with_reducible rfl
    try simp only [Act.put, List.getElem_toArray, List.getElem_cons_zero, List.setIfInBounds_toArray, List.set_cons_zero, List.set_cons_succ]
    refine wpAnyE.take (i := 1) (v := ?_) rfl (by kernel_rfl) (by kernel_rfl) (by kernel_rfl) (by kernel_rfl) (fun _ _ _ h => h) (Or.inl ⟨by rfl, ?_⟩) (by assumption) ?_
    rotate_left
    · intro w hSw; obtain ⟨z0, z1, z2⟩ := hSw; go_simp; with_reducible rfl
    try simp only [Act.put, List.getElem_toArray, List.getElem_cons_succ, List.getElem_cons_zero, List.setIfInBounds_toArray, List.set_cons_zero, List.set_cons_succ]
    refine wpAnyE.take (i := 3) (v := ?_) rfl (by kernel_rfl) (by kernel_rfl) (by kernel_rfl) (by kernel_rfl) (fun _ _ _ h => h) (Or.inl ⟨by rfl, ?_⟩) (by assumption) ?_
    rotate_left
    · intro w hSw; obtain ⟨z0, z1, z2⟩ := hSw; go_simp; with_reducible rfl
    try simp only [Act.put, List.getElem_toArray, List.getElem_cons_succ, List.getElem_cons_zero, List.setIfInBounds_toArray, List.set_cons_zero, List.set_cons_succ]
    refine wpAnyE.take (i := 4) (v := ?_) rfl (by kernel_rfl) (by kernel_rfl) (by kernel_rfl) (by kernel_rfl) (fun _ _ _ h => h) (Or.inl ⟨by rfl, ?_⟩) (by assumption) ?_
    rotate_left
    · intro w hSw; obtain ⟨z0, z1, z2⟩ := hSw; go_simp; with_reducible rfl
    try simp only [Act.put, List.getElem_toArray, List.getElem_cons_succ, List.getElem_cons_zero, List.setIfInBounds_toArray, List.set_cons_zero, List.set_cons_succ]
    refine wpAnyE.take (i := 6) (v := ?_) rfl (by kernel_rfl) (by kernel_rfl) (by kernel_rfl) (by kernel_rfl) (fun _ _ _ h => h) (Or.inl ⟨by rfl, ?_⟩) (by assumption) ?_
    rotate_left
    · intro w hSw; obtain ⟨z0, z1, z2⟩ := hSw; go_simp; with_reducible rfl
    try simp only [Act.put, List.getElem_toArray, List.getElem_cons_succ, List.getElem_cons_zero, List.setIfInBounds_toArray, List.set_cons_zero, List.set_cons_succ]
    refine wpAnyE.take (i := 7) (v := ?_) rfl (by kernel_rfl) (by kernel_rfl) (by kernel_rfl) (by kernel_rfl) (fun _ _ _ h => h) (Or.inl ⟨by rfl, ?_⟩) (by assumption) ?_
    rotate_left
    · intro w hSw; obtain ⟨z0, z1, z2⟩ := hSw; go_simp; with_reducible rfl
    try simp only [Act.put, List.getElem_toArray, List.getElem_cons_succ, List.getElem_cons_zero, List.setIfInBounds_toArray, List.set_cons_zero, List.set_cons_succ]
    refine wpAnyE.two (i := 2) (j := 9) (by kernel_rfl) rfl rfl (fun K hK => ?_) (fun K hK => ?_)
    · go_simp
      obtain ⟨W1, hW1⟩ : ∃ W1, W1 = W0.alloc (.cells #[] 45) := ⟨_, rfl⟩
      have hb1 : Below W0.heap.size W0 W1 := by rw [hW1]; exact below_alloc _ _
      have kW1 : W1.heap[W0.heap.size]? = some (.cells #[] 45) := by rw [hW1]; exact heap_alloc_new W0 _
      have sW1 : W0.heap.size < W1.heap.size := by rw [hW1]; simp
      rw [← hW1]
      clear hW1
      have hSn : W1.cell? ⟨w.heap.size + 1, 0, none⟩ = some (.slice am m.length cm) ∧ W1.cell? ⟨w.heap.size + 1, 1, none⟩ = some (.slice (some ⟨b, off, none⟩) us.length cu) ∧ W1.cell? ⟨w.heap.size + 1, 2, none⟩ = some (.bool f) := ⟨cell_keep hb1 (by omega) hS0.1, cell_keep hb1 (by omega) hS0.2.1, cell_keep hb1 (by omega) hS0.2.2⟩
      have hUn : ∀ k (hk : k < us.length), UpAt W1 b (off + k * 3) us[k] := fun k hk => ⟨cell_keep hb1 (by omega) (hU0 k hk).1, cell_keep hb1 (by omega) (hU0 k hk).2.1, cell_keep hb1 (by omega) (hU0 k hk).2.2⟩
      clear hS0 hU0
      have hS0 := hSn
      have hU0 := hUn
      clear hSn hUn
      refine hK _ _ (fun _ => hS0) ?_
      clear hK K
      try simp only [Act.put, List.getElem_toArray, List.getElem_cons_succ, List.getElem_cons_zero, List.setIfInBounds_toArray, List.set_cons_zero, List.set_cons_succ]
      refine wpAnyE.two (i := 5) (j := 9) (by kernel_rfl) rfl rfl (fun K hK => ?_) (fun K hK => ?_)
      · skip
        obtain ⟨gq, cap, cur, Wa, hra, hca, hga, hka, hta, hsa, hgr⟩ := app_ups W1 24 W0.heap.size b off cu us kW1 hU0 hu4 hu1
        refine step_append_t (by rfl) (.tmp 52) (.tmp 54) (by rfl) _ _ (by rfl) (by rfl) hra ?_
        have hba : Below W0.heap.size W1 Wa := ⟨hgr.os, hgr.tape, hgr.output, hgr.size, fun k hk => hgr.block k (by have := heap_lt kW1; omega) (fun e => by simp at e; omega)⟩
        have hSn : Wa.cell? ⟨w.heap.size + 1, 0, none⟩ = some (.slice am m.length cm) ∧ Wa.cell? ⟨w.heap.size + 1, 1, none⟩ = some (.slice (some ⟨b, off, none⟩) us.length cu) ∧ Wa.cell? ⟨w.heap.size + 1, 2, none⟩ = some (.bool f) := ⟨cell_keep hba (by omega) hS0.1, cell_keep hba (by omega) hS0.2.1, cell_keep hba (by omega) hS0.2.2⟩
        clear hS0 hU0
        have hS0 := hSn
        clear hSn hra
        refine hK _ _ (fun _ => hS0) ?_
        clear hK K
        try simp only [Act.put, List.getElem_toArray, List.getElem_cons_succ, List.getElem_cons_zero, List.setIfInBounds_toArray, List.set_cons_zero, List.set_cons_succ]
        refine wpAnyE.take (i := 8) (v := ?_) rfl (by kernel_rfl) (by kernel_rfl) (by kernel_rfl) (by kernel_rfl) (fun _ _ _ h => h) (Or.inl ⟨by rfl, ?_⟩) (by assumption) ?_
        rotate_left
        · intro w hSw; obtain ⟨z0, z1, z2⟩ := hSw; go_simp; with_reducible rfl
        try simp only [Act.put, List.getElem_toArray, List.getElem_cons_succ, List.getElem_cons_zero, List.setIfInBounds_toArray, List.set_cons_zero, List.set_cons_succ]
        refine wpAnyE.one (i := 9) (by kernel_rfl) rfl (fun K hK => ?_)
        go_simp
        obtain ⟨W3, hW3⟩ : ∃ W3, W3 = Wa.alloc (.cells #[.slice none 0 0, .slice none 0 0, .bool false] 26) := ⟨_, rfl⟩
        have hb3 : Below Wa.heap.size Wa W3 := by rw [hW3]; exact below_alloc _ _
        have kW3 : W3.heap[Wa.heap.size]? = some (.cells #[.slice none 0 0, .slice none 0 0, .bool false] 26) := by rw [hW3]; exact heap_alloc_new Wa _
        have sW3 : Wa.heap.size < W3.heap.size := by rw [hW3]; simp
        rw [← hW3]
        clear hW3
        have hSn : W3.cell? ⟨w.heap.size + 1, 0, none⟩ = some (.slice am m.length cm) ∧ W3.cell? ⟨w.heap.size + 1, 1, none⟩ = some (.slice (some ⟨b, off, none⟩) us.length cu) ∧ W3.cell? ⟨w.heap.size + 1, 2, none⟩ = some (.bool f) := ⟨cell_keep hb3 (by have := hgr.size; omega) hS0.1, cell_keep hb3 (by have := hgr.size; omega) hS0.2.1, cell_keep hb3 (by have := hgr.size; omega) hS0.2.2⟩
        clear hS0
        have hS0 := hSn
        clear hSn
        refine hK _ _ (fun _ => hS0) ?_
        clear hK K
        try simp only [Act.put, List.getElem_toArray, List.getElem_cons_succ, List.getElem_cons_zero, List.setIfInBounds_toArray, List.set_cons_zero, List.set_cons_succ]
        refine wpAnyE.one (i := 10) (by kernel_rfl) rfl (fun K hK => ?_)
        obtain ⟨cq0, cq1, cq2⟩ := c3_of kW3
        have fq0 := f_of (o := 0) kW3
        have fq1 := f_of (o := 1) kW3
        have fq2 := f_of (o := 2) kW3
        have hset := set3_block W3 Wa.heap.size (.slice am m.length cm) (.slice (some ⟨gq, 0, none⟩) us.length cap) (.bool f) kW3
        go_simp
        obtain ⟨Wf, hWf⟩ : ∃ Wf, Wf = (((W3.setCell ⟨Wa.heap.size, 0, none⟩ (.slice am m.length cm)).setCell ⟨Wa.heap.size, 1, none⟩ (.slice (some ⟨gq, 0, none⟩) us.length cap)).setCell ⟨Wa.heap.size, 2, none⟩ (.bool f)) := ⟨_, rfl⟩
        rw [← hWf] at hset ⊢
        have HQ : Qu w4 Wf am m.length cm f us Wa.heap.size gq cap cur := ⟨((hdr.trans (hb1.mono (by have := hdr.size; omega))).trans (hba.mono (by have := hdr.size; omega))).trans ((hb3.trans (hset.2.1.mono (by omega))).mono (by have := hdr.size; have := hgr.size; omega)), hset.1, (hset.2.2 _ (by have := heap_lt hka; omega)).trans ((hb3.block _ (heap_lt hka)).trans hka), hta, hsa, hca, by have := hdr.size; have := hgr.size; omega, by have := hdr.size; omega, by have := heap_lt hka; omega⟩
        have hSf : Wf.cell? ⟨w.heap.size + 1, 0, none⟩ = some (.slice am m.length cm) ∧ Wf.cell? ⟨w.heap.size + 1, 1, none⟩ = some (.slice (some ⟨b, off, none⟩) us.length cu) ∧ Wf.cell? ⟨w.heap.size + 1, 2, none⟩ = some (.bool f) := ⟨far_keep hset.2.2 (by have := hgr.size; omega) hS0.1, far_keep hset.2.2 (by have := hgr.size; omega) hS0.2.1, far_keep hset.2.2 (by have := hgr.size; omega) hS0.2.2⟩
        refine hK _ _ (fun _ => hSf) ?_
        clear hK K
        try simp only [Act.put, List.getElem_toArray, List.getElem_cons_succ, List.getElem_cons_zero, List.setIfInBounds_toArray, List.set_cons_zero, List.set_cons_succ]
        refine wpAnyE.done (by kernel_rfl) ?_
        go_wp2_with fail
        go_meet
        exact ⟨_, _, _, _, rfl, HQ⟩
      · go_simp
        obtain ⟨W2, hW2⟩ : ∃ W2, W2 = W1.alloc (.cells #[.slice none 0 0, .slice none 0 0, .bool false] 26) := ⟨_, rfl⟩
        have hb2 : Below W1.heap.size W1 W2 := by rw [hW2]; exact below_alloc _ _
        have kW2 : W2.heap[W1.heap.size]? = some (.cells #[.slice none 0 0, .slice none 0 0, .bool false] 26) := by rw [hW2]; exact heap_alloc_new W1 _
        have sW2 : W1.heap.size < W2.heap.size := by rw [hW2]; simp
        rw [← hW2]
        clear hW2
        have hSn : W2.cell? ⟨w.heap.size + 1, 0, none⟩ = some (.slice am m.length cm) ∧ W2.cell? ⟨w.heap.size + 1, 1, none⟩ = some (.slice (some ⟨b, off, none⟩) us.length cu) ∧ W2.cell? ⟨w.heap.size + 1, 2, none⟩ = some (.bool f) := ⟨cell_keep hb2 (by omega) hS0.1, cell_keep hb2 (by omega) hS0.2.1, cell_keep hb2 (by omega) hS0.2.2⟩
        have hUn : ∀ k (hk : k < us.length), UpAt W2 b (off + k * 3) us[k] := fun k hk => ⟨cell_keep hb2 (by omega) (hU0 k hk).1, cell_keep hb2 (by omega) (hU0 k hk).2.1, cell_keep hb2 (by omega) (hU0 k hk).2.2⟩
        clear hS0 hU0
        have hS0 := hSn
        have hU0 := hUn
        clear hSn hUn
        have kz := (hb2.block _ (heap_lt kW1)).trans kW1
        refine hK _ _ (fun _ => hS0) ?_
        clear hK K
        try simp only [Act.put, List.getElem_toArray, List.getElem_cons_succ, List.getElem_cons_zero, List.setIfInBounds_toArray, List.set_cons_zero, List.set_cons_succ]
        refine wpAnyE.one (i := 5) (by kernel_rfl) rfl (fun K hK => ?_)
        obtain ⟨gq, cap, cur, Wa, hra, hca, hga, hka, hta, hsa, hgr⟩ := app_ups W2 24 W0.heap.size b off cu us kz hU0 hu4 hu1
        refine step_append_t (by rfl) (.tmp 52) (.tmp 54) (by rfl) _ _ (by rfl) (by rfl) hra ?_
        have hba : Below W0.heap.size W2 Wa := ⟨hgr.os, hgr.tape, hgr.output, hgr.size, fun k hk => hgr.block k (by have := heap_lt kz; omega) (fun e => by simp at e; omega)⟩
        have hSn : Wa.cell? ⟨w.heap.size + 1, 0, none⟩ = some (.slice am m.length cm) ∧ Wa.cell? ⟨w.heap.size + 1, 1, none⟩ = some (.slice (some ⟨b, off, none⟩) us.length cu) ∧ Wa.cell? ⟨w.heap.size + 1, 2, none⟩ = some (.bool f) := ⟨cell_keep hba (by omega) hS0.1, cell_keep hba (by omega) hS0.2.1, cell_keep hba (by omega) hS0.2.2⟩
        clear hS0 hU0
        have hS0 := hSn
        clear hSn hra
        have kq := (hgr.block W1.heap.size (heap_lt kW2) (fun e => by simp at e; omega)).trans kW2
        refine hK _ _ (fun _ => hS0) ?_
        clear hK K
        try simp only [Act.put, List.getElem_toArray, List.getElem_cons_succ, List.getElem_cons_zero, List.setIfInBounds_toArray, List.set_cons_zero, List.set_cons_succ]
        refine wpAnyE.take (i := 8) (v := ?_) rfl (by kernel_rfl) (by kernel_rfl) (by kernel_rfl) (by kernel_rfl) (fun _ _ _ h => h) (Or.inl ⟨by rfl, ?_⟩) (by assumption) ?_
        rotate_left
        · intro w hSw; obtain ⟨z0, z1, z2⟩ := hSw; go_simp; with_reducible rfl
        try simp only [Act.put, List.getElem_toArray, List.getElem_cons_succ, List.getElem_cons_zero, List.setIfInBounds_toArray, List.set_cons_zero, List.set_cons_succ]
        refine wpAnyE.one (i := 10) (by kernel_rfl) rfl (fun K hK => ?_)
        obtain ⟨cq0, cq1, cq2⟩ := c3_of kq
        have fq0 := f_of (o := 0) kq
        have fq1 := f_of (o := 1) kq
        have fq2 := f_of (o := 2) kq
        have hset := set3_block Wa W1.heap.size (.slice am m.length cm) (.slice (some ⟨gq, 0, none⟩) us.length cap) (.bool f) kq
        go_simp
        obtain ⟨Wf, hWf⟩ : ∃ Wf, Wf = (((Wa.setCell ⟨W1.heap.size, 0, none⟩ (.slice am m.length cm)).setCell ⟨W1.heap.size, 1, none⟩ (.slice (some ⟨gq, 0, none⟩) us.length cap)).setCell ⟨W1.heap.size, 2, none⟩ (.bool f)) := ⟨_, rfl⟩
        rw [← hWf] at hset ⊢
        have HQ : Qu w4 Wf am m.length cm f us W1.heap.size gq cap cur := ⟨(((hdr.trans (hb1.mono (by have := hdr.size; omega))).trans (hb2.mono (by have := hdr.size; omega))).trans (hba.mono (by have := hdr.size; omega))).trans (hset.2.1.mono (by have := hdr.size; omega)), hset.1, (hset.2.2 _ (by omega)).trans hka, hta, hsa, hca, by have := hdr.size; omega, by have := hdr.size; omega, by omega⟩
        have hSf : Wf.cell? ⟨w.heap.size + 1, 0, none⟩ = some (.slice am m.length cm) ∧ Wf.cell? ⟨w.heap.size + 1, 1, none⟩ = some (.slice (some ⟨b, off, none⟩) us.length cu) ∧ Wf.cell? ⟨w.heap.size + 1, 2, none⟩ = some (.bool f) := ⟨far_keep hset.2.2 (by have := hgr.size; omega) hS0.1, far_keep hset.2.2 (by have := hgr.size; omega) hS0.2.1, far_keep hset.2.2 (by have := hgr.size; omega) hS0.2.2⟩
        refine hK _ _ (fun _ => hSf) ?_
        clear hK K
        try simp only [Act.put, List.getElem_toArray, List.getElem_cons_succ, List.getElem_cons_zero, List.setIfInBounds_toArray, List.set_cons_zero, List.set_cons_succ]
        refine wpAnyE.done (by kernel_rfl) ?_
        go_wp2_with fail
        go_meet
        exact ⟨_, _, _, _, rfl, HQ⟩
    · go_simp
      obtain ⟨W1, hW1⟩ : ∃ W1, W1 = W0.alloc (.cells #[.slice none 0 0, .slice none 0 0, .bool false] 26) := ⟨_, rfl⟩
      have hb1 : Below W0.heap.size W0 W1 := by rw [hW1]; exact below_alloc _ _
      have kW1 : W1.heap[W0.heap.size]? = some (.cells #[.slice none 0 0, .slice none 0 0, .bool false] 26) := by rw [hW1]; exact heap_alloc_new W0 _
      have sW1 : W0.heap.size < W1.heap.size := by rw [hW1]; simp
      rw [← hW1]
      clear hW1
      have hSn : W1.cell? ⟨w.heap.size + 1, 0, none⟩ = some (.slice am m.length cm) ∧ W1.cell? ⟨w.heap.size + 1, 1, none⟩ = some (.slice (some ⟨b, off, none⟩) us.length cu) ∧ W1.cell? ⟨w.heap.size + 1, 2, none⟩ = some (.bool f) := ⟨cell_keep hb1 (by omega) hS0.1, cell_keep hb1 (by omega) hS0.2.1, cell_keep hb1 (by omega) hS0.2.2⟩
      have hUn : ∀ k (hk : k < us.length), UpAt W1 b (off + k * 3) us[k] := fun k hk => ⟨cell_keep hb1 (by omega) (hU0 k hk).1, cell_keep hb1 (by omega) (hU0 k hk).2.1, cell_keep hb1 (by omega) (hU0 k hk).2.2⟩
      clear hS0 hU0
      have hS0 := hSn
      have hU0 := hUn
      clear hSn hUn
      refine hK _ _ (fun _ => hS0) ?_
      clear hK K
      try simp only [Act.put, List.getElem_toArray, List.getElem_cons_succ, List.getElem_cons_zero, List.setIfInBounds_toArray, List.set_cons_zero, List.set_cons_succ]
      refine wpAnyE.one (i := 2) (by kernel_rfl) rfl (fun K hK => ?_)
      go_simp
      obtain ⟨W2, hW2⟩ : ∃ W2, W2 = W1.alloc (.cells #[] 45) := ⟨_, rfl⟩
      have hb2 : Below W1.heap.size W1 W2 := by rw [hW2]; exact below_alloc _ _
      have kW2 : W2.heap[W1.heap.size]? = some (.cells #[] 45) := by rw [hW2]; exact heap_alloc_new W1 _
      have sW2 : W1.heap.size < W2.heap.size := by rw [hW2]; simp
      rw [← hW2]
      clear hW2
      have hSn : W2.cell? ⟨w.heap.size + 1, 0, none⟩ = some (.slice am m.length cm) ∧ W2.cell? ⟨w.heap.size + 1, 1, none⟩ = some (.slice (some ⟨b, off, none⟩) us.length cu) ∧ W2.cell? ⟨w.heap.size + 1, 2, none⟩ = some (.bool f) := ⟨cell_keep hb2 (by omega) hS0.1, cell_keep hb2 (by omega) hS0.2.1, cell_keep hb2 (by omega) hS0.2.2⟩
      have hUn : ∀ k (hk : k < us.length), UpAt W2 b (off + k * 3) us[k] := fun k hk => ⟨cell_keep hb2 (by omega) (hU0 k hk).1, cell_keep hb2 (by omega) (hU0 k hk).2.1, cell_keep hb2 (by omega) (hU0 k hk).2.2⟩
      clear hS0 hU0
      have hS0 := hSn
      have hU0 := hUn
      clear hSn hUn
      have kz := (hb2.block _ (heap_lt kW1)).trans kW1
      refine hK _ _ (fun _ => hS0) ?_
      clear hK K
      try simp only [Act.put, List.getElem_toArray, List.getElem_cons_succ, List.getElem_cons_zero, List.setIfInBounds_toArray, List.set_cons_zero, List.set_cons_succ]
      refine wpAnyE.one (i := 5) (by kernel_rfl) rfl (fun K hK => ?_)
      obtain ⟨gq, cap, cur, Wa, hra, hca, hga, hka, hta, hsa, hgr⟩ := app_ups W2 24 W1.heap.size b off cu us kW2 hU0 hu4 hu1
      refine step_append_t (by rfl) (.tmp 52) (.tmp 54) (by rfl) _ _ (by rfl) (by rfl) hra ?_
      have hba : Below W1.heap.size W2 Wa := ⟨hgr.os, hgr.tape, hgr.output, hgr.size, fun k hk => hgr.block k (by have := heap_lt kW2; omega) (fun e => by simp at e; omega)⟩
      have hSn : Wa.cell? ⟨w.heap.size + 1, 0, none⟩ = some (.slice am m.length cm) ∧ Wa.cell? ⟨w.heap.size + 1, 1, none⟩ = some (.slice (some ⟨b, off, none⟩) us.length cu) ∧ Wa.cell? ⟨w.heap.size + 1, 2, none⟩ = some (.bool f) := ⟨cell_keep hba (by omega) hS0.1, cell_keep hba (by omega) hS0.2.1, cell_keep hba (by omega) hS0.2.2⟩
      clear hS0 hU0
      have hS0 := hSn
      clear hSn hra
      have kq := (hgr.block W0.heap.size (heap_lt kz) (fun e => by simp at e; omega)).trans kz
      refine hK _ _ (fun _ => hS0) ?_
      clear hK K
      try simp only [Act.put, List.getElem_toArray, List.getElem_cons_succ, List.getElem_cons_zero, List.setIfInBounds_toArray, List.set_cons_zero, List.set_cons_succ]
      refine wpAnyE.take (i := 8) (v := ?_) rfl (by kernel_rfl) (by kernel_rfl) (by kernel_rfl) (by kernel_rfl) (fun _ _ _ h => h) (Or.inl ⟨by rfl, ?_⟩) (by assumption) ?_
      rotate_left
      · intro w hSw; obtain ⟨z0, z1, z2⟩ := hSw; go_simp; with_reducible rfl
      try simp only [Act.put, List.getElem_toArray, List.getElem_cons_succ, List.getElem_cons_zero, List.setIfInBounds_toArray, List.set_cons_zero, List.set_cons_succ]
      refine wpAnyE.one (i := 10) (by kernel_rfl) rfl (fun K hK => ?_)
      obtain ⟨cq0, cq1, cq2⟩ := c3_of kq
      have fq0 := f_of (o := 0) kq
      have fq1 := f_of (o := 1) kq
      have fq2 := f_of (o := 2) kq
      have hset := set3_block Wa W0.heap.size (.slice am m.length cm) (.slice (some ⟨gq, 0, none⟩) us.length cap) (.bool f) kq
      go_simp
      obtain ⟨Wf, hWf⟩ : ∃ Wf, Wf = (((Wa.setCell ⟨W0.heap.size, 0, none⟩ (.slice am m.length cm)).setCell ⟨W0.heap.size, 1, none⟩ (.slice (some ⟨gq, 0, none⟩) us.length cap)).setCell ⟨W0.heap.size, 2, none⟩ (.bool f)) := ⟨_, rfl⟩
      rw [← hWf] at hset ⊢
      have HQ : Qu w4 Wf am m.length cm f us W0.heap.size gq cap cur := ⟨(((hdr.trans (hb1.mono (by have := hdr.size; omega))).trans (hb2.mono (by have := hdr.size; omega))).trans (hba.mono (by have := hdr.size; omega))).trans (hset.2.1.mono (by have := hdr.size; omega)), hset.1, (hset.2.2 _ (by omega)).trans hka, hta, hsa, hca, by have := hdr.size; omega, by have := hdr.size; omega, by omega⟩
      have hSf : Wf.cell? ⟨w.heap.size + 1, 0, none⟩ = some (.slice am m.length cm) ∧ Wf.cell? ⟨w.heap.size + 1, 1, none⟩ = some (.slice (some ⟨b, off, none⟩) us.length cu) ∧ Wf.cell? ⟨w.heap.size + 1, 2, none⟩ = some (.bool f) := ⟨far_keep hset.2.2 (by have := hgr.size; omega) hS0.1, far_keep hset.2.2 (by have := hgr.size; omega) hS0.2.1, far_keep hset.2.2 (by have := hgr.size; omega) hS0.2.2⟩
      refine hK _ _ (fun _ => hSf) ?_
      clear hK K
      try simp only [Act.put, List.getElem_toArray, List.getElem_cons_succ, List.getElem_cons_zero, List.setIfInBounds_toArray, List.set_cons_zero, List.set_cons_succ]
      refine wpAnyE.done (by kernel_rfl) ?_
      go_wp2_with fail
      go_meet
      exact ⟨_, _, _, _, rfl, HQ⟩
  case rest =>
    obtain ⟨q, gq, cap, cur, rfl, Q⟩ := hcut
    have hBc := hB4.trans (Q.hb.mono hB4.size)
    have hk1c := (Q.hb.block _ (heap_lt hk14)).trans hk14
    have hqw : w.heap.size < q := Nat.lt_of_lt_of_le (heap_lt hk14) Q.q1
    have hgw : w.heap.size < gq := Nat.lt_of_lt_of_le (heap_lt hk14) Q.g1
    have HCall : Hid (∀ (vs : List Up) (W : World), vs.Perm us → Below w.heap.size w W → HoldsU W (some ⟨gq, 0, none⟩) vs → Calls Tryz.prog 19 #[replV aS s.length cs al l.length cl g ph a1 n1 c1 a2 n2 c2 f0, pushV am m.length cm (some ⟨gq, 0, none⟩) us.length cap f] W fun e w' => e = .returned (.tuple #[.string (voteS s l g m vs f), .int .i64 0]) ∧ Below W.heap.size W w') := fun vs W hp hb hv => by
      have h := of_any aS cs s al cl l g ph a1 n1 c1 a2 n2 c2 f0 am cm m (some ⟨gq, 0, none⟩) cap vs f W (hg.below hb) (ht.below hb) (hs.below hb) hsl (hl.below hb) hll (hm.below hb) hml hv (by rw [hp.length_eq]; exact hul)
      rw [voteE_iff.2 ⟨push_perm hp HP.out.1, HP.out.2⟩, hp.length_eq] at h
      exact h
    have HSame : Hid (∀ vs : List Up, vs.Perm us → voteS s l g m vs f = T) := fun vs hp => by
      rw [HY.out, vote_yes (voteE_iff.2 ⟨push_perm hp HP.out.1, HP.out.2⟩) (try_perm hp hz), text_perm hp (pushE_iff.1 HP.out.1).2.2]
    have qt : (T.toList == T.toList) = true := by simp
    have hUc := holdsU_cur Q.hu Q.ht
    have hkq := Q.hq
    have hku := Q.hu
    obtain ⟨rr, hcur⟩ := cur_of Q.ht
    have hgq := Q.ne
    have hcap := Q.hc
    clear Q hk14 hk24 hB4 hs hl hm hcu hu HT HV HP HY hpre hsz hle hle2 hg ht
    cases turned with
    | false =>
      obtain ⟨q0, q1, q2⟩ := c3_of hkq
      have hcl := HCall.out us wc (List.Perm.refl _) hBc hUc
      obtain ⟨q0, q1, q2⟩ := c3_of hkq
      obtain ⟨r0, r1, r2, r3, r4, r5, r6⟩ := c7_of hk1c
      go_wp2_with fail
      refine hcl.mono ?_
      clear hcl
      rintro e w6 ⟨rfl, hb6⟩
      have hB6 := hBc.trans (hb6.mono hBc.size)
      rw [HSame.out us (List.Perm.refl _)]
      clear hb6 q0 q1 q2 r0 r1 r2 r3 r4 r5 r6
      go_wp2
      go_ret
      exact ⟨rfl, hB6⟩
    | true =>
      have h1 : us.length = 1 := HLn.out rfl
      have h1' : ¬ (1 : Int) < (us.length : Int) := by omega
      obtain ⟨q0, q1, q2⟩ := c3_of hkq
      clear h1
      have hcl := HCall.out us wc (List.Perm.refl _) hBc hUc
      obtain ⟨q0, q1, q2⟩ := c3_of hkq
      obtain ⟨r0, r1, r2, r3, r4, r5, r6⟩ := c7_of hk1c
      go_wp2_with fail
      refine hcl.mono ?_
      clear hcl
      rintro e w6 ⟨rfl, hb6⟩
      have hB6 := hBc.trans (hb6.mono hBc.size)
      rw [HSame.out us (List.Perm.refl _)]
      clear hb6 q0 q1 q2 r0 r1 r2 r3 r4 r5 r6
      go_wp2
      go_ret
      exact ⟨rfl, hB6⟩
end

section
open Go.RowKit
set_option maxRecDepth 100000

set_option maxHeartbeats 60000000 in
theorem voteSame_yes2 (aS : Option Addr) (cs : Nat) (s : List Ob) (al : Option Addr) (cl : Nat) (l : List Rf) (g ph : Int) (a1 : Option Addr) (n1 c1 : Nat) (a2 : Option Addr) (n2 c2 : Nat) (f0 : Bool) (am : Option Addr) (cm : Nat) (m : List Ob) (au : Option Addr) (cu : Nat) (us : List Up) (f : Bool) (w : World) (hg : Glob w) (ht : Tab w)
    (hs : HoldsS w aS s) (hsl : s.length ≤ 9223372036854775807) (hl : HoldsR w al l) (hll : l.length ≤ 9223372036854775807) (hm : HoldsS w am m) (hml : m.length ≤ 9223372036854775807) (hu : HoldsU w au us) (hul : us.length ≤ 9223372036854775807) (hv : voteE g m us = 0) (hz : tryE s l m us f = 0) (hlen : us.length = 2) :
    Calls Tryz.prog 6 #[replV aS s.length cs al l.length cl g ph a1 n1 c1 a2 n2 c2 f0, pushV am m.length cm au us.length cu f, .bool true] w fun e w' => e = .returned (.bool true) ∧ Below w.heap.size w w' := by
  have HV : Hid (voteE g m us = 0) := hv
  have HTr : Hid (tryE s l m us f = 0) := hz
  have HLn : Hid (us.length = 2) := hlen
  clear hv hlen hz
  have hB := below_alloc2 w (.cells #[.slice aS s.length cs, .slice al l.length cl, .int .i64 g, .int .i64 ph, .slice a1 n1 c1, .slice a2 n2 c2, .bool f0] 28) (.cells #[.slice am m.length cm, .slice au us.length cu, .bool f] 26)
  obtain ⟨hk1, hk2⟩ := two_blocks w (.cells #[.slice aS s.length cs, .slice al l.length cl, .int .i64 g, .int .i64 ph, .slice a1 n1 c1, .slice a2 n2 c2, .bool f0] 28) (.cells #[.slice am m.length cm, .slice au us.length cu, .bool f] 26)
  obtain ⟨y0, y1, y2⟩ := c3_of hk2
  obtain ⟨r0, r1, r2, r3, r4, r5, r6⟩ := c7_of hk1
  have hof := of_any aS cs s al cl l g ph a1 n1 c1 a2 n2 c2 f0 am cm m au cu us f _ (hg.below hB) (ht.below hB) (hs.below hB) hsl (hl.below hB) hll (hm.below hB) hml (hu.below hB) hul
  go_enter Tryz.func6, Tryz.ntmps6
  go_wp2_with fail
  refine hof.mono ?_
  clear hof
  rintro e w1 ⟨rfl, hb1⟩
  have hB1 := hB.trans (hb1.mono hB.size)
  have hk11 := (hb1.block _ (heap_lt hk1)).trans hk1
  have hk21 := (hb1.block _ (heap_lt hk2)).trans hk2
  clear hb1 hB hk1 hk2 y0 y1 y2 r0 r1 r2 r3 r4 r5 r6
  go_wp2_with fail
  refine (voteBegun_any w1 (hg.below hB1) (ht.below hB1)).mono ?_
  rintro e w2 ⟨rfl, hb2⟩
  have hB2 := hB1.trans (hb2.mono hB1.size)
  have hk12 := (hb2.block _ (heap_lt hk11)).trans hk11
  have hk22 := (hb2.block _ (heap_lt hk21)).trans hk21
  clear hb2 hB1 hk11 hk21
  go_wp2_with fail
  refine (pushBegun_any w2 (hg.below hB2)).mono ?_
  rintro e w3 ⟨rfl, hb3⟩
  have hB3 := hB2.trans (hb3.mono hB2.size)
  have hk13 := (hb3.block _ (heap_lt hk12)).trans hk12
  have hk23 := (hb3.block _ (heap_lt hk22)).trans hk22
  clear hb3 hB2 hk12 hk22
  rw [HV.out]
  have HP : Hid (pushE m us = 0 ∧ 0 ≤ g ∧ g ≤ 999) := voteE_iff.1 HV.out
  have hu4 : us.length ≤ 4 := (checkU_iff.1 (pushE_iff.1 HP.out.1).2.2).2.1
  have hu1 : 0 < us.length := (checkU_iff.1 (pushE_iff.1 HP.out.1).2.2).1
  obtain ⟨y0, y1, y2⟩ := c3_of hk23
  obtain ⟨r0, r1, r2, r3, r4, r5, r6⟩ := c7_of hk13
  have htr := try_any aS cs s al cl l g ph a1 n1 c1 a2 n2 c2 f0 am cm m au cu us f w3 (hg.below hB3) (hs.below hB3) hsl (hl.below hB3) hll (hm.below hB3) hml (hu.below hB3) hul
  -- the two ways
  obtain ⟨T, hT⟩ : ∃ T, T = voteS s l g m us f := ⟨_, rfl⟩
  rw [← hT]
  have HT : Hid (T = voteS s l g m us f) := hT
  clear hT
  go_wp2_with fail
  refine htr.mono ?_
  clear htr
  rintro e w4 ⟨hb4, hpost⟩
  have hB4 := hB3.trans (hb4.mono hB3.size)
  have hk14 := (hb4.block _ (heap_lt hk13)).trans hk13
  have hk24 := (hb4.block _ (heap_lt hk23)).trans hk23
  clear hb4 hB3 hk13 hk23 y0 y1 y2 r0 r1 r2 r3 r4 r5 r6
  obtain ⟨b, off, rfl, hbu, hcu⟩ := hu 0 hu1
  obtain ⟨a3, c3, a4, c4, rfl⟩ : ∃ a3 c3 a4 c4, e = .returned (.tuple #[.slice a3 (takeRes s m).length c3, .slice a4 (runL l us).length c4, .int .i64 0]) := by
    rcases hpost with ⟨q, _⟩ | ⟨_, a3, c3, a4, c4, q, _⟩
    · exact absurd HTr.out q
    · exact ⟨a3, c3, a4, c4, q⟩
  clear hpost
  have hz := HTr.out
  have HY : Hid (T = sYesB ++ (itoaS g ++ sBl ++ textS us)) := by unfold Hid; rw [HT.out]; exact vote_yes HV.out hz
  have hsz := yes_size T g (textS us) HY.out
  have hle : (4 : Int) < (T.size : Int) := by omega
  have hle2 : (4 : Int) ≤ (T.size : Int) := by omega
  have hpre := yes_pre T _ HY.out
  go_upto_region 9 with fail
  go_cut [12] from 50 to 58 (fun s12 wx => ∃ q gq cap cur, s12 = .pointer (some ⟨q, 0, none⟩) ∧ Qu w4 wx am m.length cm f us q gq cap cur)
  case first =>
    have hdr := (Below.refl w4.heap.size w4).drew
    have hS0 : w4.drew.cell? ⟨w.heap.size + 1, 0, none⟩ = some (.slice am m.length cm) ∧ w4.drew.cell? ⟨w.heap.size + 1, 1, none⟩ = some (.slice (some ⟨b, off, none⟩) us.length cu) ∧ w4.drew.cell? ⟨w.heap.size + 1, 2, none⟩ = some (.bool f) := c3_of hk24
    have hU0 : ∀ k (hk : k < us.length), UpAt w4.drew b (off + k * 3) us[k] := fun k hk => ⟨cell_keep (hB4.trans (hdr.mono hB4.size)) hbu (hcu k hk).1, cell_keep (hB4.trans (hdr.mono hB4.size)) hbu (hcu k hk).2.1, cell_keep (hB4.trans (hdr.mono hB4.size)) hbu (hcu k hk).2.2⟩
    have hbW : b < w4.drew.heap.size := Nat.lt_of_lt_of_le hbu (hB4.trans (hdr.mono hB4.size)).size
    have hpW : w.heap.size + 1 < w4.drew.heap.size := heap_lt hk24
    refine wp_region_E (fun W => W.cell? ⟨w.heap.size + 1, 0, none⟩ = some (.slice am m.length cm) ∧ W.cell? ⟨w.heap.size + 1, 1, none⟩ = some (.slice (some ⟨b, off, none⟩) us.length cu) ∧ W.cell? ⟨w.heap.size + 1, 2, none⟩ = some (.bool f)) (fun _ => false) (by kernel_rfl) hS0 (fun hS => ?_)
    generalize w4.drew = W0 at *
    refine wpAnyE.take (i := 0) (v := ?_) rfl (by kernel_rfl) (by kernel_rfl) (by kernel_rfl) (by kernel_rfl) (fun _ _ _ h => h) (Or.inl ⟨by rfl, ?_⟩) (by assumption) ?_
    rotate_left
    · intro w hSw; obtain ⟨z0, z1, z2⟩ := hSw; go_simp; with_reducible rfl
    try simp only [Act.put, List.getElem_toArray, List.getElem_cons_zero, List.setIfInBounds_toArray, List.set_cons_zero, List.set_cons_succ]
    refine wpAnyE.take (i := 1) (v := ?_) rfl (by kernel_rfl) (by kernel_rfl) (by kernel_rfl) (by kernel_rfl) (fun _ _ _ h => h) (Or.inl ⟨by rfl, ?_⟩) (by assumption) ?_
    rotate_left
    · intro w hSw; obtain ⟨z0, z1, z2⟩ := hSw; go_simp; with_reducible rfl
    try simp only [Act.put, List.getElem_toArray, List.getElem_cons_succ, List.getElem_cons_zero, List.setIfInBounds_toArray, List.set_cons_zero, List.set_cons_succ]
    refine wpAnyE.take (i := 3) (v := ?_) rfl (by kernel_rfl) (by kernel_rfl) (by kernel_rfl) (by kernel_rfl) (fun _ _ _ h => h) (Or.inl ⟨by rfl, ?_⟩) (by assumption) ?_
    rotate_left
    · intro w hSw; obtain ⟨z0, z1, z2⟩ := hSw; go_simp; with_reducible rfl
    try simp only [Act.put, List.getElem_toArray, List.getElem_cons_succ, List.getElem_cons_zero, List.setIfInBounds_toArray, List.set_cons_zero, List.set_cons_succ]
    refine wpAnyE.take (i := 4) (v := ?_) rfl (by kernel_rfl) (by kernel_rfl) (by kernel_rfl) (by kernel_rfl) (fun _ _ _ h => h) (Or.inl ⟨by rfl, ?_⟩) (by assumption) ?_
    rotate_left
    · intro w hSw; obtain ⟨z0, z1, z2⟩ := hSw; go_simp; with_reducible rfl
    try simp only [Act.put, List.getElem_toArray, List.getElem_cons_succ, List.getElem_cons_zero, List.setIfInBounds_toArray, List.set_cons_zero, List.set_cons_succ]
    refine wpAnyE.take (i := 6) (v := ?_) rfl (by kernel_rfl) (by kernel_rfl) (by kernel_rfl) (by kernel_rfl) (fun _ _ _ h => h) (Or.inl ⟨by rfl, ?_⟩) (by assumption) ?_
    rotate_left
    · intro w hSw; obtain ⟨z0, z1, z2⟩ := hSw; go_simp; with_reducible rfl
    try simp only [Act.put, List.getElem_toArray, List.getElem_cons_succ, List.getElem_cons_zero, List.setIfInBounds_toArray, List.set_cons_zero, List.set_cons_succ]
    refine wpAnyE.take (i := 7) (v := ?_) rfl (by kernel_rfl) (by kernel_rfl) (by kernel_rfl) (by kernel_rfl) (fun _ _ _ h => h) (Or.inl ⟨by rfl, ?_⟩) (by assumption) ?_
    rotate_left
    · intro w hSw; obtain ⟨z0, z1, z2⟩ := hSw; go_simp; with_reducible rfl
    try simp only [Act.put, List.getElem_toArray, List.getElem_cons_succ, List.getElem_cons_zero, List.setIfInBounds_toArray, List.set_cons_zero, List.set_cons_succ]
    refine wpAnyE.two (i := 2) (j := 9) (by kernel_rfl) rfl rfl (fun K hK => ?_) (fun K hK => ?_)
    · go_simp
      obtain ⟨W1, hW1⟩ : ∃ W1, W1 = W0.alloc (.cells #[] 45) := ⟨_, rfl⟩
      have hb1 : Below W0.heap.size W0 W1 := by rw [hW1]; exact below_alloc _ _
      have kW1 : W1.heap[W0.heap.size]? = some (.cells #[] 45) := by rw [hW1]; exact heap_alloc_new W0 _
      have sW1 : W0.heap.size < W1.heap.size := by rw [hW1]; simp
      rw [← hW1]
      clear hW1
      have hSn : W1.cell? ⟨w.heap.size + 1, 0, none⟩ = some (.slice am m.length cm) ∧ W1.cell? ⟨w.heap.size + 1, 1, none⟩ = some (.slice (some ⟨b, off, none⟩) us.length cu) ∧ W1.cell? ⟨w.heap.size + 1, 2, none⟩ = some (.bool f) := ⟨cell_keep hb1 (by omega) hS0.1, cell_keep hb1 (by omega) hS0.2.1, cell_keep hb1 (by omega) hS0.2.2⟩
      have hUn : ∀ k (hk : k < us.length), UpAt W1 b (off + k * 3) us[k] := fun k hk => ⟨cell_keep hb1 (by omega) (hU0 k hk).1, cell_keep hb1 (by omega) (hU0 k hk).2.1, cell_keep hb1 (by omega) (hU0 k hk).2.2⟩
      clear hS0 hU0
      have hS0 := hSn
      have hU0 := hUn
      clear hSn hUn
      refine hK _ _ (fun _ => hS0) ?_
      clear hK K
      try simp only [Act.put, List.getElem_toArray, List.getElem_cons_succ, List.getElem_cons_zero, List.setIfInBounds_toArray, List.set_cons_zero, List.set_cons_succ]
      refine wpAnyE.two (i := 5) (j := 9) (by kernel_rfl) rfl rfl (fun K hK => ?_) (fun K hK => ?_)
      · skip
        obtain ⟨gq, cap, cur, Wa, hra, hca, hga, hka, hta, hsa, hgr⟩ := app_ups W1 24 W0.heap.size b off cu us kW1 hU0 hu4 hu1
        refine step_append_t (by rfl) (.tmp 52) (.tmp 54) (by rfl) _ _ (by rfl) (by rfl) hra ?_
        have hba : Below W0.heap.size W1 Wa := ⟨hgr.os, hgr.tape, hgr.output, hgr.size, fun k hk => hgr.block k (by have := heap_lt kW1; omega) (fun e => by simp at e; omega)⟩
        have hSn : Wa.cell? ⟨w.heap.size + 1, 0, none⟩ = some (.slice am m.length cm) ∧ Wa.cell? ⟨w.heap.size + 1, 1, none⟩ = some (.slice (some ⟨b, off, none⟩) us.length cu) ∧ Wa.cell? ⟨w.heap.size + 1, 2, none⟩ = some (.bool f) := ⟨cell_keep hba (by omega) hS0.1, cell_keep hba (by omega) hS0.2.1, cell_keep hba (by omega) hS0.2.2⟩
        clear hS0 hU0
        have hS0 := hSn
        clear hSn hra
        refine hK _ _ (fun _ => hS0) ?_
        clear hK K
        try simp only [Act.put, List.getElem_toArray, List.getElem_cons_succ, List.getElem_cons_zero, List.setIfInBounds_toArray, List.set_cons_zero, List.set_cons_succ]
        refine wpAnyE.take (i := 8) (v := ?_) rfl (by kernel_rfl) (by kernel_rfl) (by kernel_rfl) (by kernel_rfl) (fun _ _ _ h => h) (Or.inl ⟨by rfl, ?_⟩) (by assumption) ?_
        rotate_left
        · intro w hSw; obtain ⟨z0, z1, z2⟩ := hSw; go_simp; with_reducible rfl
        try simp only [Act.put, List.getElem_toArray, List.getElem_cons_succ, List.getElem_cons_zero, List.setIfInBounds_toArray, List.set_cons_zero, List.set_cons_succ]
        refine wpAnyE.one (i := 9) (by kernel_rfl) rfl (fun K hK => ?_)
        go_simp
        obtain ⟨W3, hW3⟩ : ∃ W3, W3 = Wa.alloc (.cells #[.slice none 0 0, .slice none 0 0, .bool false] 26) := ⟨_, rfl⟩
        have hb3 : Below Wa.heap.size Wa W3 := by rw [hW3]; exact below_alloc _ _
        have kW3 : W3.heap[Wa.heap.size]? = some (.cells #[.slice none 0 0, .slice none 0 0, .bool false] 26) := by rw [hW3]; exact heap_alloc_new Wa _
        have sW3 : Wa.heap.size < W3.heap.size := by rw [hW3]; simp
        rw [← hW3]
        clear hW3
        have hSn : W3.cell? ⟨w.heap.size + 1, 0, none⟩ = some (.slice am m.length cm) ∧ W3.cell? ⟨w.heap.size + 1, 1, none⟩ = some (.slice (some ⟨b, off, none⟩) us.length cu) ∧ W3.cell? ⟨w.heap.size + 1, 2, none⟩ = some (.bool f) := ⟨cell_keep hb3 (by have := hgr.size; omega) hS0.1, cell_keep hb3 (by have := hgr.size; omega) hS0.2.1, cell_keep hb3 (by have := hgr.size; omega) hS0.2.2⟩
        clear hS0
        have hS0 := hSn
        clear hSn
        refine hK _ _ (fun _ => hS0) ?_
        clear hK K
        try simp only [Act.put, List.getElem_toArray, List.getElem_cons_succ, List.getElem_cons_zero, List.setIfInBounds_toArray, List.set_cons_zero, List.set_cons_succ]
        refine wpAnyE.one (i := 10) (by kernel_rfl) rfl (fun K hK => ?_)
        obtain ⟨cq0, cq1, cq2⟩ := c3_of kW3
        have fq0 := f_of (o := 0) kW3
        have fq1 := f_of (o := 1) kW3
        have fq2 := f_of (o := 2) kW3
        have hset := set3_block W3 Wa.heap.size (.slice am m.length cm) (.slice (some ⟨gq, 0, none⟩) us.length cap) (.bool f) kW3
        go_simp
        obtain ⟨Wf, hWf⟩ : ∃ Wf, Wf = (((W3.setCell ⟨Wa.heap.size, 0, none⟩ (.slice am m.length cm)).setCell ⟨Wa.heap.size, 1, none⟩ (.slice (some ⟨gq, 0, none⟩) us.length cap)).setCell ⟨Wa.heap.size, 2, none⟩ (.bool f)) := ⟨_, rfl⟩
        rw [← hWf] at hset ⊢
        have HQ : Qu w4 Wf am m.length cm f us Wa.heap.size gq cap cur := ⟨((hdr.trans (hb1.mono (by have := hdr.size; omega))).trans (hba.mono (by have := hdr.size; omega))).trans ((hb3.trans (hset.2.1.mono (by omega))).mono (by have := hdr.size; have := hgr.size; omega)), hset.1, (hset.2.2 _ (by have := heap_lt hka; omega)).trans ((hb3.block _ (heap_lt hka)).trans hka), hta, hsa, hca, by have := hdr.size; have := hgr.size; omega, by have := hdr.size; omega, by have := heap_lt hka; omega⟩
        have hSf : Wf.cell? ⟨w.heap.size + 1, 0, none⟩ = some (.slice am m.length cm) ∧ Wf.cell? ⟨w.heap.size + 1, 1, none⟩ = some (.slice (some ⟨b, off, none⟩) us.length cu) ∧ Wf.cell? ⟨w.heap.size + 1, 2, none⟩ = some (.bool f) := ⟨far_keep hset.2.2 (by have := hgr.size; omega) hS0.1, far_keep hset.2.2 (by have := hgr.size; omega) hS0.2.1, far_keep hset.2.2 (by have := hgr.size; omega) hS0.2.2⟩
        refine hK _ _ (fun _ => hSf) ?_
        clear hK K
        try simp only [Act.put, List.getElem_toArray, List.getElem_cons_succ, List.getElem_cons_zero, List.setIfInBounds_toArray, List.set_cons_zero, List.set_cons_succ]
        refine wpAnyE.done (by kernel_rfl) ?_
        go_wp2_with fail
        go_meet
        exact ⟨_, _, _, _, rfl, HQ⟩
      · go_simp
        obtain ⟨W2, hW2⟩ : ∃ W2, W2 = W1.alloc (.cells #[.slice none 0 0, .slice none 0 0, .bool false] 26) := ⟨_, rfl⟩
        have hb2 : Below W1.heap.size W1 W2 := by rw [hW2]; exact below_alloc _ _
        have kW2 : W2.heap[W1.heap.size]? = some (.cells #[.slice none 0 0, .slice none 0 0, .bool false] 26) := by rw [hW2]; exact heap_alloc_new W1 _
        have sW2 : W1.heap.size < W2.heap.size := by rw [hW2]; simp
        rw [← hW2]
        clear hW2
        have hSn : W2.cell? ⟨w.heap.size + 1, 0, none⟩ = some (.slice am m.length cm) ∧ W2.cell? ⟨w.heap.size + 1, 1, none⟩ = some (.slice (some ⟨b, off, none⟩) us.length cu) ∧ W2.cell? ⟨w.heap.size + 1, 2, none⟩ = some (.bool f) := ⟨cell_keep hb2 (by omega) hS0.1, cell_keep hb2 (by omega) hS0.2.1, cell_keep hb2 (by omega) hS0.2.2⟩
        have hUn : ∀ k (hk : k < us.length), UpAt W2 b (off + k * 3) us[k] := fun k hk => ⟨cell_keep hb2 (by omega) (hU0 k hk).1, cell_keep hb2 (by omega) (hU0 k hk).2.1, cell_keep hb2 (by omega) (hU0 k hk).2.2⟩
        clear hS0 hU0
        have hS0 := hSn
        have hU0 := hUn
        clear hSn hUn
        have kz := (hb2.block _ (heap_lt kW1)).trans kW1
        refine hK _ _ (fun _ => hS0) ?_
        clear hK K
        try simp only [Act.put, List.getElem_toArray, List.getElem_cons_succ, List.getElem_cons_zero, List.setIfInBounds_toArray, List.set_cons_zero, List.set_cons_succ]
        refine wpAnyE.one (i := 5) (by kernel_rfl) rfl (fun K hK => ?_)
        obtain ⟨gq, cap, cur, Wa, hra, hca, hga, hka, hta, hsa, hgr⟩ := app_ups W2 24 W0.heap.size b off cu us kz hU0 hu4 hu1
        refine step_append_t (by rfl) (.tmp 52) (.tmp 54) (by rfl) _ _ (by rfl) (by rfl) hra ?_
        have hba : Below W0.heap.size W2 Wa := ⟨hgr.os, hgr.tape, hgr.output, hgr.size, fun k hk => hgr.block k (by have := heap_lt kz; omega) (fun e => by simp at e; omega)⟩
        have hSn : Wa.cell? ⟨w.heap.size + 1, 0, none⟩ = some (.slice am m.length cm) ∧ Wa.cell? ⟨w.heap.size + 1, 1, none⟩ = some (.slice (some ⟨b, off, none⟩) us.length cu) ∧ Wa.cell? ⟨w.heap.size + 1, 2, none⟩ = some (.bool f) := ⟨cell_keep hba (by omega) hS0.1, cell_keep hba (by omega) hS0.2.1, cell_keep hba (by omega) hS0.2.2⟩
        clear hS0 hU0
        have hS0 := hSn
        clear hSn hra
        have kq := (hgr.block W1.heap.size (heap_lt kW2) (fun e => by simp at e; omega)).trans kW2
        refine hK _ _ (fun _ => hS0) ?_
        clear hK K
        try simp only [Act.put, List.getElem_toArray, List.getElem_cons_succ, List.getElem_cons_zero, List.setIfInBounds_toArray, List.set_cons_zero, List.set_cons_succ]
        refine wpAnyE.take (i := 8) (v := ?_) rfl (by kernel_rfl) (by kernel_rfl) (by kernel_rfl) (by kernel_rfl) (fun _ _ _ h => h) (Or.inl ⟨by rfl, ?_⟩) (by assumption) ?_
        rotate_left
        · intro w hSw; obtain ⟨z0, z1, z2⟩ := hSw; go_simp; with_reducible rfl
        try simp only [Act.put, List.getElem_toArray, List.getElem_cons_succ, List.getElem_cons_zero, List.setIfInBounds_toArray, List.set_cons_zero, List.set_cons_succ]
        refine wpAnyE.one (i := 10) (by kernel_rfl) rfl (fun K hK => ?_)
        obtain ⟨cq0, cq1, cq2⟩ := c3_of kq
        have fq0 := f_of (o := 0) kq
        have fq1 := f_of (o := 1) kq
        have fq2 := f_of (o := 2) kq
        have hset := set3_block Wa W1.heap.size (.slice am m.length cm) (.slice (some ⟨gq, 0, none⟩) us.length cap) (.bool f) kq
        go_simp
        obtain ⟨Wf, hWf⟩ : ∃ Wf, Wf = (((Wa.setCell ⟨W1.heap.size, 0, none⟩ (.slice am m.length cm)).setCell ⟨W1.heap.size, 1, none⟩ (.slice (some ⟨gq, 0, none⟩) us.length cap)).setCell ⟨W1.heap.size, 2, none⟩ (.bool f)) := ⟨_, rfl⟩
        rw [← hWf] at hset ⊢
        have HQ : Qu w4 Wf am m.length cm f us W1.heap.size gq cap cur := ⟨(((hdr.trans (hb1.mono (by have := hdr.size; omega))).trans (hb2.mono (by have := hdr.size; omega))).trans (hba.mono (by have := hdr.size; omega))).trans (hset.2.1.mono (by have := hdr.size; omega)), hset.1, (hset.2.2 _ (by omega)).trans hka, hta, hsa, hca, by have := hdr.size; omega, by have := hdr.size; omega, by omega⟩
        have hSf : Wf.cell? ⟨w.heap.size + 1, 0, none⟩ = some (.slice am m.length cm) ∧ Wf.cell? ⟨w.heap.size + 1, 1, none⟩ = some (.slice (some ⟨b, off, none⟩) us.length cu) ∧ Wf.cell? ⟨w.heap.size + 1, 2, none⟩ = some (.bool f) := ⟨far_keep hset.2.2 (by have := hgr.size; omega) hS0.1, far_keep hset.2.2 (by have := hgr.size; omega) hS0.2.1, far_keep hset.2.2 (by have := hgr.size; omega) hS0.2.2⟩
        refine hK _ _ (fun _ => hSf) ?_
        clear hK K
        try simp only [Act.put, List.getElem_toArray, List.getElem_cons_succ, List.getElem_cons_zero, List.setIfInBounds_toArray, List.set_cons_zero, List.set_cons_succ]
        refine wpAnyE.done (by kernel_rfl) ?_
        go_wp2_with fail
        go_meet
        exact ⟨_, _, _, _, rfl, HQ⟩
    · go_simp
      obtain ⟨W1, hW1⟩ : ∃ W1, W1 = W0.alloc (.cells #[.slice none 0 0, .slice none 0 0, .bool false] 26) := ⟨_, rfl⟩
      have hb1 : Below W0.heap.size W0 W1 := by rw [hW1]; exact below_alloc _ _
      have kW1 : W1.heap[W0.heap.size]? = some (.cells #[.slice none 0 0, .slice none 0 0, .bool false] 26) := by rw [hW1]; exact heap_alloc_new W0 _
      have sW1 : W0.heap.size < W1.heap.size := by rw [hW1]; simp
      rw [← hW1]
      clear hW1
      have hSn : W1.cell? ⟨w.heap.size + 1, 0, none⟩ = some (.slice am m.length cm) ∧ W1.cell? ⟨w.heap.size + 1, 1, none⟩ = some (.slice (some ⟨b, off, none⟩) us.length cu) ∧ W1.cell? ⟨w.heap.size + 1, 2, none⟩ = some (.bool f) := ⟨cell_keep hb1 (by omega) hS0.1, cell_keep hb1 (by omega) hS0.2.1, cell_keep hb1 (by omega) hS0.2.2⟩
      have hUn : ∀ k (hk : k < us.length), UpAt W1 b (off + k * 3) us[k] := fun k hk => ⟨cell_keep hb1 (by omega) (hU0 k hk).1, cell_keep hb1 (by omega) (hU0 k hk).2.1, cell_keep hb1 (by omega) (hU0 k hk).2.2⟩
      clear hS0 hU0
      have hS0 := hSn
      have hU0 := hUn
      clear hSn hUn
      refine hK _ _ (fun _ => hS0) ?_
      clear hK K
      try simp only [Act.put, List.getElem_toArray, List.getElem_cons_succ, List.getElem_cons_zero, List.setIfInBounds_toArray, List.set_cons_zero, List.set_cons_succ]
      refine wpAnyE.one (i := 2) (by kernel_rfl) rfl (fun K hK => ?_)
      go_simp
      obtain ⟨W2, hW2⟩ : ∃ W2, W2 = W1.alloc (.cells #[] 45) := ⟨_, rfl⟩
      have hb2 : Below W1.heap.size W1 W2 := by rw [hW2]; exact below_alloc _ _
      have kW2 : W2.heap[W1.heap.size]? = some (.cells #[] 45) := by rw [hW2]; exact heap_alloc_new W1 _
      have sW2 : W1.heap.size < W2.heap.size := by rw [hW2]; simp
      rw [← hW2]
      clear hW2
      have hSn : W2.cell? ⟨w.heap.size + 1, 0, none⟩ = some (.slice am m.length cm) ∧ W2.cell? ⟨w.heap.size + 1, 1, none⟩ = some (.slice (some ⟨b, off, none⟩) us.length cu) ∧ W2.cell? ⟨w.heap.size + 1, 2, none⟩ = some (.bool f) := ⟨cell_keep hb2 (by omega) hS0.1, cell_keep hb2 (by omega) hS0.2.1, cell_keep hb2 (by omega) hS0.2.2⟩
      have hUn : ∀ k (hk : k < us.length), UpAt W2 b (off + k * 3) us[k] := fun k hk => ⟨cell_keep hb2 (by omega) (hU0 k hk).1, cell_keep hb2 (by omega) (hU0 k hk).2.1, cell_keep hb2 (by omega) (hU0 k hk).2.2⟩
      clear hS0 hU0
      have hS0 := hSn
      have hU0 := hUn
      clear hSn hUn
      have kz := (hb2.block _ (heap_lt kW1)).trans kW1
      refine hK _ _ (fun _ => hS0) ?_
      clear hK K
      try simp only [Act.put, List.getElem_toArray, List.getElem_cons_succ, List.getElem_cons_zero, List.setIfInBounds_toArray, List.set_cons_zero, List.set_cons_succ]
      refine wpAnyE.one (i := 5) (by kernel_rfl) rfl (fun K hK => ?_)
      obtain ⟨gq, cap, cur, Wa, hra, hca, hga, hka, hta, hsa, hgr⟩ := app_ups W2 24 W1.heap.size b off cu us kW2 hU0 hu4 hu1
      refine step_append_t (by rfl) (.tmp 52) (.tmp 54) (by rfl) _ _ (by rfl) (by rfl) hra ?_
      have hba : Below W1.heap.size W2 Wa := ⟨hgr.os, hgr.tape, hgr.output, hgr.size, fun k hk => hgr.block k (by have := heap_lt kW2; omega) (fun e => by simp at e; omega)⟩
      have hSn : Wa.cell? ⟨w.heap.size + 1, 0, none⟩ = some (.slice am m.length cm) ∧ Wa.cell? ⟨w.heap.size + 1, 1, none⟩ = some (.slice (some ⟨b, off, none⟩) us.length cu) ∧ Wa.cell? ⟨w.heap.size + 1, 2, none⟩ = some (.bool f) := ⟨cell_keep hba (by omega) hS0.1, cell_keep hba (by omega) hS0.2.1, cell_keep hba (by omega) hS0.2.2⟩
      clear hS0 hU0
      have hS0 := hSn
      clear hSn hra
      have kq := (hgr.block W0.heap.size (heap_lt kz) (fun e => by simp at e; omega)).trans kz
      refine hK _ _ (fun _ => hS0) ?_
      clear hK K
      try simp only [Act.put, List.getElem_toArray, List.getElem_cons_succ, List.getElem_cons_zero, List.setIfInBounds_toArray, List.set_cons_zero, List.set_cons_succ]
      refine wpAnyE.take (i := 8) (v := ?_) rfl (by kernel_rfl) (by kernel_rfl) (by kernel_rfl) (by kernel_rfl) (fun _ _ _ h => h) (Or.inl ⟨by rfl, ?_⟩) (by assumption) ?_
      rotate_left
      · intro w hSw; obtain ⟨z0, z1, z2⟩ := hSw; go_simp; with_reducible rfl
      try simp only [Act.put, List.getElem_toArray, List.getElem_cons_succ, List.getElem_cons_zero, List.setIfInBounds_toArray, List.set_cons_zero, List.set_cons_succ]
      refine wpAnyE.one (i := 10) (by kernel_rfl) rfl (fun K hK => ?_)
      obtain ⟨cq0, cq1, cq2⟩ := c3_of kq
      have fq0 := f_of (o := 0) kq
      have fq1 := f_of (o := 1) kq
      have fq2 := f_of (o := 2) kq
      have hset := set3_block Wa W0.heap.size (.slice am m.length cm) (.slice (some ⟨gq, 0, none⟩) us.length cap) (.bool f) kq
      go_simp
      obtain ⟨Wf, hWf⟩ : ∃ Wf, Wf = (((Wa.setCell ⟨W0.heap.size, 0, none⟩ (.slice am m.length cm)).setCell ⟨W0.heap.size, 1, none⟩ (.slice (some ⟨gq, 0, none⟩) us.length cap)).setCell ⟨W0.heap.size, 2, none⟩ (.bool f)) := ⟨_, rfl⟩
      rw [← hWf] at hset ⊢
      have HQ : Qu w4 Wf am m.length cm f us W0.heap.size gq cap cur := ⟨(((hdr.trans (hb1.mono (by have := hdr.size; omega))).trans (hb2.mono (by have := hdr.size; omega))).trans (hba.mono (by have := hdr.size; omega))).trans (hset.2.1.mono (by have := hdr.size; omega)), hset.1, (hset.2.2 _ (by omega)).trans hka, hta, hsa, hca, by have := hdr.size; omega, by have := hdr.size; omega, by omega⟩
      have hSf : Wf.cell? ⟨w.heap.size + 1, 0, none⟩ = some (.slice am m.length cm) ∧ Wf.cell? ⟨w.heap.size + 1, 1, none⟩ = some (.slice (some ⟨b, off, none⟩) us.length cu) ∧ Wf.cell? ⟨w.heap.size + 1, 2, none⟩ = some (.bool f) := ⟨far_keep hset.2.2 (by have := hgr.size; omega) hS0.1, far_keep hset.2.2 (by have := hgr.size; omega) hS0.2.1, far_keep hset.2.2 (by have := hgr.size; omega) hS0.2.2⟩
      refine hK _ _ (fun _ => hSf) ?_
      clear hK K
      try simp only [Act.put, List.getElem_toArray, List.getElem_cons_succ, List.getElem_cons_zero, List.setIfInBounds_toArray, List.set_cons_zero, List.set_cons_succ]
      refine wpAnyE.done (by kernel_rfl) ?_
      go_wp2_with fail
      go_meet
      exact ⟨_, _, _, _, rfl, HQ⟩
  case rest =>
    obtain ⟨q, gq, cap, cur, rfl, Q⟩ := hcut
    have hBc := hB4.trans (Q.hb.mono hB4.size)
    have hk1c := (Q.hb.block _ (heap_lt hk14)).trans hk14
    have hqw : w.heap.size < q := Nat.lt_of_lt_of_le (heap_lt hk14) Q.q1
    have hgw : w.heap.size < gq := Nat.lt_of_lt_of_le (heap_lt hk14) Q.g1
    have HCall : Hid (∀ (vs : List Up) (W : World), vs.Perm us → Below w.heap.size w W → HoldsU W (some ⟨gq, 0, none⟩) vs → Calls Tryz.prog 19 #[replV aS s.length cs al l.length cl g ph a1 n1 c1 a2 n2 c2 f0, pushV am m.length cm (some ⟨gq, 0, none⟩) us.length cap f] W fun e w' => e = .returned (.tuple #[.string (voteS s l g m vs f), .int .i64 0]) ∧ Below W.heap.size W w') := fun vs W hp hb hv => by
      have h := of_any aS cs s al cl l g ph a1 n1 c1 a2 n2 c2 f0 am cm m (some ⟨gq, 0, none⟩) cap vs f W (hg.below hb) (ht.below hb) (hs.below hb) hsl (hl.below hb) hll (hm.below hb) hml hv (by rw [hp.length_eq]; exact hul)
      rw [voteE_iff.2 ⟨push_perm hp HP.out.1, HP.out.2⟩, hp.length_eq] at h
      exact h
    have HSame : Hid (∀ vs : List Up, vs.Perm us → voteS s l g m vs f = T) := fun vs hp => by
      rw [HY.out, vote_yes (voteE_iff.2 ⟨push_perm hp HP.out.1, HP.out.2⟩) (try_perm hp hz), text_perm hp (pushE_iff.1 HP.out.1).2.2]
    have qt : (T.toList == T.toList) = true := by simp
    have hUc := holdsU_cur Q.hu Q.ht
    have hkq := Q.hq
    have hku := Q.hu
    obtain ⟨rr, hcur⟩ := cur_of Q.ht
    have hgq := Q.ne
    have hcap := Q.hc
    clear Q hk14 hk24 hB4 hs hl hm hcu hu HT HV HP HY hpre hsz hle hle2 hg ht
    obtain ⟨ua, ub, rfl⟩ : ∃ ua ub, us = [ua, ub] := by
      match us, HLn.out with
      | [ua, ub], _ => exact ⟨ua, ub, rfl⟩
    obtain ⟨q0, q1, q2⟩ := c3_of hkq
    simp only [List.length_cons, List.length_nil, Nat.zero_add, Nat.reduceAdd] at *
    have hcu0 := fun j (hj : j < 2) => hcell3 hku hcur j hj
    obtain ⟨e0, e1, e2⟩ := hcu0 0 (by omega)
    obtain ⟨g0, g1, g2⟩ := hcu0 1 (by omega)
    simp only [Nat.zero_add, Nat.zero_mul, Nat.reduceMul, Nat.reduceAdd, List.getElem_cons_zero, List.getElem_cons_succ] at e0 e1 e2 g0 g1 g2
    have fr0 := f_of (o := 0) hku
    have fr1 := f_of (o := 1) hku
    have fr2 := f_of (o := 2) hku
    have fr3 := f_of (o := 3) hku
    have fr4 := f_of (o := 4) hku
    have fr5 := f_of (o := 5) hku
    obtain ⟨kg, hB6, hoth⟩ := six_block wc gq 3 4 5 cur (.string ub.name) (.int .i64 ub.old) (.int .i64 ub.new) (.string ua.name) (.int .i64 ua.old) (.int .i64 ua.new) hku
    have hUs : HoldsU (((((((wc.setCell ⟨gq, 0, none⟩ (.string ub.name)).setCell ⟨gq, 1, none⟩ (.int .i64 ub.old)).setCell ⟨gq, 2, none⟩ (.int .i64 ub.new)).setCell ⟨gq, 3, none⟩ (.string ua.name)).setCell ⟨gq, 4, none⟩ (.int .i64 ua.old)).setCell ⟨gq, 5, none⟩ (.int .i64 ua.new)).drew) (some ⟨gq, 0, none⟩) [ub, ua] := (holdsU_cur (w := ((((((wc.setCell ⟨gq, 0, none⟩ (.string ub.name)).setCell ⟨gq, 1, none⟩ (.int .i64 ub.old)).setCell ⟨gq, 2, none⟩ (.int .i64 ub.new)).setCell ⟨gq, 3, none⟩ (.string ua.name)).setCell ⟨gq, 4, none⟩ (.int .i64 ua.old)).setCell ⟨gq, 5, none⟩ (.int .i64 ua.new))) kg (by rw [hcur]; exact swap_row2 ua ub rr)).below ((Below.refl _ _).drew)
    have hBs : Below w.heap.size w (((((((wc.setCell ⟨gq, 0, none⟩ (.string ub.name)).setCell ⟨gq, 1, none⟩ (.int .i64 ub.old)).setCell ⟨gq, 2, none⟩ (.int .i64 ub.new)).setCell ⟨gq, 3, none⟩ (.string ua.name)).setCell ⟨gq, 4, none⟩ (.int .i64 ua.old)).setCell ⟨gq, 5, none⟩ (.int .i64 ua.new)).drew) := hBc.trans ((hB6.mono (Nat.le_of_lt hgw)).trans ((Below.refl _ _).drew))
    have hkq5 := (hoth q (Ne.symm hgq)).trans hkq
    have hkqs := (((Below.refl ((((((wc.setCell ⟨gq, 0, none⟩ (.string ub.name)).setCell ⟨gq, 1, none⟩ (.int .i64 ub.old)).setCell ⟨gq, 2, none⟩ (.int .i64 ub.new)).setCell ⟨gq, 3, none⟩ (.string ua.name)).setCell ⟨gq, 4, none⟩ (.int .i64 ua.old)).setCell ⟨gq, 5, none⟩ (.int .i64 ua.new)).heap.size ((((((wc.setCell ⟨gq, 0, none⟩ (.string ub.name)).setCell ⟨gq, 1, none⟩ (.int .i64 ub.old)).setCell ⟨gq, 2, none⟩ (.int .i64 ub.new)).setCell ⟨gq, 3, none⟩ (.string ua.name)).setCell ⟨gq, 4, none⟩ (.int .i64 ua.old)).setCell ⟨gq, 5, none⟩ (.int .i64 ua.new))).drew).block q (heap_lt hkq5)).trans hkq5
    have hk15 := (hoth w.heap.size (by omega)).trans hk1c
    have hk1s := (((Below.refl ((((((wc.setCell ⟨gq, 0, none⟩ (.string ub.name)).setCell ⟨gq, 1, none⟩ (.int .i64 ub.old)).setCell ⟨gq, 2, none⟩ (.int .i64 ub.new)).setCell ⟨gq, 3, none⟩ (.string ua.name)).setCell ⟨gq, 4, none⟩ (.int .i64 ua.old)).setCell ⟨gq, 5, none⟩ (.int .i64 ua.new)).heap.size ((((((wc.setCell ⟨gq, 0, none⟩ (.string ub.name)).setCell ⟨gq, 1, none⟩ (.int .i64 ub.old)).setCell ⟨gq, 2, none⟩ (.int .i64 ub.new)).setCell ⟨gq, 3, none⟩ (.string ua.name)).setCell ⟨gq, 4, none⟩ (.int .i64 ua.old)).setCell ⟨gq, 5, none⟩ (.int .i64 ua.new))).drew).block w.heap.size (heap_lt hk15)).trans hk15
    have HP2 : Hid (([ub, ua] : List Up).Perm [ua, ub]) := swapE_perm [ua, ub]
    have HBun : Hid (_ ∧ _ ∧ _ ∧ _) := ⟨hUs, hBs, hkqs, hk1s⟩
    clear hUs hBs hkqs hk1s hkq5 hk15 hoth hB6 kg hcur hcu0 hkq hku hk1c hBc hUc
    go_upto_region 12 with fail
    go_region
    obtain ⟨hUs, hBs, hkqs, hk1s⟩ := HBun.out
    clear HBun
    generalize ((((((wc.setCell ⟨gq, 0, none⟩ (.string ub.name)).setCell ⟨gq, 1, none⟩ (.int .i64 ub.old)).setCell ⟨gq, 2, none⟩ (.int .i64 ub.new)).setCell ⟨gq, 3, none⟩ (.string ua.name)).setCell ⟨gq, 4, none⟩ (.int .i64 ua.old)).setCell ⟨gq, 5, none⟩ (.int .i64 ua.new)).drew = Ws at *
    clear q0 q1 q2 e0 e1 e2 g0 g1 g2 fr0 fr1 fr2 fr3 fr4 fr5
    have hcl := HCall.out [ub, ua] Ws HP2.out hBs hUs
    skip
    obtain ⟨q0, q1, q2⟩ := c3_of hkqs
    obtain ⟨r0, r1, r2, r3, r4, r5, r6⟩ := c7_of hk1s
    go_wp2_with fail
    refine hcl.mono ?_
    clear hcl
    rintro e w6 ⟨rfl, hb6⟩
    have hB7 := hBs.trans (hb6.mono hBs.size)
    rw [HSame.out [ub, ua] HP2.out]
    clear hb6 q0 q1 q2 r0 r1 r2 r3 r4 r5 r6
    go_wp2
    go_ret
    exact ⟨rfl, hB7⟩
end

section
open Go.RowKit
set_option maxRecDepth 100000

set_option maxHeartbeats 60000000 in
theorem voteSame_yes3 (aS : Option Addr) (cs : Nat) (s : List Ob) (al : Option Addr) (cl : Nat) (l : List Rf) (g ph : Int) (a1 : Option Addr) (n1 c1 : Nat) (a2 : Option Addr) (n2 c2 : Nat) (f0 : Bool) (am : Option Addr) (cm : Nat) (m : List Ob) (au : Option Addr) (cu : Nat) (us : List Up) (f : Bool) (w : World) (hg : Glob w) (ht : Tab w)
    (hs : HoldsS w aS s) (hsl : s.length ≤ 9223372036854775807) (hl : HoldsR w al l) (hll : l.length ≤ 9223372036854775807) (hm : HoldsS w am m) (hml : m.length ≤ 9223372036854775807) (hu : HoldsU w au us) (hul : us.length ≤ 9223372036854775807) (hv : voteE g m us = 0) (hz : tryE s l m us f = 0) (hlen : us.length = 3) :
    Calls Tryz.prog 6 #[replV aS s.length cs al l.length cl g ph a1 n1 c1 a2 n2 c2 f0, pushV am m.length cm au us.length cu f, .bool true] w fun e w' => e = .returned (.bool true) ∧ Below w.heap.size w w' := by
  have HV : Hid (voteE g m us = 0) := hv
  have HTr : Hid (tryE s l m us f = 0) := hz
  have HLn : Hid (us.length = 3) := hlen
  clear hv hlen hz
  have hB := below_alloc2 w (.cells #[.slice aS s.length cs, .slice al l.length cl, .int .i64 g, .int .i64 ph, .slice a1 n1 c1, .slice a2 n2 c2, .bool f0] 28) (.cells #[.slice am m.length cm, .slice au us.length cu, .bool f] 26)
  obtain ⟨hk1, hk2⟩ := two_blocks w (.cells #[.slice aS s.length cs, .slice al l.length cl, .int .i64 g, .int .i64 ph, .slice a1 n1 c1, .slice a2 n2 c2, .bool f0] 28) (.cells #[.slice am m.length cm, .slice au us.length cu, .bool f] 26)
  obtain ⟨y0, y1, y2⟩ := c3_of hk2
  obtain ⟨r0, r1, r2, r3, r4, r5, r6⟩ := c7_of hk1
  have hof := of_any aS cs s al cl l g ph a1 n1 c1 a2 n2 c2 f0 am cm m au cu us f _ (hg.below hB) (ht.below hB) (hs.below hB) hsl (hl.below hB) hll (hm.below hB) hml (hu.below hB) hul
  go_enter Tryz.func6, Tryz.ntmps6
  go_wp2_with fail
  refine hof.mono ?_
  clear hof
  rintro e w1 ⟨rfl, hb1⟩
  have hB1 := hB.trans (hb1.mono hB.size)
  have hk11 := (hb1.block _ (heap_lt hk1)).trans hk1
  have hk21 := (hb1.block _ (heap_lt hk2)).trans hk2
  clear hb1 hB hk1 hk2 y0 y1 y2 r0 r1 r2 r3 r4 r5 r6
  go_wp2_with fail
  refine (voteBegun_any w1 (hg.below hB1) (ht.below hB1)).mono ?_
  rintro e w2 ⟨rfl, hb2⟩
  have hB2 := hB1.trans (hb2.mono hB1.size)
  have hk12 := (hb2.block _ (heap_lt hk11)).trans hk11
  have hk22 := (hb2.block _ (heap_lt hk21)).trans hk21
  clear hb2 hB1 hk11 hk21
  go_wp2_with fail
  refine (pushBegun_any w2 (hg.below hB2)).mono ?_
  rintro e w3 ⟨rfl, hb3⟩
  have hB3 := hB2.trans (hb3.mono hB2.size)
  have hk13 := (hb3.block _ (heap_lt hk12)).trans hk12
  have hk23 := (hb3.block _ (heap_lt hk22)).trans hk22
  clear hb3 hB2 hk12 hk22
  rw [HV.out]
  have HP : Hid (pushE m us = 0 ∧ 0 ≤ g ∧ g ≤ 999) := voteE_iff.1 HV.out
  have hu4 : us.length ≤ 4 := (checkU_iff.1 (pushE_iff.1 HP.out.1).2.2).2.1
  have hu1 : 0 < us.length := (checkU_iff.1 (pushE_iff.1 HP.out.1).2.2).1
  obtain ⟨y0, y1, y2⟩ := c3_of hk23
  obtain ⟨r0, r1, r2, r3, r4, r5, r6⟩ := c7_of hk13
  have htr := try_any aS cs s al cl l g ph a1 n1 c1 a2 n2 c2 f0 am cm m au cu us f w3 (hg.below hB3) (hs.below hB3) hsl (hl.below hB3) hll (hm.below hB3) hml (hu.below hB3) hul
  -- the two ways
  obtain ⟨T, hT⟩ : ∃ T, T = voteS s l g m us f := ⟨_, rfl⟩
  rw [← hT]
  have HT : Hid (T = voteS s l g m us f) := hT
  clear hT
  go_wp2_with fail
  refine htr.mono ?_
  clear htr
  rintro e w4 ⟨hb4, hpost⟩
  have hB4 := hB3.trans (hb4.mono hB3.size)
  have hk14 := (hb4.block _ (heap_lt hk13)).trans hk13
  have hk24 := (hb4.block _ (heap_lt hk23)).trans hk23
  clear hb4 hB3 hk13 hk23 y0 y1 y2 r0 r1 r2 r3 r4 r5 r6
  obtain ⟨b, off, rfl, hbu, hcu⟩ := hu 0 hu1
  obtain ⟨a3, c3, a4, c4, rfl⟩ : ∃ a3 c3 a4 c4, e = .returned (.tuple #[.slice a3 (takeRes s m).length c3, .slice a4 (runL l us).length c4, .int .i64 0]) := by
    rcases hpost with ⟨q, _⟩ | ⟨_, a3, c3, a4, c4, q, _⟩
    · exact absurd HTr.out q
    · exact ⟨a3, c3, a4, c4, q⟩
  clear hpost
  have hz := HTr.out
  have HY : Hid (T = sYesB ++ (itoaS g ++ sBl ++ textS us)) := by unfold Hid; rw [HT.out]; exact vote_yes HV.out hz
  have hsz := yes_size T g (textS us) HY.out
  have hle : (4 : Int) < (T.size : Int) := by omega
  have hle2 : (4 : Int) ≤ (T.size : Int) := by omega
  have hpre := yes_pre T _ HY.out
  go_upto_region 9 with fail
  go_cut [12] from 50 to 58 (fun s12 wx => ∃ q gq cap cur, s12 = .pointer (some ⟨q, 0, none⟩) ∧ Qu w4 wx am m.length cm f us q gq cap cur)
  case first =>
    have hdr := (Below.refl w4.heap.size w4).drew
    have hS0 : w4.drew.cell? ⟨w.heap.size + 1, 0, none⟩ = some (.slice am m.length cm) ∧ w4.drew.cell? ⟨w.heap.size + 1, 1, none⟩ = some (.slice (some ⟨b, off, none⟩) us.length cu) ∧ w4.drew.cell? ⟨w.heap.size + 1, 2, none⟩ = some (.bool f) := c3_of hk24
    have hU0 : ∀ k (hk : k < us.length), UpAt w4.drew b (off + k * 3) us[k] := fun k hk => ⟨cell_keep (hB4.trans (hdr.mono hB4.size)) hbu (hcu k hk).1, cell_keep (hB4.trans (hdr.mono hB4.size)) hbu (hcu k hk).2.1, cell_keep (hB4.trans (hdr.mono hB4.size)) hbu (hcu k hk).2.2⟩
    have hbW : b < w4.drew.heap.size := Nat.lt_of_lt_of_le hbu (hB4.trans (hdr.mono hB4.size)).size
    have hpW : w.heap.size + 1 < w4.drew.heap.size := heap_lt hk24
    refine wp_region_E (fun W => W.cell? ⟨w.heap.size + 1, 0, none⟩ = some (.slice am m.length cm) ∧ W.cell? ⟨w.heap.size + 1, 1, none⟩ = some (.slice (some ⟨b, off, none⟩) us.length cu) ∧ W.cell? ⟨w.heap.size + 1, 2, none⟩ = some (.bool f)) (fun _ => false) (by kernel_rfl) hS0 (fun hS => ?_)
    generalize w4.drew = W0 at *
    refine wpAnyE.take (i := 0) (v := ?_) rfl (by kernel_rfl) (by kernel_rfl) (by kernel_rfl) (by kernel_rfl) (fun _ _ _ h => h) (Or.inl ⟨by rfl, ?_⟩) (by assumption) ?_
    rotate_left
    · intro w hSw; obtain ⟨z0, z1, z2⟩ := hSw; go_simp; with_reducible rfl
    try simp only [Act.put, List.getElem_toArray, List.getElem_cons_zero, List.setIfInBounds_toArray, List.set_cons_zero, List.set_cons_succ]
    refine wpAnyE.take (i := 1) (v := ?_) rfl (by kernel_rfl) (by kernel_rfl) (by kernel_rfl) (by kernel_rfl) (fun _ _ _ h => h) (Or.inl ⟨by rfl, ?_⟩) (by assumption) ?_
    rotate_left
    · intro w hSw; obtain ⟨z0, z1, z2⟩ := hSw; go_simp; with_reducible rfl
    try simp only [Act.put, List.getElem_toArray, List.getElem_cons_succ, List.getElem_cons_zero, List.setIfInBounds_toArray, List.set_cons_zero, List.set_cons_succ]
    refine wpAnyE.take (i := 3) (v := ?_) rfl (by kernel_rfl) (by kernel_rfl) (by kernel_rfl) (by kernel_rfl) (fun _ _ _ h => h) (Or.inl ⟨by rfl, ?_⟩) (by assumption) ?_
    rotate_left
    · intro w hSw; obtain ⟨z0, z1, z2⟩ := hSw; go_simp; with_reducible rfl
    try simp only [Act.put, List.getElem_toArray, List.getElem_cons_succ, List.getElem_cons_zero, List.setIfInBounds_toArray, List.set_cons_zero, List.set_cons_succ]
    refine wpAnyE.take (i := 4) (v := ?_) rfl (by kernel_rfl) (by kernel_rfl) (by kernel_rfl) (by kernel_rfl) (fun _ _ _ h => h) (Or.inl ⟨by rfl, ?_⟩) (by assumption) ?_
    rotate_left
    · intro w hSw; obtain ⟨z0, z1, z2⟩ := hSw; go_simp; with_reducible rfl
    try simp only [Act.put, List.getElem_toArray, List.getElem_cons_succ, List.getElem_cons_zero, List.setIfInBounds_toArray, List.set_cons_zero, List.set_cons_succ]
    refine wpAnyE.take (i := 6) (v := ?_) rfl (by kernel_rfl) (by kernel_rfl) (by kernel_rfl) (by kernel_rfl) (fun _ _ _ h => h) (Or.inl ⟨by rfl, ?_⟩) (by assumption) ?_
    rotate_left
    · intro w hSw; obtain ⟨z0, z1, z2⟩ := hSw; go_simp; with_reducible rfl
    try simp only [Act.put, List.getElem_toArray, List.getElem_cons_succ, List.getElem_cons_zero, List.setIfInBounds_toArray, List.set_cons_zero, List.set_cons_succ]
    refine wpAnyE.take (i := 7) (v := ?_) rfl (by kernel_rfl) (by kernel_rfl) (by kernel_rfl) (by kernel_rfl) (fun _ _ _ h => h) (Or.inl ⟨by rfl, ?_⟩) (by assumption) ?_
    rotate_left
    · intro w hSw; obtain ⟨z0, z1, z2⟩ := hSw; go_simp; with_reducible rfl
    try simp only [Act.put, List.getElem_toArray, List.getElem_cons_succ, List.getElem_cons_zero, List.setIfInBounds_toArray, List.set_cons_zero, List.set_cons_succ]
    refine wpAnyE.two (i := 2) (j := 9) (by kernel_rfl) rfl rfl (fun K hK => ?_) (fun K hK => ?_)
    · go_simp
      obtain ⟨W1, hW1⟩ : ∃ W1, W1 = W0.alloc (.cells #[] 45) := ⟨_, rfl⟩
      have hb1 : Below W0.heap.size W0 W1 := by rw [hW1]; exact below_alloc _ _
      have kW1 : W1.heap[W0.heap.size]? = some (.cells #[] 45) := by rw [hW1]; exact heap_alloc_new W0 _
      have sW1 : W0.heap.size < W1.heap.size := by rw [hW1]; simp
      rw [← hW1]
      clear hW1
      have hSn : W1.cell? ⟨w.heap.size + 1, 0, none⟩ = some (.slice am m.length cm) ∧ W1.cell? ⟨w.heap.size + 1, 1, none⟩ = some (.slice (some ⟨b, off, none⟩) us.length cu) ∧ W1.cell? ⟨w.heap.size + 1, 2, none⟩ = some (.bool f) := ⟨cell_keep hb1 (by omega) hS0.1, cell_keep hb1 (by omega) hS0.2.1, cell_keep hb1 (by omega) hS0.2.2⟩
      have hUn : ∀ k (hk : k < us.length), UpAt W1 b (off + k * 3) us[k] := fun k hk => ⟨cell_keep hb1 (by omega) (hU0 k hk).1, cell_keep hb1 (by omega) (hU0 k hk).2.1, cell_keep hb1 (by omega) (hU0 k hk).2.2⟩
      clear hS0 hU0
      have hS0 := hSn
      have hU0 := hUn
      clear hSn hUn
      refine hK _ _ (fun _ => hS0) ?_
      clear hK K
      try simp only [Act.put, List.getElem_toArray, List.getElem_cons_succ, List.getElem_cons_zero, List.setIfInBounds_toArray, List.set_cons_zero, List.set_cons_succ]
      refine wpAnyE.two (i := 5) (j := 9) (by kernel_rfl) rfl rfl (fun K hK => ?_) (fun K hK => ?_)
      · skip
        obtain ⟨gq, cap, cur, Wa, hra, hca, hga, hka, hta, hsa, hgr⟩ := app_ups W1 24 W0.heap.size b off cu us kW1 hU0 hu4 hu1
        refine step_append_t (by rfl) (.tmp 52) (.tmp 54) (by rfl) _ _ (by rfl) (by rfl) hra ?_
        have hba : Below W0.heap.size W1 Wa := ⟨hgr.os, hgr.tape, hgr.output, hgr.size, fun k hk => hgr.block k (by have := heap_lt kW1; omega) (fun e => by simp at e; omega)⟩
        have hSn : Wa.cell? ⟨w.heap.size + 1, 0, none⟩ = some (.slice am m.length cm) ∧ Wa.cell? ⟨w.heap.size + 1, 1, none⟩ = some (.slice (some ⟨b, off, none⟩) us.length cu) ∧ Wa.cell? ⟨w.heap.size + 1, 2, none⟩ = some (.bool f) := ⟨cell_keep hba (by omega) hS0.1, cell_keep hba (by omega) hS0.2.1, cell_keep hba (by omega) hS0.2.2⟩
        clear hS0 hU0
        have hS0 := hSn
        clear hSn hra
        refine hK _ _ (fun _ => hS0) ?_
        clear hK K
        try simp only [Act.put, List.getElem_toArray, List.getElem_cons_succ, List.getElem_cons_zero, List.setIfInBounds_toArray, List.set_cons_zero, List.set_cons_succ]
        refine wpAnyE.take (i := 8) (v := ?_) rfl (by kernel_rfl) (by kernel_rfl) (by kernel_rfl) (by kernel_rfl) (fun _ _ _ h => h) (Or.inl ⟨by rfl, ?_⟩) (by assumption) ?_
        rotate_left
        · intro w hSw; obtain ⟨z0, z1, z2⟩ := hSw; go_simp; with_reducible rfl
        try simp only [Act.put, List.getElem_toArray, List.getElem_cons_succ, List.getElem_cons_zero, List.setIfInBounds_toArray, List.set_cons_zero, List.set_cons_succ]
        refine wpAnyE.one (i := 9) (by kernel_rfl) rfl (fun K hK => ?_)
        go_simp
        obtain ⟨W3, hW3⟩ : ∃ W3, W3 = Wa.alloc (.cells #[.slice none 0 0, .slice none 0 0, .bool false] 26) := ⟨_, rfl⟩
        have hb3 : Below Wa.heap.size Wa W3 := by rw [hW3]; exact below_alloc _ _
        have kW3 : W3.heap[Wa.heap.size]? = some (.cells #[.slice none 0 0, .slice none 0 0, .bool false] 26) := by rw [hW3]; exact heap_alloc_new Wa _
        have sW3 : Wa.heap.size < W3.heap.size := by rw [hW3]; simp
        rw [← hW3]
        clear hW3
        have hSn : W3.cell? ⟨w.heap.size + 1, 0, none⟩ = some (.slice am m.length cm) ∧ W3.cell? ⟨w.heap.size + 1, 1, none⟩ = some (.slice (some ⟨b, off, none⟩) us.length cu) ∧ W3.cell? ⟨w.heap.size + 1, 2, none⟩ = some (.bool f) := ⟨cell_keep hb3 (by have := hgr.size; omega) hS0.1, cell_keep hb3 (by have := hgr.size; omega) hS0.2.1, cell_keep hb3 (by have := hgr.size; omega) hS0.2.2⟩
        clear hS0
        have hS0 := hSn
        clear hSn
        refine hK _ _ (fun _ => hS0) ?_
        clear hK K
        try simp only [Act.put, List.getElem_toArray, List.getElem_cons_succ, List.getElem_cons_zero, List.setIfInBounds_toArray, List.set_cons_zero, List.set_cons_succ]
        refine wpAnyE.one (i := 10) (by kernel_rfl) rfl (fun K hK => ?_)
        obtain ⟨cq0, cq1, cq2⟩ := c3_of kW3
        have fq0 := f_of (o := 0) kW3
        have fq1 := f_of (o := 1) kW3
        have fq2 := f_of (o := 2) kW3
        have hset := set3_block W3 Wa.heap.size (.slice am m.length cm) (.slice (some ⟨gq, 0, none⟩) us.length cap) (.bool f) kW3
        go_simp
        obtain ⟨Wf, hWf⟩ : ∃ Wf, Wf = (((W3.setCell ⟨Wa.heap.size, 0, none⟩ (.slice am m.length cm)).setCell ⟨Wa.heap.size, 1, none⟩ (.slice (some ⟨gq, 0, none⟩) us.length cap)).setCell ⟨Wa.heap.size, 2, none⟩ (.bool f)) := ⟨_, rfl⟩
        rw [← hWf] at hset ⊢
        have HQ : Qu w4 Wf am m.length cm f us Wa.heap.size gq cap cur := ⟨((hdr.trans (hb1.mono (by have := hdr.size; omega))).trans (hba.mono (by have := hdr.size; omega))).trans ((hb3.trans (hset.2.1.mono (by omega))).mono (by have := hdr.size; have := hgr.size; omega)), hset.1, (hset.2.2 _ (by have := heap_lt hka; omega)).trans ((hb3.block _ (heap_lt hka)).trans hka), hta, hsa, hca, by have := hdr.size; have := hgr.size; omega, by have := hdr.size; omega, by have := heap_lt hka; omega⟩
        have hSf : Wf.cell? ⟨w.heap.size + 1, 0, none⟩ = some (.slice am m.length cm) ∧ Wf.cell? ⟨w.heap.size + 1, 1, none⟩ = some (.slice (some ⟨b, off, none⟩) us.length cu) ∧ Wf.cell? ⟨w.heap.size + 1, 2, none⟩ = some (.bool f) := ⟨far_keep hset.2.2 (by have := hgr.size; omega) hS0.1, far_keep hset.2.2 (by have := hgr.size; omega) hS0.2.1, far_keep hset.2.2 (by have := hgr.size; omega) hS0.2.2⟩
        refine hK _ _ (fun _ => hSf) ?_
        clear hK K
        try simp only [Act.put, List.getElem_toArray, List.getElem_cons_succ, List.getElem_cons_zero, List.setIfInBounds_toArray, List.set_cons_zero, List.set_cons_succ]
        refine wpAnyE.done (by kernel_rfl) ?_
        go_wp2_with fail
        go_meet
        exact ⟨_, _, _, _, rfl, HQ⟩
      · go_simp
        obtain ⟨W2, hW2⟩ : ∃ W2, W2 = W1.alloc (.cells #[.slice none 0 0, .slice none 0 0, .bool false] 26) := ⟨_, rfl⟩
        have hb2 : Below W1.heap.size W1 W2 := by rw [hW2]; exact below_alloc _ _
        have kW2 : W2.heap[W1.heap.size]? = some (.cells #[.slice none 0 0, .slice none 0 0, .bool false] 26) := by rw [hW2]; exact heap_alloc_new W1 _
        have sW2 : W1.heap.size < W2.heap.size := by rw [hW2]; simp
        rw [← hW2]
        clear hW2
        have hSn : W2.cell? ⟨w.heap.size + 1, 0, none⟩ = some (.slice am m.length cm) ∧ W2.cell? ⟨w.heap.size + 1, 1, none⟩ = some (.slice (some ⟨b, off, none⟩) us.length cu) ∧ W2.cell? ⟨w.heap.size + 1, 2, none⟩ = some (.bool f) := ⟨cell_keep hb2 (by omega) hS0.1, cell_keep hb2 (by omega) hS0.2.1, cell_keep hb2 (by omega) hS0.2.2⟩
        have hUn : ∀ k (hk : k < us.length), UpAt W2 b (off + k * 3) us[k] := fun k hk => ⟨cell_keep hb2 (by omega) (hU0 k hk).1, cell_keep hb2 (by omega) (hU0 k hk).2.1, cell_keep hb2 (by omega) (hU0 k hk).2.2⟩
        clear hS0 hU0
        have hS0 := hSn
        have hU0 := hUn
        clear hSn hUn
        have kz := (hb2.block _ (heap_lt kW1)).trans kW1
        refine hK _ _ (fun _ => hS0) ?_
        clear hK K
        try simp only [Act.put, List.getElem_toArray, List.getElem_cons_succ, List.getElem_cons_zero, List.setIfInBounds_toArray, List.set_cons_zero, List.set_cons_succ]
        refine wpAnyE.one (i := 5) (by kernel_rfl) rfl (fun K hK => ?_)
        obtain ⟨gq, cap, cur, Wa, hra, hca, hga, hka, hta, hsa, hgr⟩ := app_ups W2 24 W0.heap.size b off cu us kz hU0 hu4 hu1
        refine step_append_t (by rfl) (.tmp 52) (.tmp 54) (by rfl) _ _ (by rfl) (by rfl) hra ?_
        have hba : Below W0.heap.size W2 Wa := ⟨hgr.os, hgr.tape, hgr.output, hgr.size, fun k hk => hgr.block k (by have := heap_lt kz; omega) (fun e => by simp at e; omega)⟩
        have hSn : Wa.cell? ⟨w.heap.size + 1, 0, none⟩ = some (.slice am m.length cm) ∧ Wa.cell? ⟨w.heap.size + 1, 1, none⟩ = some (.slice (some ⟨b, off, none⟩) us.length cu) ∧ Wa.cell? ⟨w.heap.size + 1, 2, none⟩ = some (.bool f) := ⟨cell_keep hba (by omega) hS0.1, cell_keep hba (by omega) hS0.2.1, cell_keep hba (by omega) hS0.2.2⟩
        clear hS0 hU0
        have hS0 := hSn
        clear hSn hra
        have kq := (hgr.block W1.heap.size (heap_lt kW2) (fun e => by simp at e; omega)).trans kW2
        refine hK _ _ (fun _ => hS0) ?_
        clear hK K
        try simp only [Act.put, List.getElem_toArray, List.getElem_cons_succ, List.getElem_cons_zero, List.setIfInBounds_toArray, List.set_cons_zero, List.set_cons_succ]
        refine wpAnyE.take (i := 8) (v := ?_) rfl (by kernel_rfl) (by kernel_rfl) (by kernel_rfl) (by kernel_rfl) (fun _ _ _ h => h) (Or.inl ⟨by rfl, ?_⟩) (by assumption) ?_
        rotate_left
        · intro w hSw; obtain ⟨z0, z1, z2⟩ := hSw; go_simp; with_reducible rfl
        try simp only [Act.put, List.getElem_toArray, List.getElem_cons_succ, List.getElem_cons_zero, List.setIfInBounds_toArray, List.set_cons_zero, List.set_cons_succ]
        refine wpAnyE.one (i := 10) (by kernel_rfl) rfl (fun K hK => ?_)
        obtain ⟨cq0, cq1, cq2⟩ := c3_of kq
        have fq0 := f_of (o := 0) kq
        have fq1 := f_of (o := 1) kq
        have fq2 := f_of (o := 2) kq
        have hset := set3_block Wa W1.heap.size (.slice am m.length cm) (.slice (some ⟨gq, 0, none⟩) us.length cap) (.bool f) kq
        go_simp
        obtain ⟨Wf, hWf⟩ : ∃ Wf, Wf = (((Wa.setCell ⟨W1.heap.size, 0, none⟩ (.slice am m.length cm)).setCell ⟨W1.heap.size, 1, none⟩ (.slice (some ⟨gq, 0, none⟩) us.length cap)).setCell ⟨W1.heap.size, 2, none⟩ (.bool f)) := ⟨_, rfl⟩
        rw [← hWf] at hset ⊢
        have HQ : Qu w4 Wf am m.length cm f us W1.heap.size gq cap cur := ⟨(((hdr.trans (hb1.mono (by have := hdr.size; omega))).trans (hb2.mono (by have := hdr.size; omega))).trans (hba.mono (by have := hdr.size; omega))).trans (hset.2.1.mono (by have := hdr.size; omega)), hset.1, (hset.2.2 _ (by omega)).trans hka, hta, hsa, hca, by have := hdr.size; omega, by have := hdr.size; omega, by omega⟩
        have hSf : Wf.cell? ⟨w.heap.size + 1, 0, none⟩ = some (.slice am m.length cm) ∧ Wf.cell? ⟨w.heap.size + 1, 1, none⟩ = some (.slice (some ⟨b, off, none⟩) us.length cu) ∧ Wf.cell? ⟨w.heap.size + 1, 2, none⟩ = some (.bool f) := ⟨far_keep hset.2.2 (by have := hgr.size; omega) hS0.1, far_keep hset.2.2 (by have := hgr.size; omega) hS0.2.1, far_keep hset.2.2 (by have := hgr.size; omega) hS0.2.2⟩
        refine hK _ _ (fun _ => hSf) ?_
        clear hK K
        try simp only [Act.put, List.getElem_toArray, List.getElem_cons_succ, List.getElem_cons_zero, List.setIfInBounds_toArray, List.set_cons_zero, List.set_cons_succ]
        refine wpAnyE.done (by kernel_rfl) ?_
        go_wp2_with fail
        go_meet
        exact ⟨_, _, _, _, rfl, HQ⟩
    · go_simp
      obtain ⟨W1, hW1⟩ : ∃ W1, W1 = W0.alloc (.cells #[.slice none 0 0, .slice none 0 0, .bool false] 26) := ⟨_, rfl⟩
      have hb1 : Below W0.heap.size W0 W1 := by rw [hW1]; exact below_alloc _ _
      have kW1 : W1.heap[W0.heap.size]? = some (.cells #[.slice none 0 0, .slice none 0 0, .bool false] 26) := by rw [hW1]; exact heap_alloc_new W0 _
      have sW1 : W0.heap.size < W1.heap.size := by rw [hW1]; simp
      rw [← hW1]
      clear hW1
      have hSn : W1.cell? ⟨w.heap.size + 1, 0, none⟩ = some (.slice am m.length cm) ∧ W1.cell? ⟨w.heap.size + 1, 1, none⟩ = some (.slice (some ⟨b, off, none⟩) us.length cu) ∧ W1.cell? ⟨w.heap.size + 1, 2, none⟩ = some (.bool f) := ⟨cell_keep hb1 (by omega) hS0.1, cell_keep hb1 (by omega) hS0.2.1, cell_keep hb1 (by omega) hS0.2.2⟩
      have hUn : ∀ k (hk : k < us.length), UpAt W1 b (off + k * 3) us[k] := fun k hk => ⟨cell_keep hb1 (by omega) (hU0 k hk).1, cell_keep hb1 (by omega) (hU0 k hk).2.1, cell_keep hb1 (by omega) (hU0 k hk).2.2⟩
      clear hS0 hU0
      have hS0 := hSn
      have hU0 := hUn
      clear hSn hUn
      refine hK _ _ (fun _ => hS0) ?_
      clear hK K
      try simp only [Act.put, List.getElem_toArray, List.getElem_cons_succ, List.getElem_cons_zero, List.setIfInBounds_toArray, List.set_cons_zero, List.set_cons_succ]
      refine wpAnyE.one (i := 2) (by kernel_rfl) rfl (fun K hK => ?_)
      go_simp
      obtain ⟨W2, hW2⟩ : ∃ W2, W2 = W1.alloc (.cells #[] 45) := ⟨_, rfl⟩
      have hb2 : Below W1.heap.size W1 W2 := by rw [hW2]; exact below_alloc _ _
      have kW2 : W2.heap[W1.heap.size]? = some (.cells #[] 45) := by rw [hW2]; exact heap_alloc_new W1 _
      have sW2 : W1.heap.size < W2.heap.size := by rw [hW2]; simp
      rw [← hW2]
      clear hW2
      have hSn : W2.cell? ⟨w.heap.size + 1, 0, none⟩ = some (.slice am m.length cm) ∧ W2.cell? ⟨w.heap.size + 1, 1, none⟩ = some (.slice (some ⟨b, off, none⟩) us.length cu) ∧ W2.cell? ⟨w.heap.size + 1, 2, none⟩ = some (.bool f) := ⟨cell_keep hb2 (by omega) hS0.1, cell_keep hb2 (by omega) hS0.2.1, cell_keep hb2 (by omega) hS0.2.2⟩
      have hUn : ∀ k (hk : k < us.length), UpAt W2 b (off + k * 3) us[k] := fun k hk => ⟨cell_keep hb2 (by omega) (hU0 k hk).1, cell_keep hb2 (by omega) (hU0 k hk).2.1, cell_keep hb2 (by omega) (hU0 k hk).2.2⟩
      clear hS0 hU0
      have hS0 := hSn
      have hU0 := hUn
      clear hSn hUn
      have kz := (hb2.block _ (heap_lt kW1)).trans kW1
      refine hK _ _ (fun _ => hS0) ?_
      clear hK K
      try simp only [Act.put, List.getElem_toArray, List.getElem_cons_succ, List.getElem_cons_zero, List.setIfInBounds_toArray, List.set_cons_zero, List.set_cons_succ]
      refine wpAnyE.one (i := 5) (by kernel_rfl) rfl (fun K hK => ?_)
      obtain ⟨gq, cap, cur, Wa, hra, hca, hga, hka, hta, hsa, hgr⟩ := app_ups W2 24 W1.heap.size b off cu us kW2 hU0 hu4 hu1
      refine step_append_t (by rfl) (.tmp 52) (.tmp 54) (by rfl) _ _ (by rfl) (by rfl) hra ?_
      have hba : Below W1.heap.size W2 Wa := ⟨hgr.os, hgr.tape, hgr.output, hgr.size, fun k hk => hgr.block k (by have := heap_lt kW2; omega) (fun e => by simp at e; omega)⟩
      have hSn : Wa.cell? ⟨w.heap.size + 1, 0, none⟩ = some (.slice am m.length cm) ∧ Wa.cell? ⟨w.heap.size + 1, 1, none⟩ = some (.slice (some ⟨b, off, none⟩) us.length cu) ∧ Wa.cell? ⟨w.heap.size + 1, 2, none⟩ = some (.bool f) := ⟨cell_keep hba (by omega) hS0.1, cell_keep hba (by omega) hS0.2.1, cell_keep hba (by omega) hS0.2.2⟩
      clear hS0 hU0
      have hS0 := hSn
      clear hSn hra
      have kq := (hgr.block W0.heap.size (heap_lt kz) (fun e => by simp at e; omega)).trans kz
      refine hK _ _ (fun _ => hS0) ?_
      clear hK K
      try simp only [Act.put, List.getElem_toArray, List.getElem_cons_succ, List.getElem_cons_zero, List.setIfInBounds_toArray, List.set_cons_zero, List.set_cons_succ]
      refine wpAnyE.take (i := 8) (v := ?_) rfl (by kernel_rfl) (by kernel_rfl) (by kernel_rfl) (by kernel_rfl) (fun _ _ _ h => h) (Or.inl ⟨by rfl, ?_⟩) (by assumption) ?_
      rotate_left
      · intro w hSw; obtain ⟨z0, z1, z2⟩ := hSw; go_simp; with_reducible rfl
      try simp only [Act.put, List.getElem_toArray, List.getElem_cons_succ, List.getElem_cons_zero, List.setIfInBounds_toArray, List.set_cons_zero, List.set_cons_succ]
      refine wpAnyE.one (i := 10) (by kernel_rfl) rfl (fun K hK => ?_)
      obtain ⟨cq0, cq1, cq2⟩ := c3_of kq
      have fq0 := f_of (o := 0) kq
      have fq1 := f_of (o := 1) kq
      have fq2 := f_of (o := 2) kq
      have hset := set3_block Wa W0.heap.size (.slice am m.length cm) (.slice (some ⟨gq, 0, none⟩) us.length cap) (.bool f) kq
      go_simp
      obtain ⟨Wf, hWf⟩ : ∃ Wf, Wf = (((Wa.setCell ⟨W0.heap.size, 0, none⟩ (.slice am m.length cm)).setCell ⟨W0.heap.size, 1, none⟩ (.slice (some ⟨gq, 0, none⟩) us.length cap)).setCell ⟨W0.heap.size, 2, none⟩ (.bool f)) := ⟨_, rfl⟩
      rw [← hWf] at hset ⊢
      have HQ : Qu w4 Wf am m.length cm f us W0.heap.size gq cap cur := ⟨(((hdr.trans (hb1.mono (by have := hdr.size; omega))).trans (hb2.mono (by have := hdr.size; omega))).trans (hba.mono (by have := hdr.size; omega))).trans (hset.2.1.mono (by have := hdr.size; omega)), hset.1, (hset.2.2 _ (by omega)).trans hka, hta, hsa, hca, by have := hdr.size; omega, by have := hdr.size; omega, by omega⟩
      have hSf : Wf.cell? ⟨w.heap.size + 1, 0, none⟩ = some (.slice am m.length cm) ∧ Wf.cell? ⟨w.heap.size + 1, 1, none⟩ = some (.slice (some ⟨b, off, none⟩) us.length cu) ∧ Wf.cell? ⟨w.heap.size + 1, 2, none⟩ = some (.bool f) := ⟨far_keep hset.2.2 (by have := hgr.size; omega) hS0.1, far_keep hset.2.2 (by have := hgr.size; omega) hS0.2.1, far_keep hset.2.2 (by have := hgr.size; omega) hS0.2.2⟩
      refine hK _ _ (fun _ => hSf) ?_
      clear hK K
      try simp only [Act.put, List.getElem_toArray, List.getElem_cons_succ, List.getElem_cons_zero, List.setIfInBounds_toArray, List.set_cons_zero, List.set_cons_succ]
      refine wpAnyE.done (by kernel_rfl) ?_
      go_wp2_with fail
      go_meet
      exact ⟨_, _, _, _, rfl, HQ⟩
  case rest =>
    obtain ⟨q, gq, cap, cur, rfl, Q⟩ := hcut
    have hBc := hB4.trans (Q.hb.mono hB4.size)
    have hk1c := (Q.hb.block _ (heap_lt hk14)).trans hk14
    have hqw : w.heap.size < q := Nat.lt_of_lt_of_le (heap_lt hk14) Q.q1
    have hgw : w.heap.size < gq := Nat.lt_of_lt_of_le (heap_lt hk14) Q.g1
    have HCall : Hid (∀ (vs : List Up) (W : World), vs.Perm us → Below w.heap.size w W → HoldsU W (some ⟨gq, 0, none⟩) vs → Calls Tryz.prog 19 #[replV aS s.length cs al l.length cl g ph a1 n1 c1 a2 n2 c2 f0, pushV am m.length cm (some ⟨gq, 0, none⟩) us.length cap f] W fun e w' => e = .returned (.tuple #[.string (voteS s l g m vs f), .int .i64 0]) ∧ Below W.heap.size W w') := fun vs W hp hb hv => by
      have h := of_any aS cs s al cl l g ph a1 n1 c1 a2 n2 c2 f0 am cm m (some ⟨gq, 0, none⟩) cap vs f W (hg.below hb) (ht.below hb) (hs.below hb) hsl (hl.below hb) hll (hm.below hb) hml hv (by rw [hp.length_eq]; exact hul)
      rw [voteE_iff.2 ⟨push_perm hp HP.out.1, HP.out.2⟩, hp.length_eq] at h
      exact h
    have HSame : Hid (∀ vs : List Up, vs.Perm us → voteS s l g m vs f = T) := fun vs hp => by
      rw [HY.out, vote_yes (voteE_iff.2 ⟨push_perm hp HP.out.1, HP.out.2⟩) (try_perm hp hz), text_perm hp (pushE_iff.1 HP.out.1).2.2]
    have qt : (T.toList == T.toList) = true := by simp
    have hUc := holdsU_cur Q.hu Q.ht
    have hkq := Q.hq
    have hku := Q.hu
    obtain ⟨rr, hcur⟩ := cur_of Q.ht
    have hgq := Q.ne
    have hcap := Q.hc
    clear Q hk14 hk24 hB4 hs hl hm hcu hu HT HV HP HY hpre hsz hle hle2 hg ht
    obtain ⟨ua, ub, uc, rfl⟩ : ∃ ua ub uc, us = [ua, ub, uc] := by
      match us, HLn.out with
      | [ua, ub, uc], _ => exact ⟨ua, ub, uc, rfl⟩
    obtain ⟨q0, q1, q2⟩ := c3_of hkq
    simp only [List.length_cons, List.length_nil, Nat.zero_add, Nat.reduceAdd] at *
    have hcu0 := fun j (hj : j < 3) => hcell3 hku hcur j hj
    obtain ⟨e0, e1, e2⟩ := hcu0 0 (by omega)
    obtain ⟨g0, g1, g2⟩ := hcu0 2 (by omega)
    simp only [Nat.zero_add, Nat.zero_mul, Nat.reduceMul, Nat.reduceAdd, List.getElem_cons_zero, List.getElem_cons_succ] at e0 e1 e2 g0 g1 g2
    have fr0 := f_of (o := 0) hku
    have fr1 := f_of (o := 1) hku
    have fr2 := f_of (o := 2) hku
    have fr6 := f_of (o := 6) hku
    have fr7 := f_of (o := 7) hku
    have fr8 := f_of (o := 8) hku
    obtain ⟨kg, hB6, hoth⟩ := six_block wc gq 6 7 8 cur (.string uc.name) (.int .i64 uc.old) (.int .i64 uc.new) (.string ua.name) (.int .i64 ua.old) (.int .i64 ua.new) hku
    have hUs : HoldsU (((((((wc.setCell ⟨gq, 0, none⟩ (.string uc.name)).setCell ⟨gq, 1, none⟩ (.int .i64 uc.old)).setCell ⟨gq, 2, none⟩ (.int .i64 uc.new)).setCell ⟨gq, 6, none⟩ (.string ua.name)).setCell ⟨gq, 7, none⟩ (.int .i64 ua.old)).setCell ⟨gq, 8, none⟩ (.int .i64 ua.new)).drew) (some ⟨gq, 0, none⟩) [uc, ub, ua] := (holdsU_cur (w := ((((((wc.setCell ⟨gq, 0, none⟩ (.string uc.name)).setCell ⟨gq, 1, none⟩ (.int .i64 uc.old)).setCell ⟨gq, 2, none⟩ (.int .i64 uc.new)).setCell ⟨gq, 6, none⟩ (.string ua.name)).setCell ⟨gq, 7, none⟩ (.int .i64 ua.old)).setCell ⟨gq, 8, none⟩ (.int .i64 ua.new))) kg (by rw [hcur]; exact swap_row3 ua ub uc rr)).below ((Below.refl _ _).drew)
    have hBs : Below w.heap.size w (((((((wc.setCell ⟨gq, 0, none⟩ (.string uc.name)).setCell ⟨gq, 1, none⟩ (.int .i64 uc.old)).setCell ⟨gq, 2, none⟩ (.int .i64 uc.new)).setCell ⟨gq, 6, none⟩ (.string ua.name)).setCell ⟨gq, 7, none⟩ (.int .i64 ua.old)).setCell ⟨gq, 8, none⟩ (.int .i64 ua.new)).drew) := hBc.trans ((hB6.mono (Nat.le_of_lt hgw)).trans ((Below.refl _ _).drew))
    have hkq5 := (hoth q (Ne.symm hgq)).trans hkq
    have hkqs := (((Below.refl ((((((wc.setCell ⟨gq, 0, none⟩ (.string uc.name)).setCell ⟨gq, 1, none⟩ (.int .i64 uc.old)).setCell ⟨gq, 2, none⟩ (.int .i64 uc.new)).setCell ⟨gq, 6, none⟩ (.string ua.name)).setCell ⟨gq, 7, none⟩ (.int .i64 ua.old)).setCell ⟨gq, 8, none⟩ (.int .i64 ua.new)).heap.size ((((((wc.setCell ⟨gq, 0, none⟩ (.string uc.name)).setCell ⟨gq, 1, none⟩ (.int .i64 uc.old)).setCell ⟨gq, 2, none⟩ (.int .i64 uc.new)).setCell ⟨gq, 6, none⟩ (.string ua.name)).setCell ⟨gq, 7, none⟩ (.int .i64 ua.old)).setCell ⟨gq, 8, none⟩ (.int .i64 ua.new))).drew).block q (heap_lt hkq5)).trans hkq5
    have hk15 := (hoth w.heap.size (by omega)).trans hk1c
    have hk1s := (((Below.refl ((((((wc.setCell ⟨gq, 0, none⟩ (.string uc.name)).setCell ⟨gq, 1, none⟩ (.int .i64 uc.old)).setCell ⟨gq, 2, none⟩ (.int .i64 uc.new)).setCell ⟨gq, 6, none⟩ (.string ua.name)).setCell ⟨gq, 7, none⟩ (.int .i64 ua.old)).setCell ⟨gq, 8, none⟩ (.int .i64 ua.new)).heap.size ((((((wc.setCell ⟨gq, 0, none⟩ (.string uc.name)).setCell ⟨gq, 1, none⟩ (.int .i64 uc.old)).setCell ⟨gq, 2, none⟩ (.int .i64 uc.new)).setCell ⟨gq, 6, none⟩ (.string ua.name)).setCell ⟨gq, 7, none⟩ (.int .i64 ua.old)).setCell ⟨gq, 8, none⟩ (.int .i64 ua.new))).drew).block w.heap.size (heap_lt hk15)).trans hk15
    have HP2 : Hid (([uc, ub, ua] : List Up).Perm [ua, ub, uc]) := swapE_perm [ua, ub, uc]
    have HBun : Hid (_ ∧ _ ∧ _ ∧ _) := ⟨hUs, hBs, hkqs, hk1s⟩
    clear hUs hBs hkqs hk1s hkq5 hk15 hoth hB6 kg hcur hcu0 hkq hku hk1c hBc hUc
    go_upto_region 12 with fail
    go_region
    obtain ⟨hUs, hBs, hkqs, hk1s⟩ := HBun.out
    clear HBun
    generalize ((((((wc.setCell ⟨gq, 0, none⟩ (.string uc.name)).setCell ⟨gq, 1, none⟩ (.int .i64 uc.old)).setCell ⟨gq, 2, none⟩ (.int .i64 uc.new)).setCell ⟨gq, 6, none⟩ (.string ua.name)).setCell ⟨gq, 7, none⟩ (.int .i64 ua.old)).setCell ⟨gq, 8, none⟩ (.int .i64 ua.new)).drew = Ws at *
    clear q0 q1 q2 e0 e1 e2 g0 g1 g2 fr0 fr1 fr2 fr6 fr7 fr8
    have hcl := HCall.out [uc, ub, ua] Ws HP2.out hBs hUs
    skip
    obtain ⟨q0, q1, q2⟩ := c3_of hkqs
    obtain ⟨r0, r1, r2, r3, r4, r5, r6⟩ := c7_of hk1s
    go_wp2_with fail
    refine hcl.mono ?_
    clear hcl
    rintro e w6 ⟨rfl, hb6⟩
    have hB7 := hBs.trans (hb6.mono hBs.size)
    rw [HSame.out [uc, ub, ua] HP2.out]
    clear hb6 q0 q1 q2 r0 r1 r2 r3 r4 r5 r6
    go_wp2
    go_ret
    exact ⟨rfl, hB7⟩
end

section
open Go.RowKit
set_option maxRecDepth 100000

set_option maxHeartbeats 60000000 in
theorem voteSame_yes4 (aS : Option Addr) (cs : Nat) (s : List Ob) (al : Option Addr) (cl : Nat) (l : List Rf) (g ph : Int) (a1 : Option Addr) (n1 c1 : Nat) (a2 : Option Addr) (n2 c2 : Nat) (f0 : Bool) (am : Option Addr) (cm : Nat) (m : List Ob) (au : Option Addr) (cu : Nat) (us : List Up) (f : Bool) (w : World) (hg : Glob w) (ht : Tab w)
    (hs : HoldsS w aS s) (hsl : s.length ≤ 9223372036854775807) (hl : HoldsR w al l) (hll : l.length ≤ 9223372036854775807) (hm : HoldsS w am m) (hml : m.length ≤ 9223372036854775807) (hu : HoldsU w au us) (hul : us.length ≤ 9223372036854775807) (hv : voteE g m us = 0) (hz : tryE s l m us f = 0) (hlen : us.length = 4) :
    Calls Tryz.prog 6 #[replV aS s.length cs al l.length cl g ph a1 n1 c1 a2 n2 c2 f0, pushV am m.length cm au us.length cu f, .bool true] w fun e w' => e = .returned (.bool true) ∧ Below w.heap.size w w' := by
  have HV : Hid (voteE g m us = 0) := hv
  have HTr : Hid (tryE s l m us f = 0) := hz
  have HLn : Hid (us.length = 4) := hlen
  clear hv hlen hz
  have hB := below_alloc2 w (.cells #[.slice aS s.length cs, .slice al l.length cl, .int .i64 g, .int .i64 ph, .slice a1 n1 c1, .slice a2 n2 c2, .bool f0] 28) (.cells #[.slice am m.length cm, .slice au us.length cu, .bool f] 26)
  obtain ⟨hk1, hk2⟩ := two_blocks w (.cells #[.slice aS s.length cs, .slice al l.length cl, .int .i64 g, .int .i64 ph, .slice a1 n1 c1, .slice a2 n2 c2, .bool f0] 28) (.cells #[.slice am m.length cm, .slice au us.length cu, .bool f] 26)
  obtain ⟨y0, y1, y2⟩ := c3_of hk2
  obtain ⟨r0, r1, r2, r3, r4, r5, r6⟩ := c7_of hk1
  have hof := of_any aS cs s al cl l g ph a1 n1 c1 a2 n2 c2 f0 am cm m au cu us f _ (hg.below hB) (ht.below hB) (hs.below hB) hsl (hl.below hB) hll (hm.below hB) hml (hu.below hB) hul
  go_enter Tryz.func6, Tryz.ntmps6
  go_wp2_with fail
  refine hof.mono ?_
  clear hof
  rintro e w1 ⟨rfl, hb1⟩
  have hB1 := hB.trans (hb1.mono hB.size)
  have hk11 := (hb1.block _ (heap_lt hk1)).trans hk1
  have hk21 := (hb1.block _ (heap_lt hk2)).trans hk2
  clear hb1 hB hk1 hk2 y0 y1 y2 r0 r1 r2 r3 r4 r5 r6
  go_wp2_with fail
  refine (voteBegun_any w1 (hg.below hB1) (ht.below hB1)).mono ?_
  rintro e w2 ⟨rfl, hb2⟩
  have hB2 := hB1.trans (hb2.mono hB1.size)
  have hk12 := (hb2.block _ (heap_lt hk11)).trans hk11
  have hk22 := (hb2.block _ (heap_lt hk21)).trans hk21
  clear hb2 hB1 hk11 hk21
  go_wp2_with fail
  refine (pushBegun_any w2 (hg.below hB2)).mono ?_
  rintro e w3 ⟨rfl, hb3⟩
  have hB3 := hB2.trans (hb3.mono hB2.size)
  have hk13 := (hb3.block _ (heap_lt hk12)).trans hk12
  have hk23 := (hb3.block _ (heap_lt hk22)).trans hk22
  clear hb3 hB2 hk12 hk22
  rw [HV.out]
  have HP : Hid (pushE m us = 0 ∧ 0 ≤ g ∧ g ≤ 999) := voteE_iff.1 HV.out
  have hu4 : us.length ≤ 4 := (checkU_iff.1 (pushE_iff.1 HP.out.1).2.2).2.1
  have hu1 : 0 < us.length := (checkU_iff.1 (pushE_iff.1 HP.out.1).2.2).1
  obtain ⟨y0, y1, y2⟩ := c3_of hk23
  obtain ⟨r0, r1, r2, r3, r4, r5, r6⟩ := c7_of hk13
  have htr := try_any aS cs s al cl l g ph a1 n1 c1 a2 n2 c2 f0 am cm m au cu us f w3 (hg.below hB3) (hs.below hB3) hsl (hl.below hB3) hll (hm.below hB3) hml (hu.below hB3) hul
  -- the two ways
  obtain ⟨T, hT⟩ : ∃ T, T = voteS s l g m us f := ⟨_, rfl⟩
  rw [← hT]
  have HT : Hid (T = voteS s l g m us f) := hT
  clear hT
  go_wp2_with fail
  refine htr.mono ?_
  clear htr
  rintro e w4 ⟨hb4, hpost⟩
  have hB4 := hB3.trans (hb4.mono hB3.size)
  have hk14 := (hb4.block _ (heap_lt hk13)).trans hk13
  have hk24 := (hb4.block _ (heap_lt hk23)).trans hk23
  clear hb4 hB3 hk13 hk23 y0 y1 y2 r0 r1 r2 r3 r4 r5 r6
  obtain ⟨b, off, rfl, hbu, hcu⟩ := hu 0 hu1
  obtain ⟨a3, c3, a4, c4, rfl⟩ : ∃ a3 c3 a4 c4, e = .returned (.tuple #[.slice a3 (takeRes s m).length c3, .slice a4 (runL l us).length c4, .int .i64 0]) := by
    rcases hpost with ⟨q, _⟩ | ⟨_, a3, c3, a4, c4, q, _⟩
    · exact absurd HTr.out q
    · exact ⟨a3, c3, a4, c4, q⟩
  clear hpost
  have hz := HTr.out
  have HY : Hid (T = sYesB ++ (itoaS g ++ sBl ++ textS us)) := by unfold Hid; rw [HT.out]; exact vote_yes HV.out hz
  have hsz := yes_size T g (textS us) HY.out
  have hle : (4 : Int) < (T.size : Int) := by omega
  have hle2 : (4 : Int) ≤ (T.size : Int) := by omega
  have hpre := yes_pre T _ HY.out
  go_upto_region 9 with fail
  go_cut [12] from 50 to 58 (fun s12 wx => ∃ q gq cap cur, s12 = .pointer (some ⟨q, 0, none⟩) ∧ Qu w4 wx am m.length cm f us q gq cap cur)
  case first =>
    have hdr := (Below.refl w4.heap.size w4).drew
    have hS0 : w4.drew.cell? ⟨w.heap.size + 1, 0, none⟩ = some (.slice am m.length cm) ∧ w4.drew.cell? ⟨w.heap.size + 1, 1, none⟩ = some (.slice (some ⟨b, off, none⟩) us.length cu) ∧ w4.drew.cell? ⟨w.heap.size + 1, 2, none⟩ = some (.bool f) := c3_of hk24
    have hU0 : ∀ k (hk : k < us.length), UpAt w4.drew b (off + k * 3) us[k] := fun k hk => ⟨cell_keep (hB4.trans (hdr.mono hB4.size)) hbu (hcu k hk).1, cell_keep (hB4.trans (hdr.mono hB4.size)) hbu (hcu k hk).2.1, cell_keep (hB4.trans (hdr.mono hB4.size)) hbu (hcu k hk).2.2⟩
    have hbW : b < w4.drew.heap.size := Nat.lt_of_lt_of_le hbu (hB4.trans (hdr.mono hB4.size)).size
    have hpW : w.heap.size + 1 < w4.drew.heap.size := heap_lt hk24
    refine wp_region_E (fun W => W.cell? ⟨w.heap.size + 1, 0, none⟩ = some (.slice am m.length cm) ∧ W.cell? ⟨w.heap.size + 1, 1, none⟩ = some (.slice (some ⟨b, off, none⟩) us.length cu) ∧ W.cell? ⟨w.heap.size + 1, 2, none⟩ = some (.bool f)) (fun _ => false) (by kernel_rfl) hS0 (fun hS => ?_)
    generalize w4.drew = W0 at *
    refine wpAnyE.take (i := 0) (v := ?_) rfl (by kernel_rfl) (by kernel_rfl) (by kernel_rfl) (by kernel_rfl) (fun _ _ _ h => h) (Or.inl ⟨by rfl, ?_⟩) (by assumption) ?_
    rotate_left
    · intro w hSw; obtain ⟨z0, z1, z2⟩ := hSw; go_simp; with_reducible rfl
    try simp only [Act.put, List.getElem_toArray, List.getElem_cons_zero, List.setIfInBounds_toArray, List.set_cons_zero, List.set_cons_succ]
    refine wpAnyE.take (i := 1) (v := ?_) rfl (by kernel_rfl) (by kernel_rfl) (by kernel_rfl) (by kernel_rfl) (fun _ _ _ h => h) (Or.inl ⟨by rfl, ?_⟩) (by assumption) ?_
    rotate_left
    · intro w hSw; obtain ⟨z0, z1, z2⟩ := hSw; go_simp; with_reducible rfl
    try simp only [Act.put, List.getElem_toArray, List.getElem_cons_succ, List.getElem_cons_zero, List.setIfInBounds_toArray, List.set_cons_zero, List.set_cons_succ]
    refine wpAnyE.take (i := 3) (v := ?_) rfl (by kernel_rfl) (by kernel_rfl) (by kernel_rfl) (by kernel_rfl) (fun _ _ _ h => h) (Or.inl ⟨by rfl, ?_⟩) (by assumption) ?_
    rotate_left
    · intro w hSw; obtain ⟨z0, z1, z2⟩ := hSw; go_simp; with_reducible rfl
    try simp only [Act.put, List.getElem_toArray, List.getElem_cons_succ, List.getElem_cons_zero, List.setIfInBounds_toArray, List.set_cons_zero, List.set_cons_succ]
    refine wpAnyE.take (i := 4) (v := ?_) rfl (by kernel_rfl) (by kernel_rfl) (by kernel_rfl) (by kernel_rfl) (fun _ _ _ h => h) (Or.inl ⟨by rfl, ?_⟩) (by assumption) ?_
    rotate_left
    · intro w hSw; obtain ⟨z0, z1, z2⟩ := hSw; go_simp; with_reducible rfl
    try simp only [Act.put, List.getElem_toArray, List.getElem_cons_succ, List.getElem_cons_zero, List.setIfInBounds_toArray, List.set_cons_zero, List.set_cons_succ]
    refine wpAnyE.take (i := 6) (v := ?_) rfl (by kernel_rfl) (by kernel_rfl) (by kernel_rfl) (by kernel_rfl) (fun _ _ _ h => h) (Or.inl ⟨by rfl, ?_⟩) (by assumption) ?_
    rotate_left
    · intro w hSw; obtain ⟨z0, z1, z2⟩ := hSw; go_simp; with_reducible rfl
    try simp only [Act.put, List.getElem_toArray, List.getElem_cons_succ, List.getElem_cons_zero, List.setIfInBounds_toArray, List.set_cons_zero, List.set_cons_succ]
    refine wpAnyE.take (i := 7) (v := ?_) rfl (by kernel_rfl) (by kernel_rfl) (by kernel_rfl) (by kernel_rfl) (fun _ _ _ h => h) (Or.inl ⟨by rfl, ?_⟩) (by assumption) ?_
    rotate_left
    · intro w hSw; obtain ⟨z0, z1, z2⟩ := hSw; go_simp; with_reducible rfl
    try simp only [Act.put, List.getElem_toArray, List.getElem_cons_succ, List.getElem_cons_zero, List.setIfInBounds_toArray, List.set_cons_zero, List.set_cons_succ]
    refine wpAnyE.two (i := 2) (j := 9) (by kernel_rfl) rfl rfl (fun K hK => ?_) (fun K hK => ?_)
    · go_simp
      obtain ⟨W1, hW1⟩ : ∃ W1, W1 = W0.alloc (.cells #[] 45) := ⟨_, rfl⟩
      have hb1 : Below W0.heap.size W0 W1 := by rw [hW1]; exact below_alloc _ _
      have kW1 : W1.heap[W0.heap.size]? = some (.cells #[] 45) := by rw [hW1]; exact heap_alloc_new W0 _
      have sW1 : W0.heap.size < W1.heap.size := by rw [hW1]; simp
      rw [← hW1]
      clear hW1
      have hSn : W1.cell? ⟨w.heap.size + 1, 0, none⟩ = some (.slice am m.length cm) ∧ W1.cell? ⟨w.heap.size + 1, 1, none⟩ = some (.slice (some ⟨b, off, none⟩) us.length cu) ∧ W1.cell? ⟨w.heap.size + 1, 2, none⟩ = some (.bool f) := ⟨cell_keep hb1 (by omega) hS0.1, cell_keep hb1 (by omega) hS0.2.1, cell_keep hb1 (by omega) hS0.2.2⟩
      have hUn : ∀ k (hk : k < us.length), UpAt W1 b (off + k * 3) us[k] := fun k hk => ⟨cell_keep hb1 (by omega) (hU0 k hk).1, cell_keep hb1 (by omega) (hU0 k hk).2.1, cell_keep hb1 (by omega) (hU0 k hk).2.2⟩
      clear hS0 hU0
      have hS0 := hSn
      have hU0 := hUn
      clear hSn hUn
      refine hK _ _ (fun _ => hS0) ?_
      clear hK K
      try simp only [Act.put, List.getElem_toArray, List.getElem_cons_succ, List.getElem_cons_zero, List.setIfInBounds_toArray, List.set_cons_zero, List.set_cons_succ]
      refine wpAnyE.two (i := 5) (j := 9) (by kernel_rfl) rfl rfl (fun K hK => ?_) (fun K hK => ?_)
      · skip
        obtain ⟨gq, cap, cur, Wa, hra, hca, hga, hka, hta, hsa, hgr⟩ := app_ups W1 24 W0.heap.size b off cu us kW1 hU0 hu4 hu1
        refine step_append_t (by rfl) (.tmp 52) (.tmp 54) (by rfl) _ _ (by rfl) (by rfl) hra ?_
        have hba : Below W0.heap.size W1 Wa := ⟨hgr.os, hgr.tape, hgr.output, hgr.size, fun k hk => hgr.block k (by have := heap_lt kW1; omega) (fun e => by simp at e; omega)⟩
        have hSn : Wa.cell? ⟨w.heap.size + 1, 0, none⟩ = some (.slice am m.length cm) ∧ Wa.cell? ⟨w.heap.size + 1, 1, none⟩ = some (.slice (some ⟨b, off, none⟩) us.length cu) ∧ Wa.cell? ⟨w.heap.size + 1, 2, none⟩ = some (.bool f) := ⟨cell_keep hba (by omega) hS0.1, cell_keep hba (by omega) hS0.2.1, cell_keep hba (by omega) hS0.2.2⟩
        clear hS0 hU0
        have hS0 := hSn
        clear hSn hra
        refine hK _ _ (fun _ => hS0) ?_
        clear hK K
        try simp only [Act.put, List.getElem_toArray, List.getElem_cons_succ, List.getElem_cons_zero, List.setIfInBounds_toArray, List.set_cons_zero, List.set_cons_succ]
        refine wpAnyE.take (i := 8) (v := ?_) rfl (by kernel_rfl) (by kernel_rfl) (by kernel_rfl) (by kernel_rfl) (fun _ _ _ h => h) (Or.inl ⟨by rfl, ?_⟩) (by assumption) ?_
        rotate_left
        · intro w hSw; obtain ⟨z0, z1, z2⟩ := hSw; go_simp; with_reducible rfl
        try simp only [Act.put, List.getElem_toArray, List.getElem_cons_succ, List.getElem_cons_zero, List.setIfInBounds_toArray, List.set_cons_zero, List.set_cons_succ]
        refine wpAnyE.one (i := 9) (by kernel_rfl) rfl (fun K hK => ?_)
        go_simp
        obtain ⟨W3, hW3⟩ : ∃ W3, W3 = Wa.alloc (.cells #[.slice none 0 0, .slice none 0 0, .bool false] 26) := ⟨_, rfl⟩
        have hb3 : Below Wa.heap.size Wa W3 := by rw [hW3]; exact below_alloc _ _
        have kW3 : W3.heap[Wa.heap.size]? = some (.cells #[.slice none 0 0, .slice none 0 0, .bool false] 26) := by rw [hW3]; exact heap_alloc_new Wa _
        have sW3 : Wa.heap.size < W3.heap.size := by rw [hW3]; simp
        rw [← hW3]
        clear hW3
        have hSn : W3.cell? ⟨w.heap.size + 1, 0, none⟩ = some (.slice am m.length cm) ∧ W3.cell? ⟨w.heap.size + 1, 1, none⟩ = some (.slice (some ⟨b, off, none⟩) us.length cu) ∧ W3.cell? ⟨w.heap.size + 1, 2, none⟩ = some (.bool f) := ⟨cell_keep hb3 (by have := hgr.size; omega) hS0.1, cell_keep hb3 (by have := hgr.size; omega) hS0.2.1, cell_keep hb3 (by have := hgr.size; omega) hS0.2.2⟩
        clear hS0
        have hS0 := hSn
        clear hSn
        refine hK _ _ (fun _ => hS0) ?_
        clear hK K
        try simp only [Act.put, List.getElem_toArray, List.getElem_cons_succ, List.getElem_cons_zero, List.setIfInBounds_toArray, List.set_cons_zero, List.set_cons_succ]
        refine wpAnyE.one (i := 10) (by kernel_rfl) rfl (fun K hK => ?_)
        obtain ⟨cq0, cq1, cq2⟩ := c3_of kW3
        have fq0 := f_of (o := 0) kW3
        have fq1 := f_of (o := 1) kW3
        have fq2 := f_of (o := 2) kW3
        have hset := set3_block W3 Wa.heap.size (.slice am m.length cm) (.slice (some ⟨gq, 0, none⟩) us.length cap) (.bool f) kW3
        go_simp
        obtain ⟨Wf, hWf⟩ : ∃ Wf, Wf = (((W3.setCell ⟨Wa.heap.size, 0, none⟩ (.slice am m.length cm)).setCell ⟨Wa.heap.size, 1, none⟩ (.slice (some ⟨gq, 0, none⟩) us.length cap)).setCell ⟨Wa.heap.size, 2, none⟩ (.bool f)) := ⟨_, rfl⟩
        rw [← hWf] at hset ⊢
        have HQ : Qu w4 Wf am m.length cm f us Wa.heap.size gq cap cur := ⟨((hdr.trans (hb1.mono (by have := hdr.size; omega))).trans (hba.mono (by have := hdr.size; omega))).trans ((hb3.trans (hset.2.1.mono (by omega))).mono (by have := hdr.size; have := hgr.size; omega)), hset.1, (hset.2.2 _ (by have := heap_lt hka; omega)).trans ((hb3.block _ (heap_lt hka)).trans hka), hta, hsa, hca, by have := hdr.size; have := hgr.size; omega, by have := hdr.size; omega, by have := heap_lt hka; omega⟩
        have hSf : Wf.cell? ⟨w.heap.size + 1, 0, none⟩ = some (.slice am m.length cm) ∧ Wf.cell? ⟨w.heap.size + 1, 1, none⟩ = some (.slice (some ⟨b, off, none⟩) us.length cu) ∧ Wf.cell? ⟨w.heap.size + 1, 2, none⟩ = some (.bool f) := ⟨far_keep hset.2.2 (by have := hgr.size; omega) hS0.1, far_keep hset.2.2 (by have := hgr.size; omega) hS0.2.1, far_keep hset.2.2 (by have := hgr.size; omega) hS0.2.2⟩
        refine hK _ _ (fun _ => hSf) ?_
        clear hK K
        try simp only [Act.put, List.getElem_toArray, List.getElem_cons_succ, List.getElem_cons_zero, List.setIfInBounds_toArray, List.set_cons_zero, List.set_cons_succ]
        refine wpAnyE.done (by kernel_rfl) ?_
        go_wp2_with fail
        go_meet
        exact ⟨_, _, _, _, rfl, HQ⟩
      · go_simp
        obtain ⟨W2, hW2⟩ : ∃ W2, W2 = W1.alloc (.cells #[.slice none 0 0, .slice none 0 0, .bool false] 26) := ⟨_, rfl⟩
        have hb2 : Below W1.heap.size W1 W2 := by rw [hW2]; exact below_alloc _ _
        have kW2 : W2.heap[W1.heap.size]? = some (.cells #[.slice none 0 0, .slice none 0 0, .bool false] 26) := by rw [hW2]; exact heap_alloc_new W1 _
        have sW2 : W1.heap.size < W2.heap.size := by rw [hW2]; simp
        rw [← hW2]
        clear hW2
        have hSn : W2.cell? ⟨w.heap.size + 1, 0, none⟩ = some (.slice am m.length cm) ∧ W2.cell? ⟨w.heap.size + 1, 1, none⟩ = some (.slice (some ⟨b, off, none⟩) us.length cu) ∧ W2.cell? ⟨w.heap.size + 1, 2, none⟩ = some (.bool f) := ⟨cell_keep hb2 (by omega) hS0.1, cell_keep hb2 (by omega) hS0.2.1, cell_keep hb2 (by omega) hS0.2.2⟩
        have hUn : ∀ k (hk : k < us.length), UpAt W2 b (off + k * 3) us[k] := fun k hk => ⟨cell_keep hb2 (by omega) (hU0 k hk).1, cell_keep hb2 (by omega) (hU0 k hk).2.1, cell_keep hb2 (by omega) (hU0 k hk).2.2⟩
        clear hS0 hU0
        have hS0 := hSn
        have hU0 := hUn
        clear hSn hUn
        have kz := (hb2.block _ (heap_lt kW1)).trans kW1
        refine hK _ _ (fun _ => hS0) ?_
        clear hK K
        try simp only [Act.put, List.getElem_toArray, List.getElem_cons_succ, List.getElem_cons_zero, List.setIfInBounds_toArray, List.set_cons_zero, List.set_cons_succ]
        refine wpAnyE.one (i := 5) (by kernel_rfl) rfl (fun K hK => ?_)
        obtain ⟨gq, cap, cur, Wa, hra, hca, hga, hka, hta, hsa, hgr⟩ := app_ups W2 24 W0.heap.size b off cu us kz hU0 hu4 hu1
        refine step_append_t (by rfl) (.tmp 52) (.tmp 54) (by rfl) _ _ (by rfl) (by rfl) hra ?_
        have hba : Below W0.heap.size W2 Wa := ⟨hgr.os, hgr.tape, hgr.output, hgr.size, fun k hk => hgr.block k (by have := heap_lt kz; omega) (fun e => by simp at e; omega)⟩
        have hSn : Wa.cell? ⟨w.heap.size + 1, 0, none⟩ = some (.slice am m.length cm) ∧ Wa.cell? ⟨w.heap.size + 1, 1, none⟩ = some (.slice (some ⟨b, off, none⟩) us.length cu) ∧ Wa.cell? ⟨w.heap.size + 1, 2, none⟩ = some (.bool f) := ⟨cell_keep hba (by omega) hS0.1, cell_keep hba (by omega) hS0.2.1, cell_keep hba (by omega) hS0.2.2⟩
        clear hS0 hU0
        have hS0 := hSn
        clear hSn hra
        have kq := (hgr.block W1.heap.size (heap_lt kW2) (fun e => by simp at e; omega)).trans kW2
        refine hK _ _ (fun _ => hS0) ?_
        clear hK K
        try simp only [Act.put, List.getElem_toArray, List.getElem_cons_succ, List.getElem_cons_zero, List.setIfInBounds_toArray, List.set_cons_zero, List.set_cons_succ]
        refine wpAnyE.take (i := 8) (v := ?_) rfl (by kernel_rfl) (by kernel_rfl) (by kernel_rfl) (by kernel_rfl) (fun _ _ _ h => h) (Or.inl ⟨by rfl, ?_⟩) (by assumption) ?_
        rotate_left
        · intro w hSw; obtain ⟨z0, z1, z2⟩ := hSw; go_simp; with_reducible rfl
        try simp only [Act.put, List.getElem_toArray, List.getElem_cons_succ, List.getElem_cons_zero, List.setIfInBounds_toArray, List.set_cons_zero, List.set_cons_succ]
        refine wpAnyE.one (i := 10) (by kernel_rfl) rfl (fun K hK => ?_)
        obtain ⟨cq0, cq1, cq2⟩ := c3_of kq
        have fq0 := f_of (o := 0) kq
        have fq1 := f_of (o := 1) kq
        have fq2 := f_of (o := 2) kq
        have hset := set3_block Wa W1.heap.size (.slice am m.length cm) (.slice (some ⟨gq, 0, none⟩) us.length cap) (.bool f) kq
        go_simp
        obtain ⟨Wf, hWf⟩ : ∃ Wf, Wf = (((Wa.setCell ⟨W1.heap.size, 0, none⟩ (.slice am m.length cm)).setCell ⟨W1.heap.size, 1, none⟩ (.slice (some ⟨gq, 0, none⟩) us.length cap)).setCell ⟨W1.heap.size, 2, none⟩ (.bool f)) := ⟨_, rfl⟩
        rw [← hWf] at hset ⊢
        have HQ : Qu w4 Wf am m.length cm f us W1.heap.size gq cap cur := ⟨(((hdr.trans (hb1.mono (by have := hdr.size; omega))).trans (hb2.mono (by have := hdr.size; omega))).trans (hba.mono (by have := hdr.size; omega))).trans (hset.2.1.mono (by have := hdr.size; omega)), hset.1, (hset.2.2 _ (by omega)).trans hka, hta, hsa, hca, by have := hdr.size; omega, by have := hdr.size; omega, by omega⟩
        have hSf : Wf.cell? ⟨w.heap.size + 1, 0, none⟩ = some (.slice am m.length cm) ∧ Wf.cell? ⟨w.heap.size + 1, 1, none⟩ = some (.slice (some ⟨b, off, none⟩) us.length cu) ∧ Wf.cell? ⟨w.heap.size + 1, 2, none⟩ = some (.bool f) := ⟨far_keep hset.2.2 (by have := hgr.size; omega) hS0.1, far_keep hset.2.2 (by have := hgr.size; omega) hS0.2.1, far_keep hset.2.2 (by have := hgr.size; omega) hS0.2.2⟩
        refine hK _ _ (fun _ => hSf) ?_
        clear hK K
        try simp only [Act.put, List.getElem_toArray, List.getElem_cons_succ, List.getElem_cons_zero, List.setIfInBounds_toArray, List.set_cons_zero, List.set_cons_succ]
        refine wpAnyE.done (by kernel_rfl) ?_
        go_wp2_with fail
        go_meet
        exact ⟨_, _, _, _, rfl, HQ⟩
    · go_simp
      obtain ⟨W1, hW1⟩ : ∃ W1, W1 = W0.alloc (.cells #[.slice none 0 0, .slice none 0 0, .bool false] 26) := ⟨_, rfl⟩
      have hb1 : Below W0.heap.size W0 W1 := by rw [hW1]; exact below_alloc _ _
      have kW1 : W1.heap[W0.heap.size]? = some (.cells #[.slice none 0 0, .slice none 0 0, .bool false] 26) := by rw [hW1]; exact heap_alloc_new W0 _
      have sW1 : W0.heap.size < W1.heap.size := by rw [hW1]; simp
      rw [← hW1]
      clear hW1
      have hSn : W1.cell? ⟨w.heap.size + 1, 0, none⟩ = some (.slice am m.length cm) ∧ W1.cell? ⟨w.heap.size + 1, 1, none⟩ = some (.slice (some ⟨b, off, none⟩) us.length cu) ∧ W1.cell? ⟨w.heap.size + 1, 2, none⟩ = some (.bool f) := ⟨cell_keep hb1 (by omega) hS0.1, cell_keep hb1 (by omega) hS0.2.1, cell_keep hb1 (by omega) hS0.2.2⟩
      have hUn : ∀ k (hk : k < us.length), UpAt W1 b (off + k * 3) us[k] := fun k hk => ⟨cell_keep hb1 (by omega) (hU0 k hk).1, cell_keep hb1 (by omega) (hU0 k hk).2.1, cell_keep hb1 (by omega) (hU0 k hk).2.2⟩
      clear hS0 hU0
      have hS0 := hSn
      have hU0 := hUn
      clear hSn hUn
      refine hK _ _ (fun _ => hS0) ?_
      clear hK K
      try simp only [Act.put, List.getElem_toArray, List.getElem_cons_succ, List.getElem_cons_zero, List.setIfInBounds_toArray, List.set_cons_zero, List.set_cons_succ]
      refine wpAnyE.one (i := 2) (by kernel_rfl) rfl (fun K hK => ?_)
      go_simp
      obtain ⟨W2, hW2⟩ : ∃ W2, W2 = W1.alloc (.cells #[] 45) := ⟨_, rfl⟩
      have hb2 : Below W1.heap.size W1 W2 := by rw [hW2]; exact below_alloc _ _
      have kW2 : W2.heap[W1.heap.size]? = some (.cells #[] 45) := by rw [hW2]; exact heap_alloc_new W1 _
      have sW2 : W1.heap.size < W2.heap.size := by rw [hW2]; simp
      rw [← hW2]
      clear hW2
      have hSn : W2.cell? ⟨w.heap.size + 1, 0, none⟩ = some (.slice am m.length cm) ∧ W2.cell? ⟨w.heap.size + 1, 1, none⟩ = some (.slice (some ⟨b, off, none⟩) us.length cu) ∧ W2.cell? ⟨w.heap.size + 1, 2, none⟩ = some (.bool f) := ⟨cell_keep hb2 (by omega) hS0.1, cell_keep hb2 (by omega) hS0.2.1, cell_keep hb2 (by omega) hS0.2.2⟩
      have hUn : ∀ k (hk : k < us.length), UpAt W2 b (off + k * 3) us[k] := fun k hk => ⟨cell_keep hb2 (by omega) (hU0 k hk).1, cell_keep hb2 (by omega) (hU0 k hk).2.1, cell_keep hb2 (by omega) (hU0 k hk).2.2⟩
      clear hS0 hU0
      have hS0 := hSn
      have hU0 := hUn
      clear hSn hUn
      have kz := (hb2.block _ (heap_lt kW1)).trans kW1
      refine hK _ _ (fun _ => hS0) ?_
      clear hK K
      try simp only [Act.put, List.getElem_toArray, List.getElem_cons_succ, List.getElem_cons_zero, List.setIfInBounds_toArray, List.set_cons_zero, List.set_cons_succ]
      refine wpAnyE.one (i := 5) (by kernel_rfl) rfl (fun K hK => ?_)
      obtain ⟨gq, cap, cur, Wa, hra, hca, hga, hka, hta, hsa, hgr⟩ := app_ups W2 24 W1.heap.size b off cu us kW2 hU0 hu4 hu1
      refine step_append_t (by rfl) (.tmp 52) (.tmp 54) (by rfl) _ _ (by rfl) (by rfl) hra ?_
      have hba : Below W1.heap.size W2 Wa := ⟨hgr.os, hgr.tape, hgr.output, hgr.size, fun k hk => hgr.block k (by have := heap_lt kW2; omega) (fun e => by simp at e; omega)⟩
      have hSn : Wa.cell? ⟨w.heap.size + 1, 0, none⟩ = some (.slice am m.length cm) ∧ Wa.cell? ⟨w.heap.size + 1, 1, none⟩ = some (.slice (some ⟨b, off, none⟩) us.length cu) ∧ Wa.cell? ⟨w.heap.size + 1, 2, none⟩ = some (.bool f) := ⟨cell_keep hba (by omega) hS0.1, cell_keep hba (by omega) hS0.2.1, cell_keep hba (by omega) hS0.2.2⟩
      clear hS0 hU0
      have hS0 := hSn
      clear hSn hra
      have kq := (hgr.block W0.heap.size (heap_lt kz) (fun e => by simp at e; omega)).trans kz
      refine hK _ _ (fun _ => hS0) ?_
      clear hK K
      try simp only [Act.put, List.getElem_toArray, List.getElem_cons_succ, List.getElem_cons_zero, List.setIfInBounds_toArray, List.set_cons_zero, List.set_cons_succ]
      refine wpAnyE.take (i := 8) (v := ?_) rfl (by kernel_rfl) (by kernel_rfl) (by kernel_rfl) (by kernel_rfl) (fun _ _ _ h => h) (Or.inl ⟨by rfl, ?_⟩) (by assumption) ?_
      rotate_left
      · intro w hSw; obtain ⟨z0, z1, z2⟩ := hSw; go_simp; with_reducible rfl
      try simp only [Act.put, List.getElem_toArray, List.getElem_cons_succ, List.getElem_cons_zero, List.setIfInBounds_toArray, List.set_cons_zero, List.set_cons_succ]
      refine wpAnyE.one (i := 10) (by kernel_rfl) rfl (fun K hK => ?_)
      obtain ⟨cq0, cq1, cq2⟩ := c3_of kq
      have fq0 := f_of (o := 0) kq
      have fq1 := f_of (o := 1) kq
      have fq2 := f_of (o := 2) kq
      have hset := set3_block Wa W0.heap.size (.slice am m.length cm) (.slice (some ⟨gq, 0, none⟩) us.length cap) (.bool f) kq
      go_simp
      obtain ⟨Wf, hWf⟩ : ∃ Wf, Wf = (((Wa.setCell ⟨W0.heap.size, 0, none⟩ (.slice am m.length cm)).setCell ⟨W0.heap.size, 1, none⟩ (.slice (some ⟨gq, 0, none⟩) us.length cap)).setCell ⟨W0.heap.size, 2, none⟩ (.bool f)) := ⟨_, rfl⟩
      rw [← hWf] at hset ⊢
      have HQ : Qu w4 Wf am m.length cm f us W0.heap.size gq cap cur := ⟨(((hdr.trans (hb1.mono (by have := hdr.size; omega))).trans (hb2.mono (by have := hdr.size; omega))).trans (hba.mono (by have := hdr.size; omega))).trans (hset.2.1.mono (by have := hdr.size; omega)), hset.1, (hset.2.2 _ (by omega)).trans hka, hta, hsa, hca, by have := hdr.size; omega, by have := hdr.size; omega, by omega⟩
      have hSf : Wf.cell? ⟨w.heap.size + 1, 0, none⟩ = some (.slice am m.length cm) ∧ Wf.cell? ⟨w.heap.size + 1, 1, none⟩ = some (.slice (some ⟨b, off, none⟩) us.length cu) ∧ Wf.cell? ⟨w.heap.size + 1, 2, none⟩ = some (.bool f) := ⟨far_keep hset.2.2 (by have := hgr.size; omega) hS0.1, far_keep hset.2.2 (by have := hgr.size; omega) hS0.2.1, far_keep hset.2.2 (by have := hgr.size; omega) hS0.2.2⟩
      refine hK _ _ (fun _ => hSf) ?_
      clear hK K
      try simp only [Act.put, List.getElem_toArray, List.getElem_cons_succ, List.getElem_cons_zero, List.setIfInBounds_toArray, List.set_cons_zero, List.set_cons_succ]
      refine wpAnyE.done (by kernel_rfl) ?_
      go_wp2_with fail
      go_meet
      exact ⟨_, _, _, _, rfl, HQ⟩
  case rest =>
    obtain ⟨q, gq, cap, cur, rfl, Q⟩ := hcut
    have hBc := hB4.trans (Q.hb.mono hB4.size)
    have hk1c := (Q.hb.block _ (heap_lt hk14)).trans hk14
    have hqw : w.heap.size < q := Nat.lt_of_lt_of_le (heap_lt hk14) Q.q1
    have hgw : w.heap.size < gq := Nat.lt_of_lt_of_le (heap_lt hk14) Q.g1
    have HCall : Hid (∀ (vs : List Up) (W : World), vs.Perm us → Below w.heap.size w W → HoldsU W (some ⟨gq, 0, none⟩) vs → Calls Tryz.prog 19 #[replV aS s.length cs al l.length cl g ph a1 n1 c1 a2 n2 c2 f0, pushV am m.length cm (some ⟨gq, 0, none⟩) us.length cap f] W fun e w' => e = .returned (.tuple #[.string (voteS s l g m vs f), .int .i64 0]) ∧ Below W.heap.size W w') := fun vs W hp hb hv => by
      have h := of_any aS cs s al cl l g ph a1 n1 c1 a2 n2 c2 f0 am cm m (some ⟨gq, 0, none⟩) cap vs f W (hg.below hb) (ht.below hb) (hs.below hb) hsl (hl.below hb) hll (hm.below hb) hml hv (by rw [hp.length_eq]; exact hul)
      rw [voteE_iff.2 ⟨push_perm hp HP.out.1, HP.out.2⟩, hp.length_eq] at h
      exact h
    have HSame : Hid (∀ vs : List Up, vs.Perm us → voteS s l g m vs f = T) := fun vs hp => by
      rw [HY.out, vote_yes (voteE_iff.2 ⟨push_perm hp HP.out.1, HP.out.2⟩) (try_perm hp hz), text_perm hp (pushE_iff.1 HP.out.1).2.2]
    have qt : (T.toList == T.toList) = true := by simp
    have hUc := holdsU_cur Q.hu Q.ht
    have hkq := Q.hq
    have hku := Q.hu
    obtain ⟨rr, hcur⟩ := cur_of Q.ht
    have hgq := Q.ne
    have hcap := Q.hc
    clear Q hk14 hk24 hB4 hs hl hm hcu hu HT HV HP HY hpre hsz hle hle2 hg ht
    obtain ⟨ua, ub, uc, ud, rfl⟩ : ∃ ua ub uc ud, us = [ua, ub, uc, ud] := by
      match us, HLn.out with
      | [ua, ub, uc, ud], _ => exact ⟨ua, ub, uc, ud, rfl⟩
    obtain ⟨q0, q1, q2⟩ := c3_of hkq
    simp only [List.length_cons, List.length_nil, Nat.zero_add, Nat.reduceAdd] at *
    have hcu0 := fun j (hj : j < 4) => hcell3 hku hcur j hj
    obtain ⟨e0, e1, e2⟩ := hcu0 0 (by omega)
    obtain ⟨g0, g1, g2⟩ := hcu0 3 (by omega)
    simp only [Nat.zero_add, Nat.zero_mul, Nat.reduceMul, Nat.reduceAdd, List.getElem_cons_zero, List.getElem_cons_succ] at e0 e1 e2 g0 g1 g2
    have fr0 := f_of (o := 0) hku
    have fr1 := f_of (o := 1) hku
    have fr2 := f_of (o := 2) hku
    have fr9 := f_of (o := 9) hku
    have fr10 := f_of (o := 10) hku
    have fr11 := f_of (o := 11) hku
    obtain ⟨kg, hB6, hoth⟩ := six_block wc gq 9 10 11 cur (.string ud.name) (.int .i64 ud.old) (.int .i64 ud.new) (.string ua.name) (.int .i64 ua.old) (.int .i64 ua.new) hku
    have hUs : HoldsU (((((((wc.setCell ⟨gq, 0, none⟩ (.string ud.name)).setCell ⟨gq, 1, none⟩ (.int .i64 ud.old)).setCell ⟨gq, 2, none⟩ (.int .i64 ud.new)).setCell ⟨gq, 9, none⟩ (.string ua.name)).setCell ⟨gq, 10, none⟩ (.int .i64 ua.old)).setCell ⟨gq, 11, none⟩ (.int .i64 ua.new)).drew) (some ⟨gq, 0, none⟩) [ud, ub, uc, ua] := (holdsU_cur (w := ((((((wc.setCell ⟨gq, 0, none⟩ (.string ud.name)).setCell ⟨gq, 1, none⟩ (.int .i64 ud.old)).setCell ⟨gq, 2, none⟩ (.int .i64 ud.new)).setCell ⟨gq, 9, none⟩ (.string ua.name)).setCell ⟨gq, 10, none⟩ (.int .i64 ua.old)).setCell ⟨gq, 11, none⟩ (.int .i64 ua.new))) kg (by rw [hcur]; exact swap_row4 ua ub uc ud rr)).below ((Below.refl _ _).drew)
    have hBs : Below w.heap.size w (((((((wc.setCell ⟨gq, 0, none⟩ (.string ud.name)).setCell ⟨gq, 1, none⟩ (.int .i64 ud.old)).setCell ⟨gq, 2, none⟩ (.int .i64 ud.new)).setCell ⟨gq, 9, none⟩ (.string ua.name)).setCell ⟨gq, 10, none⟩ (.int .i64 ua.old)).setCell ⟨gq, 11, none⟩ (.int .i64 ua.new)).drew) := hBc.trans ((hB6.mono (Nat.le_of_lt hgw)).trans ((Below.refl _ _).drew))
    have hkq5 := (hoth q (Ne.symm hgq)).trans hkq
    have hkqs := (((Below.refl ((((((wc.setCell ⟨gq, 0, none⟩ (.string ud.name)).setCell ⟨gq, 1, none⟩ (.int .i64 ud.old)).setCell ⟨gq, 2, none⟩ (.int .i64 ud.new)).setCell ⟨gq, 9, none⟩ (.string ua.name)).setCell ⟨gq, 10, none⟩ (.int .i64 ua.old)).setCell ⟨gq, 11, none⟩ (.int .i64 ua.new)).heap.size ((((((wc.setCell ⟨gq, 0, none⟩ (.string ud.name)).setCell ⟨gq, 1, none⟩ (.int .i64 ud.old)).setCell ⟨gq, 2, none⟩ (.int .i64 ud.new)).setCell ⟨gq, 9, none⟩ (.string ua.name)).setCell ⟨gq, 10, none⟩ (.int .i64 ua.old)).setCell ⟨gq, 11, none⟩ (.int .i64 ua.new))).drew).block q (heap_lt hkq5)).trans hkq5
    have hk15 := (hoth w.heap.size (by omega)).trans hk1c
    have hk1s := (((Below.refl ((((((wc.setCell ⟨gq, 0, none⟩ (.string ud.name)).setCell ⟨gq, 1, none⟩ (.int .i64 ud.old)).setCell ⟨gq, 2, none⟩ (.int .i64 ud.new)).setCell ⟨gq, 9, none⟩ (.string ua.name)).setCell ⟨gq, 10, none⟩ (.int .i64 ua.old)).setCell ⟨gq, 11, none⟩ (.int .i64 ua.new)).heap.size ((((((wc.setCell ⟨gq, 0, none⟩ (.string ud.name)).setCell ⟨gq, 1, none⟩ (.int .i64 ud.old)).setCell ⟨gq, 2, none⟩ (.int .i64 ud.new)).setCell ⟨gq, 9, none⟩ (.string ua.name)).setCell ⟨gq, 10, none⟩ (.int .i64 ua.old)).setCell ⟨gq, 11, none⟩ (.int .i64 ua.new))).drew).block w.heap.size (heap_lt hk15)).trans hk15
    have HP2 : Hid (([ud, ub, uc, ua] : List Up).Perm [ua, ub, uc, ud]) := swapE_perm [ua, ub, uc, ud]
    have HBun : Hid (_ ∧ _ ∧ _ ∧ _) := ⟨hUs, hBs, hkqs, hk1s⟩
    clear hUs hBs hkqs hk1s hkq5 hk15 hoth hB6 kg hcur hcu0 hkq hku hk1c hBc hUc
    go_upto_region 12 with fail
    go_region
    obtain ⟨hUs, hBs, hkqs, hk1s⟩ := HBun.out
    clear HBun
    generalize ((((((wc.setCell ⟨gq, 0, none⟩ (.string ud.name)).setCell ⟨gq, 1, none⟩ (.int .i64 ud.old)).setCell ⟨gq, 2, none⟩ (.int .i64 ud.new)).setCell ⟨gq, 9, none⟩ (.string ua.name)).setCell ⟨gq, 10, none⟩ (.int .i64 ua.old)).setCell ⟨gq, 11, none⟩ (.int .i64 ua.new)).drew = Ws at *
    clear q0 q1 q2 e0 e1 e2 g0 g1 g2 fr0 fr1 fr2 fr9 fr10 fr11
    have hcl := HCall.out [ud, ub, uc, ua] Ws HP2.out hBs hUs
    skip
    obtain ⟨q0, q1, q2⟩ := c3_of hkqs
    obtain ⟨r0, r1, r2, r3, r4, r5, r6⟩ := c7_of hk1s
    go_wp2_with fail
    refine hcl.mono ?_
    clear hcl
    rintro e w6 ⟨rfl, hb6⟩
    have hB7 := hBs.trans (hb6.mono hBs.size)
    rw [HSame.out [ud, ub, uc, ua] HP2.out]
    clear hb6 q0 q1 q2 r0 r1 r2 r3 r4 r5 r6
    go_wp2
    go_ret
    exact ⟨rfl, hB7⟩
end

section
open Go.RowKit
theorem voteSame_any (aS : Option Addr) (cs : Nat) (s : List Ob) (al : Option Addr) (cl : Nat) (l : List Rf) (g ph : Int) (a1 : Option Addr) (n1 c1 : Nat) (a2 : Option Addr) (n2 c2 : Nat) (f0 : Bool) (am : Option Addr) (cm : Nat) (m : List Ob) (au : Option Addr) (cu : Nat) (us : List Up) (f turned : Bool) (w : World) (hg : Glob w) (ht : Tab w)
    (hs : HoldsS w aS s) (hsl : s.length ≤ 9223372036854775807) (hl : HoldsR w al l) (hll : l.length ≤ 9223372036854775807) (hm : HoldsS w am m) (hml : m.length ≤ 9223372036854775807) (hu : HoldsU w au us) (hul : us.length ≤ 9223372036854775807) :
    Calls Tryz.prog 6 #[replV aS s.length cs al l.length cl g ph a1 n1 c1 a2 n2 c2 f0, pushV am m.length cm au us.length cu f, .bool turned] w fun e w' => e = .returned (.bool true) ∧ Below w.heap.size w w' := by
  by_cases hv : voteE g m us = 0
  case neg => exact voteSame_bad aS cs s al cl l g ph a1 n1 c1 a2 n2 c2 f0 am cm m au cu us f turned w hg ht hs hsl hl hll hm hml hu hul hv
  have hc := (checkU_iff.1 (pushE_iff.1 (voteE_iff.1 hv).1).2.2)
  have h1 := hc.1
  have h4 := hc.2.1
  by_cases hA : turned = true → us.length = 1
  · by_cases hz : tryE s l m us f = 0
    · exact voteSame_yesA aS cs s al cl l g ph a1 n1 c1 a2 n2 c2 f0 am cm m au cu us f turned w hg ht hs hsl hl hll hm hml hu hul hv hz hA
    · exact voteSame_noA aS cs s al cl l g ph a1 n1 c1 a2 n2 c2 f0 am cm m au cu us f turned w hg ht hs hsl hl hll hm hml hu hul hv hz hA
  · have ht1 : turned = true := Classical.byContradiction fun e => hA (fun q => absurd q e)
    have hn1 : us.length ≠ 1 := fun e => hA (fun _ => e)
    subst ht1
    have : us.length = 2 ∨ us.length = 3 ∨ us.length = 4 := by omega
    by_cases hz : tryE s l m us f = 0
    · rcases this with e | e | e
      · exact voteSame_yes2 aS cs s al cl l g ph a1 n1 c1 a2 n2 c2 f0 am cm m au cu us f w hg ht hs hsl hl hll hm hml hu hul hv hz e
      · exact voteSame_yes3 aS cs s al cl l g ph a1 n1 c1 a2 n2 c2 f0 am cm m au cu us f w hg ht hs hsl hl hll hm hml hu hul hv hz e
      · exact voteSame_yes4 aS cs s al cl l g ph a1 n1 c1 a2 n2 c2 f0 am cm m au cu us f w hg ht hs hsl hl hll hm hml hu hul hv hz e
    · rcases this with e | e | e
      · exact voteSame_no2 aS cs s al cl l g ph a1 n1 c1 a2 n2 c2 f0 am cm m au cu us f w hg ht hs hsl hl hll hm hml hu hul hv hz e
      · exact voteSame_no3 aS cs s al cl l g ph a1 n1 c1 a2 n2 c2 f0 am cm m au cu us f w hg ht hs hsl hl hll hm hml hu hul hv hz e
      · exact voteSame_no4 aS cs s al cl l g ph a1 n1 c1 a2 n2 c2 f0 am cm m au cu us f w hg ht hs hsl hl hll hm hml hu hul hv hz e
end
end Go.Proofs.YtgkmoehbjdmefaaGreatDoor
