import Derived.Test.YtehmlpkapjdhkaaGreatDoorMY4
namespace Go.Proofs.YtehmlpkapjdhkaaGreatDoor
open Go.RowKit
set_option maxRecDepth 100000

theorem addrU {w : World} {a : Option Addr} {l : List Up} (h : HoldsU w a l) (hl : 0 < l.length) : ∃ b off, a = some ⟨b, off, none⟩ := by
  obtain ⟨b, off, e, _⟩ := h 0 hl
  exact ⟨b, off, e⟩
theorem HoldsU.at {w : World} {b off : Nat} {l : List Up} (h : HoldsU w (some ⟨b, off, none⟩) l) {k : Nat} (hk : k < l.length) : UpAt w b (off + k * 3) l[k] := by
  obtain ⟨b', off', e, _, hc⟩ := h k hk
  cases e; exact hc k hk

set_option maxHeartbeats 16000000 in
theorem clusterSafe_any (a : Option Addr) (c : Nat) (l : List Rq) (am : Option Addr) (cm : Nat) (m : List Ob) (au : Option Addr) (cu : Nat) (us : List Up) (f : Bool) (up late : Int) (w : World) (hg : Glob w) (ht : Tab w) (h : HoldsQ w a l) (hlc : l.length ≤ c) (hcm : c ≤ 9223372036854775807) (hm : HoldsS w am m) (hml : m.length ≤ 9223372036854775807) (hu : HoldsU w au us) (hul : us.length ≤ 9223372036854775807) :
    Calls Tryz.prog 3 #[.agg #[.slice a l.length c], pushV am m.length cm au us.length cu f, .int .i64 up, .int .i64 late] w fun e w' => e = .returned (.bool true) ∧ Below w.heap.size w w' := by
  have hA := below_alloc2 w (.cells #[.slice a l.length c] 24) (.cells #[.slice am m.length cm, .slice au us.length cu, .bool f] 28)
  obtain ⟨k4, k5⟩ := two_blocks w (.cells #[.slice a l.length c] 24) (.cells #[.slice am m.length cm, .slice au us.length cu, .bool f] 28)
  have y4 := c1_of k4
  obtain ⟨y5, y6, y7⟩ := c3_of k5
  have hpu := push_any a c l am cm m au cu us f up late _ (hg.below hA) (ht.below hA) (h.below hA) hlc hcm (hm.below hA) hml (hu.below hA) hul
  go_enter Tryz.func3, Tryz.ntmps3
  go_wp2_with fail
  generalize (w.alloc (.cells #[.slice a l.length c] 24)).alloc (.cells #[.slice am m.length cm, .slice au us.length cu, .bool f] 28) = W0 at *
  refine hpu.mono ?_
  clear hpu y4 y5 y6 y7
  rintro e W1 ⟨hb1, hpost⟩
  have hB1 := hA.trans (hb1.mono hA.size)
  have k41 := (hb1.block _ (heap_lt k4)).trans k4
  have k51 := (hb1.block _ (heap_lt k5)).trans k5
  clear hb1 hA k4 k5
  rcases hpost with ⟨hne, rfl⟩ | ⟨hz, B, cap, qa, rfl, hMA, hDA, hca, hcb⟩
  · have hA := below_alloc W1 (.cells #[.slice none 0 0] 24)
    have ka := heap_alloc_new W1 (.cells #[.slice none 0 0] 24)
    have hB2 := hB1.trans (hA.mono hB1.size)
    have q1 : (pE (l.map Rq.r) m us f up late != 0) = true := by simpa using hne
    clear hne k41 k51 hA hB1
    go_wp2_with fail
    generalize W1.alloc (.cells #[.slice none 0 0] 24) = W2 at *
    refine (clusterBegun_any W2 (hg.below hB2) (ht.below hB2)).mono ?_
    rintro e W3 ⟨rfl, hb3⟩
    have hB3 := hB2.trans (hb3.mono hB2.size)
    have ka3 := c1_of ((hb3.block _ (heap_lt ka)).trans ka)
    clear hB2 hb3 ka
    generalize pE (l.map Rq.r) m us f up late = E at *
    go_wp2
    go_ret
    exact ⟨rfl, hB3⟩
  have HP : Hid (Pushed (l.map Rq.r) m us f up late) := pushed hz
  have hl3 : l.length = 3 := by have := HP.out.len; simpa using this
  have hqa : qa.length = 3 := rOf_len hMA rfl
  have HMA : Hid (qa.map Rq.r = eL (l.map Rq.r) m us f up late) := hMA
  have HC : Hid (checkC (qa.map Rq.r) = 0) := by unfold Hid; rw [hMA]; exact HP.out.right
  have HX : Hid (∀ i (hi : i < qa.length), qa[i].r = eI (l.map Rq.r) m us f up late i) := fun i hi => by rw [rOf_q hMA hi]; exact rOf_eL (by omega)
  have HY : Hid (∀ i (hi : i < l.length), l[i].r = rOf (l.map Rq.r) i) := fun i hi => rOf_q rfl hi
  obtain ⟨dn, HDN⟩ : ∃ dn, Hid (doI (l.map Rq.r) m us f up late = dn) := ⟨_, rfl⟩
  rw [HDN.out]
  obtain ⟨al, ol, rfl⟩ := h.some (by omega)
  rw [hl3] at k41
  rw [hl3]
  have hlc3 : 3 ≤ c := by omega
  clear hz hMA hlc
  have hA_1 := below_alloc W1 (.cells #[.slice (some ⟨B, 0, none⟩) 3 cap] 24)
  have R_2 := heap_alloc_new W1 (.cells #[.slice (some ⟨B, 0, none⟩) 3 cap] 24)
  obtain ⟨p_3, p_3e⟩ : ∃ p, p = W1.heap.size := ⟨_, rfl⟩
  rw [← p_3e] at R_2
  have hB_4 := hB1.trans (hA_1.mono hB1.size)
  have C_5 := (hA_1.block _ (heap_lt k41)).trans k41
  have P_6 := (hA_1.block _ (heap_lt k51)).trans k51
  have QA_7 := hDA.below hA_1
  have hs_8 := hA_1.size
  clear k41 k51 hDA hA_1 hB1
  have Rc0 := c1_of R_2
  have hc_10 := clusterBegun_any _ (hg.below hB_4) (ht.below hB_4)
  go_wp2_with fail
  rw [← p_3e]
  clear p_3e
  generalize W1.alloc (.cells #[.slice (some ⟨B, 0, none⟩) 3 cap] 24) = W2 at *
  have hl_9 := heap_lt R_2
  refine hc_10.mono ?_
  clear hc_10
  rintro e W3 ⟨rfl, h3⟩
  have hB_11 := hB_4.trans (h3.mono hB_4.size)
  have C_12 := (h3.block _ (heap_lt C_5)).trans C_5
  have P_13 := (h3.block _ (heap_lt P_6)).trans P_6
  have R_14 := (h3.block _ (heap_lt R_2)).trans R_2
  have QA_15 := QA_7.below h3
  have hs_16 := h3.size
  clear C_5 P_6 R_2 QA_7 h3 hB_4 Rc0
  have Rc0 := c1_of R_14
  have Cc0 := c1_of C_12
  have hc_17 := checkC_any (some ⟨B, 0, none⟩) cap qa W3 (hg.below hB_11) QA_15.here (by omega) hcb
  rw [hqa, HC.out] at hc_17
  go_wp2_with fail
  refine hc_17.mono ?_
  clear hc_17
  rintro e W4 ⟨rfl, h4⟩
  have hB_18 := hB_11.trans (h4.mono hB_11.size)
  have C_19 := (h4.block _ (heap_lt C_12)).trans C_12
  have P_20 := (h4.block _ (heap_lt P_13)).trans P_13
  have R_21 := (h4.block _ (heap_lt R_14)).trans R_14
  have QA_22 := QA_15.below h4
  have hs_23 := h4.size
  clear C_12 P_13 R_14 QA_15 h4 hB_11 Rc0 Cc0
  have Rc0 := c1_of R_21
  have Cc0 := c1_of C_19
  go_wp2_with fail
  go_loopw [12, 13] (fun z i wr => ∃ k : Nat, i = .int .i64 k ∧ z = .int .i64 (cntTo (cI (l.map Rq.r) m us f up late) k : Nat) ∧ k ≤ 3 ∧ Below W4.heap.size W4 wr) (fun _ i _ => 3 - (intOf i).toNat)
  case atStart => exact ⟨0, rfl, rfl, Nat.zero_le _, Below.refl _ _⟩
  case round =>
    clear Rc0 Cc0
    obtain ⟨k, rfl, rfl, hk, hbr⟩ := hrel
    have hB_24 := hB_18.trans (hbr.mono hB_18.size)
    have C_25 := (hbr.block _ (heap_lt C_19)).trans C_19
    have P_26 := (hbr.block _ (heap_lt P_20)).trans P_20
    have R_27 := (hbr.block _ (heap_lt R_21)).trans R_21
    have QA_28 := QA_22.below hbr
    have hs_29 := hbr.size
    clear C_19 P_20 R_21 QA_22 hB_18
    have hcw : IntKind.i64.wrap ((cntTo (cI (l.map Rq.r) m us f up late) k : Nat) + 1 : Int) = (cntTo (cI (l.map Rq.r) m us f up late) k : Nat) + 1 := by have := cntTo_le (cI (l.map Rq.r) m us f up late) k; simp [IntKind.wrap, IntKind.bits, IntKind.signed]; omega
    by_cases hlt : k < 3
    · skip
      have hq1 : k < qa.length := by omega
      have hq2 : k < l.length := by omega
      have hlt' : (k : Int) < 3 := by omega
      have Rc0 := c1_of R_27
      have Cc0 := c1_of C_25
      go_upto_region 12 with fail
      clear Rc0 Cc0
      go_cut [14, 15] from 51 to 110 (fun s14 s15 wx => ∃ p q, s14 = .pointer (some ⟨p, 0, none⟩) ∧ s15 = .pointer (some ⟨q, 0, none⟩) ∧ wx.heap[p]? = some (.cells #[.slice qa[k].aS qa[k].r.s.length qa[k].cs, .slice qa[k].al qa[k].r.l.length qa[k].cl, .int .i64 qa[k].r.g, .int .i64 qa[k].r.ph, .slice qa[k].a1 qa[k].r.m.length qa[k].c1, .slice qa[k].a2 qa[k].r.us.length qa[k].c2, .bool qa[k].r.f] 36) ∧ wx.heap[q]? = some (.cells #[.slice l[k].aS l[k].r.s.length l[k].cs, .slice l[k].al l[k].r.l.length l[k].cl, .int .i64 l[k].r.g, .int .i64 l[k].r.ph, .slice l[k].a1 l[k].r.m.length l[k].c1, .slice l[k].a2 l[k].r.us.length l[k].c2, .bool l[k].r.f] 36) ∧ Below wr.heap.size wr wx)
      case first =>
        have hB0 := Below.refl wr.heap.size wr
        have hBw := hB_24
        have hL0 := h.below hBw
        have zC := heap_lt C_25
        have zR := heap_lt R_27
        have zP := heap_lt P_26
        have hd_30 := below_refl_drew wr
        have hB_31 := hB0.trans (hd_30.mono hB0.size)
        have C_32 := (hd_30.block _ (heap_lt C_25)).trans C_25
        have P_33 := (hd_30.block _ (heap_lt P_26)).trans P_26
        have R_34 := (hd_30.block _ (heap_lt R_27)).trans R_27
        have QA_35 := QA_28.below hd_30
        have hs_36 := hd_30.size
        clear C_25 P_26 R_27 QA_28 hd_30 hB0
        refine wp_region_E (fun W => (W.heap[p_3]? = some (.cells #[.slice (some ⟨B, 0, none⟩) 3 cap] 24)) ∧ (W.heap[w.heap.size]? = some (.cells #[.slice (some ⟨al, ol, none⟩) 3 c] 24)) ∧ (HoldsQ W (some ⟨B, 0, none⟩) qa) ∧ (HoldsQ W (some ⟨al, ol, none⟩) l)) (fun _ => false) (by kernel_rfl) ⟨R_34, C_32, QA_35.here, (hL0.below hB_31)⟩ (fun hS => ?_)
        clear hS
        generalize wr.drew = W_37 at *
        refine wpAnyE.take (i := 0) (v := ?_) rfl (by kernel_rfl) (by kernel_rfl) (by kernel_rfl) (by kernel_rfl) (fun _ _ _ h => h) (Or.inl ⟨by rfl, ?_⟩) ⟨R_34, C_32, QA_35.here, (hL0.below hB_31)⟩ ?_
        rotate_left
        · intro w hSw; obtain ⟨s1, s2, s3, s4⟩ := hSw; have e1 := c1_of s1; have e2 := c1_of s2; obtain ⟨x0, x1, x2, x3, x4, x5, x6⟩ := (s3.at hq1).1; obtain ⟨v0, v1, v2, v3, v4, v5, v6⟩ := (s4.at hq2).1; simp only [Nat.zero_add] at x0 x1 x2 x3 x4 x5 x6; clear s1 s2 s3 s4; go_simp; with_reducible rfl
        try simp only [Act.put, List.getElem_toArray, List.getElem_cons_zero, List.setIfInBounds_toArray, List.set_cons_zero, List.set_cons_succ]
        refine wpAnyE.take (i := 2) (v := ?_) rfl (by kernel_rfl) (by kernel_rfl) (by kernel_rfl) (by kernel_rfl) (fun _ _ _ h => h) (Or.inl ⟨by rfl, ?_⟩) ⟨R_34, C_32, QA_35.here, (hL0.below hB_31)⟩ ?_
        rotate_left
        · intro w hSw; obtain ⟨s1, s2, s3, s4⟩ := hSw; have e1 := c1_of s1; have e2 := c1_of s2; obtain ⟨x0, x1, x2, x3, x4, x5, x6⟩ := (s3.at hq1).1; obtain ⟨v0, v1, v2, v3, v4, v5, v6⟩ := (s4.at hq2).1; simp only [Nat.zero_add] at x0 x1 x2 x3 x4 x5 x6; clear s1 s2 s3 s4; go_simp; with_reducible rfl
        try simp only [Act.put, List.getElem_toArray, List.getElem_cons_succ, List.getElem_cons_zero, List.setIfInBounds_toArray, List.set_cons_zero, List.set_cons_succ]
        refine wpAnyE.take (i := 5) (v := ?_) rfl (by kernel_rfl) (by kernel_rfl) (by kernel_rfl) (by kernel_rfl) (fun _ _ _ h => h) (Or.inl ⟨by rfl, ?_⟩) ⟨R_34, C_32, QA_35.here, (hL0.below hB_31)⟩ ?_
        rotate_left
        · intro w hSw; obtain ⟨s1, s2, s3, s4⟩ := hSw; have e1 := c1_of s1; have e2 := c1_of s2; obtain ⟨x0, x1, x2, x3, x4, x5, x6⟩ := (s3.at hq1).1; obtain ⟨v0, v1, v2, v3, v4, v5, v6⟩ := (s4.at hq2).1; simp only [Nat.zero_add] at x0 x1 x2 x3 x4 x5 x6; clear s1 s2 s3 s4; go_simp; with_reducible rfl
        try simp only [Act.put, List.getElem_toArray, List.getElem_cons_succ, List.getElem_cons_zero, List.setIfInBounds_toArray, List.set_cons_zero, List.set_cons_succ]
        refine wpAnyE.take (i := 7) (v := ?_) rfl (by kernel_rfl) (by kernel_rfl) (by kernel_rfl) (by kernel_rfl) (fun _ _ _ h => h) (Or.inl ⟨by rfl, ?_⟩) ⟨R_34, C_32, QA_35.here, (hL0.below hB_31)⟩ ?_
        rotate_left
        · intro w hSw; obtain ⟨s1, s2, s3, s4⟩ := hSw; have e1 := c1_of s1; have e2 := c1_of s2; obtain ⟨x0, x1, x2, x3, x4, x5, x6⟩ := (s3.at hq1).1; obtain ⟨v0, v1, v2, v3, v4, v5, v6⟩ := (s4.at hq2).1; simp only [Nat.zero_add] at x0 x1 x2 x3 x4 x5 x6; clear s1 s2 s3 s4; go_simp; with_reducible rfl
        try simp only [Act.put, List.getElem_toArray, List.getElem_cons_succ, List.getElem_cons_zero, List.setIfInBounds_toArray, List.set_cons_zero, List.set_cons_succ]
        refine wpAnyE.take (i := 1) (v := ?_) rfl (by kernel_rfl) (by kernel_rfl) (by kernel_rfl) (by kernel_rfl) (fun _ _ _ h => h) (Or.inl ⟨by rfl, ?_⟩) ⟨R_34, C_32, QA_35.here, (hL0.below hB_31)⟩ ?_
        rotate_left
        · intro w hSw; obtain ⟨s1, s2, s3, s4⟩ := hSw; have e1 := c1_of s1; have e2 := c1_of s2; obtain ⟨x0, x1, x2, x3, x4, x5, x6⟩ := (s3.at hq1).1; obtain ⟨v0, v1, v2, v3, v4, v5, v6⟩ := (s4.at hq2).1; simp only [Nat.zero_add] at x0 x1 x2 x3 x4 x5 x6; clear s1 s2 s3 s4; go_simp; with_reducible rfl
        try simp only [Act.put, List.getElem_toArray, List.getElem_cons_succ, List.getElem_cons_zero, List.setIfInBounds_toArray, List.set_cons_zero, List.set_cons_succ]
        refine wpAnyE.take (i := 6) (v := ?_) rfl (by kernel_rfl) (by kernel_rfl) (by kernel_rfl) (by kernel_rfl) (fun _ _ _ h => h) (Or.inl ⟨by rfl, ?_⟩) ⟨R_34, C_32, QA_35.here, (hL0.below hB_31)⟩ ?_
        rotate_left
        · intro w hSw; obtain ⟨s1, s2, s3, s4⟩ := hSw; have e1 := c1_of s1; have e2 := c1_of s2; obtain ⟨x0, x1, x2, x3, x4, x5, x6⟩ := (s3.at hq1).1; obtain ⟨v0, v1, v2, v3, v4, v5, v6⟩ := (s4.at hq2).1; simp only [Nat.zero_add] at x0 x1 x2 x3 x4 x5 x6; clear s1 s2 s3 s4; go_simp; with_reducible rfl
        try simp only [Act.put, List.getElem_toArray, List.getElem_cons_succ, List.getElem_cons_zero, List.setIfInBounds_toArray, List.set_cons_zero, List.set_cons_succ]
        refine wpAnyE.take (i := 3) (v := ?_) rfl (by kernel_rfl) (by kernel_rfl) (by kernel_rfl) (by kernel_rfl) (fun _ _ _ h => h) (Or.inl ⟨by rfl, ?_⟩) ⟨R_34, C_32, QA_35.here, (hL0.below hB_31)⟩ ?_
        rotate_left
        · intro w hSw; obtain ⟨s1, s2, s3, s4⟩ := hSw; have e1 := c1_of s1; have e2 := c1_of s2; obtain ⟨x0, x1, x2, x3, x4, x5, x6⟩ := (s3.at hq1).1; obtain ⟨v0, v1, v2, v3, v4, v5, v6⟩ := (s4.at hq2).1; simp only [Nat.zero_add] at x0 x1 x2 x3 x4 x5 x6; clear s1 s2 s3 s4; go_simp; with_reducible rfl
        try simp only [Act.put, List.getElem_toArray, List.getElem_cons_succ, List.getElem_cons_zero, List.setIfInBounds_toArray, List.set_cons_zero, List.set_cons_succ]
        refine wpAnyE.take (i := 8) (v := ?_) rfl (by kernel_rfl) (by kernel_rfl) (by kernel_rfl) (by kernel_rfl) (fun _ _ _ h => h) (Or.inl ⟨by rfl, ?_⟩) ⟨R_34, C_32, QA_35.here, (hL0.below hB_31)⟩ ?_
        rotate_left
        · intro w hSw; obtain ⟨s1, s2, s3, s4⟩ := hSw; have e1 := c1_of s1; have e2 := c1_of s2; obtain ⟨x0, x1, x2, x3, x4, x5, x6⟩ := (s3.at hq1).1; obtain ⟨v0, v1, v2, v3, v4, v5, v6⟩ := (s4.at hq2).1; simp only [Nat.zero_add] at x0 x1 x2 x3 x4 x5 x6; clear s1 s2 s3 s4; go_simp; with_reducible rfl
        try simp only [Act.put, List.getElem_toArray, List.getElem_cons_succ, List.getElem_cons_zero, List.setIfInBounds_toArray, List.set_cons_zero, List.set_cons_succ]
        refine wpAnyE.take (i := 4) (v := ?_) rfl (by kernel_rfl) (by kernel_rfl) (by kernel_rfl) (by kernel_rfl) (fun _ _ _ h => h) (Or.inl ⟨by rfl, ?_⟩) ⟨R_34, C_32, QA_35.here, (hL0.below hB_31)⟩ ?_
        rotate_left
        · intro w hSw; obtain ⟨s1, s2, s3, s4⟩ := hSw; have e1 := c1_of s1; have e2 := c1_of s2; obtain ⟨x0, x1, x2, x3, x4, x5, x6⟩ := (s3.at hq1).1; obtain ⟨v0, v1, v2, v3, v4, v5, v6⟩ := (s4.at hq2).1; simp only [Nat.zero_add] at x0 x1 x2 x3 x4 x5 x6; clear s1 s2 s3 s4; go_simp; with_reducible rfl
        try simp only [Act.put, List.getElem_toArray, List.getElem_cons_succ, List.getElem_cons_zero, List.setIfInBounds_toArray, List.set_cons_zero, List.set_cons_succ]
        refine wpAnyE.take (i := 9) (v := ?_) rfl (by kernel_rfl) (by kernel_rfl) (by kernel_rfl) (by kernel_rfl) (fun _ _ _ h => h) (Or.inl ⟨by rfl, ?_⟩) ⟨R_34, C_32, QA_35.here, (hL0.below hB_31)⟩ ?_
        rotate_left
        · intro w hSw; obtain ⟨s1, s2, s3, s4⟩ := hSw; have e1 := c1_of s1; have e2 := c1_of s2; obtain ⟨x0, x1, x2, x3, x4, x5, x6⟩ := (s3.at hq1).1; obtain ⟨v0, v1, v2, v3, v4, v5, v6⟩ := (s4.at hq2).1; simp only [Nat.zero_add] at x0 x1 x2 x3 x4 x5 x6; clear s1 s2 s3 s4; go_simp; with_reducible rfl
        try simp only [Act.put, List.getElem_toArray, List.getElem_cons_succ, List.getElem_cons_zero, List.setIfInBounds_toArray, List.set_cons_zero, List.set_cons_succ]
        refine wpAnyE.two (i := 10) (j := 11) (by kernel_rfl) rfl rfl (fun K hK => ?_) (fun K hK => ?_)
        · skip
          go_simp
          have hA_38 := below_alloc W_37 (.cells #[.slice none 0 0, .slice none 0 0, .int .i64 0, .int .i64 0, .slice none 0 0, .slice none 0 0, .bool false] 36)
          have x_39 := heap_alloc_new W_37 (.cells #[.slice none 0 0, .slice none 0 0, .int .i64 0, .int .i64 0, .slice none 0 0, .slice none 0 0, .bool false] 36)
          have hz_41 : W_37.heap.size < (W_37.alloc (.cells #[.slice none 0 0, .slice none 0 0, .int .i64 0, .int .i64 0, .slice none 0 0, .slice none 0 0, .bool false] 36)).heap.size := by simp
          generalize W_37.alloc (.cells #[.slice none 0 0, .slice none 0 0, .int .i64 0, .int .i64 0, .slice none 0 0, .slice none 0 0, .bool false] 36) = W_40 at *
          have hB_42 := hB_31.trans (hA_38.mono hB_31.size)
          have C_43 := (hA_38.block _ (heap_lt C_32)).trans C_32
          have P_44 := (hA_38.block _ (heap_lt P_33)).trans P_33
          have R_45 := (hA_38.block _ (heap_lt R_34)).trans R_34
          have QA_46 := QA_35.below hA_38
          have hs_47 := hA_38.size
          clear C_32 P_33 R_34 QA_35 hA_38 hB_31
          refine hK _ _ (fun _ => ⟨R_45, C_43, QA_46.here, (hL0.below hB_42)⟩) ?_
          clear hK K
          try simp only [Act.put, List.getElem_toArray, List.getElem_cons_succ, List.getElem_cons_zero, List.setIfInBounds_toArray, List.set_cons_zero, List.set_cons_succ]
          refine wpAnyE.one (i := 11) (by kernel_rfl) rfl (fun K hK => ?_)
          go_simp
          have hA_48 := below_alloc W_40 (.cells #[.slice none 0 0, .slice none 0 0, .int .i64 0, .int .i64 0, .slice none 0 0, .slice none 0 0, .bool false] 36)
          have y_49 := heap_alloc_new W_40 (.cells #[.slice none 0 0, .slice none 0 0, .int .i64 0, .int .i64 0, .slice none 0 0, .slice none 0 0, .bool false] 36)
          have hz_51 : W_40.heap.size < (W_40.alloc (.cells #[.slice none 0 0, .slice none 0 0, .int .i64 0, .int .i64 0, .slice none 0 0, .slice none 0 0, .bool false] 36)).heap.size := by simp
          generalize W_40.alloc (.cells #[.slice none 0 0, .slice none 0 0, .int .i64 0, .int .i64 0, .slice none 0 0, .slice none 0 0, .bool false] 36) = W_50 at *
          have hB_52 := hB_42.trans (hA_48.mono hB_42.size)
          have C_53 := (hA_48.block _ (heap_lt C_43)).trans C_43
          have P_54 := (hA_48.block _ (heap_lt P_44)).trans P_44
          have R_55 := (hA_48.block _ (heap_lt R_45)).trans R_45
          have x_56 := (hA_48.block _ (heap_lt x_39)).trans x_39
          have QA_57 := QA_46.below hA_48
          have hs_58 := hA_48.size
          clear C_43 P_44 R_45 x_39 QA_46 hA_48 hB_42
          refine hK _ _ (fun _ => ⟨R_55, C_53, QA_57.here, (hL0.below hB_52)⟩) ?_
          clear hK K
          try simp only [Act.put, List.getElem_toArray, List.getElem_cons_succ, List.getElem_cons_zero, List.setIfInBounds_toArray, List.set_cons_zero, List.set_cons_succ]
          refine wpAnyE.one (i := 12) (by kernel_rfl) rfl (fun K hK => ?_)
          obtain ⟨xc0, xc1, xc2, xc3, xc4, xc5, xc6⟩ := c7_of x_56
          have f_59 := f_of (o := 0) x_56
          have f_60 := f_of (o := 1) x_56
          have f_61 := f_of (o := 2) x_56
          have f_62 := f_of (o := 3) x_56
          have f_63 := f_of (o := 4) x_56
          have f_64 := f_of (o := 5) x_56
          have f_65 := f_of (o := 6) x_56
          obtain ⟨s_66, s_67, s_68⟩ := set7_block W_50 (W_37.heap.size) 36 (.slice qa[k].aS qa[k].r.s.length qa[k].cs) (.slice qa[k].al qa[k].r.l.length qa[k].cl) (.int .i64 qa[k].r.g) (.int .i64 qa[k].r.ph) (.slice qa[k].a1 qa[k].r.m.length qa[k].c1) (.slice qa[k].a2 qa[k].r.us.length qa[k].c2) (.bool qa[k].r.f) x_56
          have hB_69 := hB_52.trans (s_67.mono (by have := hB_52.size; omega))
          have C_70 := (s_68 (w.heap.size) (by omega)).trans C_53
          have P_71 := (s_68 (w.heap.size + 1) (by omega)).trans P_54
          have R_72 := (s_68 (p_3) (by omega)).trans R_55
          have y_73 := (s_68 (W_40.heap.size) (by omega)).trans y_49
          have QA_74 := QA_57.next (Nat.le_trans QA_57.1 s_67.size) (fun j a b => s_68 j (by omega))
          have hz_75 := s_67.size
          go_simp
          generalize (((((((W_50.setCell ⟨W_37.heap.size, 0, none⟩ (.slice qa[k].aS qa[k].r.s.length qa[k].cs)).setCell ⟨W_37.heap.size, 1, none⟩ (.slice qa[k].al qa[k].r.l.length qa[k].cl)).setCell ⟨W_37.heap.size, 2, none⟩ (.int .i64 qa[k].r.g)).setCell ⟨W_37.heap.size, 3, none⟩ (.int .i64 qa[k].r.ph)).setCell ⟨W_37.heap.size, 4, none⟩ (.slice qa[k].a1 qa[k].r.m.length qa[k].c1)).setCell ⟨W_37.heap.size, 5, none⟩ (.slice qa[k].a2 qa[k].r.us.length qa[k].c2)).setCell ⟨W_37.heap.size, 6, none⟩ (.bool qa[k].r.f)) = W_76 at *
          clear xc0 xc1 xc2 xc3 xc4 xc5 xc6 f_59 f_60 f_61 f_62 f_63 f_64 f_65 C_53 P_54 R_55 x_56 y_49 QA_57 hB_52 s_67 s_68
          refine hK _ _ (fun _ => ⟨R_72, C_70, QA_74.here, (hL0.below hB_69)⟩) ?_
          clear hK K
          try simp only [Act.put, List.getElem_toArray, List.getElem_cons_succ, List.getElem_cons_zero, List.setIfInBounds_toArray, List.set_cons_zero, List.set_cons_succ]
          refine wpAnyE.one (i := 13) (by kernel_rfl) rfl (fun K hK => ?_)
          obtain ⟨yc0, yc1, yc2, yc3, yc4, yc5, yc6⟩ := c7_of y_73
          have f_77 := f_of (o := 0) y_73
          have f_78 := f_of (o := 1) y_73
          have f_79 := f_of (o := 2) y_73
          have f_80 := f_of (o := 3) y_73
          have f_81 := f_of (o := 4) y_73
          have f_82 := f_of (o := 5) y_73
          have f_83 := f_of (o := 6) y_73
          obtain ⟨s_84, s_85, s_86⟩ := set7_block W_76 (W_40.heap.size) 36 (.slice l[k].aS l[k].r.s.length l[k].cs) (.slice l[k].al l[k].r.l.length l[k].cl) (.int .i64 l[k].r.g) (.int .i64 l[k].r.ph) (.slice l[k].a1 l[k].r.m.length l[k].c1) (.slice l[k].a2 l[k].r.us.length l[k].c2) (.bool l[k].r.f) y_73
          have hB_87 := hB_69.trans (s_85.mono (by have := hB_69.size; omega))
          have C_88 := (s_86 (w.heap.size) (by omega)).trans C_70
          have P_89 := (s_86 (w.heap.size + 1) (by omega)).trans P_71
          have R_90 := (s_86 (p_3) (by omega)).trans R_72
          have x_91 := (s_86 (W_37.heap.size) (by omega)).trans s_66
          have QA_92 := QA_74.next (Nat.le_trans QA_74.1 s_85.size) (fun j a b => s_86 j (by omega))
          have hz_93 := s_85.size
          go_simp
          generalize (((((((W_76.setCell ⟨W_40.heap.size, 0, none⟩ (.slice l[k].aS l[k].r.s.length l[k].cs)).setCell ⟨W_40.heap.size, 1, none⟩ (.slice l[k].al l[k].r.l.length l[k].cl)).setCell ⟨W_40.heap.size, 2, none⟩ (.int .i64 l[k].r.g)).setCell ⟨W_40.heap.size, 3, none⟩ (.int .i64 l[k].r.ph)).setCell ⟨W_40.heap.size, 4, none⟩ (.slice l[k].a1 l[k].r.m.length l[k].c1)).setCell ⟨W_40.heap.size, 5, none⟩ (.slice l[k].a2 l[k].r.us.length l[k].c2)).setCell ⟨W_40.heap.size, 6, none⟩ (.bool l[k].r.f)) = W_94 at *
          clear yc0 yc1 yc2 yc3 yc4 yc5 yc6 f_77 f_78 f_79 f_80 f_81 f_82 f_83 C_70 P_71 R_72 y_73 s_66 QA_74 hB_69 s_85 s_86
          refine hK _ _ (fun _ => ⟨R_90, C_88, QA_92.here, (hL0.below hB_87)⟩) ?_
          clear hK K
          try simp only [Act.put, List.getElem_toArray, List.getElem_cons_succ, List.getElem_cons_zero, List.setIfInBounds_toArray, List.set_cons_zero, List.set_cons_succ]
          refine wpAnyE.done (by kernel_rfl) ?_
          go_wp2
          go_meet
          case rel => exact ⟨_, _, rfl, rfl, x_91, s_84, hB_87⟩
        · skip
          go_simp
          have hA_95 := below_alloc W_37 (.cells #[.slice none 0 0, .slice none 0 0, .int .i64 0, .int .i64 0, .slice none 0 0, .slice none 0 0, .bool false] 36)
          have y_96 := heap_alloc_new W_37 (.cells #[.slice none 0 0, .slice none 0 0, .int .i64 0, .int .i64 0, .slice none 0 0, .slice none 0 0, .bool false] 36)
          have hz_98 : W_37.heap.size < (W_37.alloc (.cells #[.slice none 0 0, .slice none 0 0, .int .i64 0, .int .i64 0, .slice none 0 0, .slice none 0 0, .bool false] 36)).heap.size := by simp
          generalize W_37.alloc (.cells #[.slice none 0 0, .slice none 0 0, .int .i64 0, .int .i64 0, .slice none 0 0, .slice none 0 0, .bool false] 36) = W_97 at *
          have hB_99 := hB_31.trans (hA_95.mono hB_31.size)
          have C_100 := (hA_95.block _ (heap_lt C_32)).trans C_32
          have P_101 := (hA_95.block _ (heap_lt P_33)).trans P_33
          have R_102 := (hA_95.block _ (heap_lt R_34)).trans R_34
          have QA_103 := QA_35.below hA_95
          have hs_104 := hA_95.size
          clear C_32 P_33 R_34 QA_35 hA_95 hB_31
          refine hK _ _ (fun _ => ⟨R_102, C_100, QA_103.here, (hL0.below hB_99)⟩) ?_
          clear hK K
          try simp only [Act.put, List.getElem_toArray, List.getElem_cons_succ, List.getElem_cons_zero, List.setIfInBounds_toArray, List.set_cons_zero, List.set_cons_succ]
          refine wpAnyE.one (i := 10) (by kernel_rfl) rfl (fun K hK => ?_)
          go_simp
          have hA_105 := below_alloc W_97 (.cells #[.slice none 0 0, .slice none 0 0, .int .i64 0, .int .i64 0, .slice none 0 0, .slice none 0 0, .bool false] 36)
          have x_106 := heap_alloc_new W_97 (.cells #[.slice none 0 0, .slice none 0 0, .int .i64 0, .int .i64 0, .slice none 0 0, .slice none 0 0, .bool false] 36)
          have hz_108 : W_97.heap.size < (W_97.alloc (.cells #[.slice none 0 0, .slice none 0 0, .int .i64 0, .int .i64 0, .slice none 0 0, .slice none 0 0, .bool false] 36)).heap.size := by simp
          generalize W_97.alloc (.cells #[.slice none 0 0, .slice none 0 0, .int .i64 0, .int .i64 0, .slice none 0 0, .slice none 0 0, .bool false] 36) = W_107 at *
          have hB_109 := hB_99.trans (hA_105.mono hB_99.size)
          have C_110 := (hA_105.block _ (heap_lt C_100)).trans C_100
          have P_111 := (hA_105.block _ (heap_lt P_101)).trans P_101
          have R_112 := (hA_105.block _ (heap_lt R_102)).trans R_102
          have y_113 := (hA_105.block _ (heap_lt y_96)).trans y_96
          have QA_114 := QA_103.below hA_105
          have hs_115 := hA_105.size
          clear C_100 P_101 R_102 y_96 QA_103 hA_105 hB_99
          refine hK _ _ (fun _ => ⟨R_112, C_110, QA_114.here, (hL0.below hB_109)⟩) ?_
          clear hK K
          try simp only [Act.put, List.getElem_toArray, List.getElem_cons_succ, List.getElem_cons_zero, List.setIfInBounds_toArray, List.set_cons_zero, List.set_cons_succ]
          refine wpAnyE.one (i := 12) (by kernel_rfl) rfl (fun K hK => ?_)
          obtain ⟨xc0, xc1, xc2, xc3, xc4, xc5, xc6⟩ := c7_of x_106
          have f_116 := f_of (o := 0) x_106
          have f_117 := f_of (o := 1) x_106
          have f_118 := f_of (o := 2) x_106
          have f_119 := f_of (o := 3) x_106
          have f_120 := f_of (o := 4) x_106
          have f_121 := f_of (o := 5) x_106
          have f_122 := f_of (o := 6) x_106
          obtain ⟨s_123, s_124, s_125⟩ := set7_block W_107 (W_97.heap.size) 36 (.slice qa[k].aS qa[k].r.s.length qa[k].cs) (.slice qa[k].al qa[k].r.l.length qa[k].cl) (.int .i64 qa[k].r.g) (.int .i64 qa[k].r.ph) (.slice qa[k].a1 qa[k].r.m.length qa[k].c1) (.slice qa[k].a2 qa[k].r.us.length qa[k].c2) (.bool qa[k].r.f) x_106
          have hB_126 := hB_109.trans (s_124.mono (by have := hB_109.size; omega))
          have C_127 := (s_125 (w.heap.size) (by omega)).trans C_110
          have P_128 := (s_125 (w.heap.size + 1) (by omega)).trans P_111
          have R_129 := (s_125 (p_3) (by omega)).trans R_112
          have y_130 := (s_125 (W_37.heap.size) (by omega)).trans y_113
          have QA_131 := QA_114.next (Nat.le_trans QA_114.1 s_124.size) (fun j a b => s_125 j (by omega))
          have hz_132 := s_124.size
          go_simp
          generalize (((((((W_107.setCell ⟨W_97.heap.size, 0, none⟩ (.slice qa[k].aS qa[k].r.s.length qa[k].cs)).setCell ⟨W_97.heap.size, 1, none⟩ (.slice qa[k].al qa[k].r.l.length qa[k].cl)).setCell ⟨W_97.heap.size, 2, none⟩ (.int .i64 qa[k].r.g)).setCell ⟨W_97.heap.size, 3, none⟩ (.int .i64 qa[k].r.ph)).setCell ⟨W_97.heap.size, 4, none⟩ (.slice qa[k].a1 qa[k].r.m.length qa[k].c1)).setCell ⟨W_97.heap.size, 5, none⟩ (.slice qa[k].a2 qa[k].r.us.length qa[k].c2)).setCell ⟨W_97.heap.size, 6, none⟩ (.bool qa[k].r.f)) = W_133 at *
          clear xc0 xc1 xc2 xc3 xc4 xc5 xc6 f_116 f_117 f_118 f_119 f_120 f_121 f_122 C_110 P_111 R_112 y_113 x_106 QA_114 hB_109 s_124 s_125
          refine hK _ _ (fun _ => ⟨R_129, C_127, QA_131.here, (hL0.below hB_126)⟩) ?_
          clear hK K
          try simp only [Act.put, List.getElem_toArray, List.getElem_cons_succ, List.getElem_cons_zero, List.setIfInBounds_toArray, List.set_cons_zero, List.set_cons_succ]
          refine wpAnyE.one (i := 13) (by kernel_rfl) rfl (fun K hK => ?_)
          obtain ⟨yc0, yc1, yc2, yc3, yc4, yc5, yc6⟩ := c7_of y_130
          have f_134 := f_of (o := 0) y_130
          have f_135 := f_of (o := 1) y_130
          have f_136 := f_of (o := 2) y_130
          have f_137 := f_of (o := 3) y_130
          have f_138 := f_of (o := 4) y_130
          have f_139 := f_of (o := 5) y_130
          have f_140 := f_of (o := 6) y_130
          obtain ⟨s_141, s_142, s_143⟩ := set7_block W_133 (W_37.heap.size) 36 (.slice l[k].aS l[k].r.s.length l[k].cs) (.slice l[k].al l[k].r.l.length l[k].cl) (.int .i64 l[k].r.g) (.int .i64 l[k].r.ph) (.slice l[k].a1 l[k].r.m.length l[k].c1) (.slice l[k].a2 l[k].r.us.length l[k].c2) (.bool l[k].r.f) y_130
          have hB_144 := hB_126.trans (s_142.mono (by have := hB_126.size; omega))
          have C_145 := (s_143 (w.heap.size) (by omega)).trans C_127
          have P_146 := (s_143 (w.heap.size + 1) (by omega)).trans P_128
          have R_147 := (s_143 (p_3) (by omega)).trans R_129
          have x_148 := (s_143 (W_97.heap.size) (by omega)).trans s_123
          have QA_149 := QA_131.next (Nat.le_trans QA_131.1 s_142.size) (fun j a b => s_143 j (by omega))
          have hz_150 := s_142.size
          go_simp
          generalize (((((((W_133.setCell ⟨W_37.heap.size, 0, none⟩ (.slice l[k].aS l[k].r.s.length l[k].cs)).setCell ⟨W_37.heap.size, 1, none⟩ (.slice l[k].al l[k].r.l.length l[k].cl)).setCell ⟨W_37.heap.size, 2, none⟩ (.int .i64 l[k].r.g)).setCell ⟨W_37.heap.size, 3, none⟩ (.int .i64 l[k].r.ph)).setCell ⟨W_37.heap.size, 4, none⟩ (.slice l[k].a1 l[k].r.m.length l[k].c1)).setCell ⟨W_37.heap.size, 5, none⟩ (.slice l[k].a2 l[k].r.us.length l[k].c2)).setCell ⟨W_37.heap.size, 6, none⟩ (.bool l[k].r.f)) = W_151 at *
          clear yc0 yc1 yc2 yc3 yc4 yc5 yc6 f_134 f_135 f_136 f_137 f_138 f_139 f_140 C_127 P_128 R_129 y_130 s_123 QA_131 hB_126 s_142 s_143
          refine hK _ _ (fun _ => ⟨R_147, C_145, QA_149.here, (hL0.below hB_144)⟩) ?_
          clear hK K
          try simp only [Act.put, List.getElem_toArray, List.getElem_cons_succ, List.getElem_cons_zero, List.setIfInBounds_toArray, List.set_cons_zero, List.set_cons_succ]
          refine wpAnyE.done (by kernel_rfl) ?_
          go_wp2
          go_meet
          case rel => exact ⟨_, _, rfl, rfl, x_148, s_141, hB_144⟩
      case rest =>
      obtain ⟨px, py, rfl, rfl, kx, ky, hbc⟩ := hcut
      have hB_152 := hB_24.trans (hbc.mono hB_24.size)
      have C_153 := (hbc.block _ (heap_lt C_25)).trans C_25
      have P_154 := (hbc.block _ (heap_lt P_26)).trans P_26
      have R_155 := (hbc.block _ (heap_lt R_27)).trans R_27
      have QA_156 := QA_28.below hbc
      have hb_157 := hbr.trans (hbc.mono hbr.size)
      have hs_158 := hbc.size
      clear C_25 P_26 R_27 QA_28 hbr hbc hB_24
      obtain ⟨xc0, xc1, xc2, xc3, xc4, xc5, xc6⟩ := c7_of kx
      obtain ⟨yc0, yc1, yc2, yc3, yc4, yc5, yc6⟩ := c7_of ky
      have hc_159 := sameRq_any qa[k] l[k] wc (QA_156.here.at hq1).2 ((h.below hB_152).at hq2).2
      go_wp2_with fail
      refine hc_159.mono ?_
      clear hc_159
      rintro e W5 ⟨r, rfl, hr, h5⟩
      have hB_160 := hB_152.trans (h5.mono hB_152.size)
      have C_161 := (h5.block _ (heap_lt C_153)).trans C_153
      have P_162 := (h5.block _ (heap_lt P_154)).trans P_154
      have R_163 := (h5.block _ (heap_lt R_155)).trans R_155
      have x_164 := (h5.block _ (heap_lt kx)).trans kx
      have y_165 := (h5.block _ (heap_lt ky)).trans ky
      have QA_166 := QA_156.below h5
      have hb_167 := hb_157.trans (h5.mono hb_157.size)
      have hs_168 := h5.size
      clear C_153 P_154 R_155 kx ky QA_156 hb_157 h5 hB_152 xc0 xc1 xc2 xc3 xc4 xc5 xc6 yc0 yc1 yc2 yc3 yc4 yc5 yc6
      cases hc : cI (l.map Rq.r) m us f up late k with
      | false =>
        obtain rfl : r = true := hr.2 (by rw [HX.out k hq1, HY.out k hq2]; exact HP.out.not k hlt hc)
        have hcn : cntTo (cI (l.map Rq.r) m us f up late) (k + 1) = cntTo (cI (l.map Rq.r) m us f up late) k := by show cntTo _ k + (cI _ _ _ _ _ _ k).toNat = _; rw [hc]; rfl
        clear hr hc hcw
        go_wp2
        go_roundw
        case rel => exact ⟨k + 1, by go_num, by rw [hcn], by omega, hb_167⟩
        case measure => simp [intOf]; omega
      | true =>
        have hmv := HP.out.moved hlt hc
        obtain rfl : r = false := by
          cases r with
          | false => rfl
          | true => exact absurd ((HX.out k hq1).symm.trans ((hr.1 rfl).trans (HY.out k hq2))) hmv.1
        have hdn : dn = true := by rw [← HDN.out]; exact (cI_wI hc).1
        subst hdn
        obtain ⟨he, -, -⟩ := HP.out.yes k hlt hc
        have hg1 : qa[k].r.g = l[k].r.g + 1 := by rw [HX.out k hq1, he, HY.out k hq2]
        have hp1 : qa[k].r.ph = 0 := by rw [HX.out k hq1, he]
        have hgr := err_gen (HP.out.err k hlt)
        rw [← HY.out k hq2] at hgr
        have hw1 : IntKind.i64.wrap (l[k].r.g + 1) = l[k].r.g + 1 := by simp [IntKind.wrap, IntKind.bits, IntKind.signed]; omega
        have hgb : (qa[k].r.g != l[k].r.g + 1) = false := by rw [hg1]; simp
        have hpb : (qa[k].r.ph != 0) = false := by rw [hp1]; rfl
        have HLK : Hid (∀ j (hj : j < us.length), lookI qa[k].r.l us[j].name = us[j].new) := fun j hj => by rw [HX.out k hq1]; exact hmv.2 _ (List.getElem_mem hj)
        have hcn : cntTo (cI (l.map Rq.r) m us f up late) (k + 1) = cntTo (cI (l.map Rq.r) m us f up late) k + 1 := by show cntTo _ k + (cI _ _ _ _ _ _ k).toNat = _; rw [hc]; rfl
        clear hr hc hmv he hg1 hp1 hgr
        obtain ⟨xc0, xc1, xc2, xc3, xc4, xc5, xc6⟩ := c7_of x_164
        obtain ⟨yc0, yc1, yc2, yc3, yc4, yc5, yc6⟩ := c7_of y_165
        obtain ⟨Pc0, Pc1, Pc2⟩ := c3_of P_162
        go_wp2_with fail
        go_loopw [16] (fun i wr => ∃ j : Nat, i = .int .i64 j ∧ j ≤ us.length ∧ Below W5.heap.size W5 wr) (fun i _ => us.length - (intOf i).toNat)
        case atStart => exact ⟨0, rfl, Nat.zero_le _, Below.refl _ _⟩
        case round =>
          clear xc0 xc1 xc2 xc3 xc4 xc5 xc6 yc0 yc1 yc2 yc3 yc4 yc5 yc6 Pc0 Pc1 Pc2
          obtain ⟨j, rfl, hj, hbj⟩ := hrel
          have hB_169 := hB_160.trans (hbj.mono hB_160.size)
          have C_170 := (hbj.block _ (heap_lt C_161)).trans C_161
          have P_171 := (hbj.block _ (heap_lt P_162)).trans P_162
          have R_172 := (hbj.block _ (heap_lt R_163)).trans R_163
          have x_173 := (hbj.block _ (heap_lt x_164)).trans x_164
          have y_174 := (hbj.block _ (heap_lt y_165)).trans y_165
          have QA_175 := QA_166.below hbj
          have hb_176 := hb_167.trans (hbj.mono hb_167.size)
          have hs_177 := hbj.size
          clear C_161 P_162 R_163 x_164 y_165 QA_166 hb_167 hB_160
          by_cases hjl : j < us.length
          · skip
            obtain ⟨bu, ou, rfl⟩ := (addrU hu (by omega))
            have hjl' : (j : Int) < (us.length : Int) := by omega
            obtain ⟨Pc0, Pc1, Pc2⟩ := c3_of P_171
            go_upto_region 20 with fail
            clear Pc0 Pc1 Pc2
            have hlk := HLK.out j hjl
            have hd_178 := below_refl_drew wr
            have hB_179 := hB_169.trans (hd_178.mono hB_169.size)
            have C_180 := (hd_178.block _ (heap_lt C_170)).trans C_170
            have P_181 := (hd_178.block _ (heap_lt P_171)).trans P_171
            have R_182 := (hd_178.block _ (heap_lt R_172)).trans R_172
            have x_183 := (hd_178.block _ (heap_lt x_173)).trans x_173
            have y_184 := (hd_178.block _ (heap_lt y_174)).trans y_174
            have QA_185 := QA_175.below hd_178
            have hb_186 := hb_176.trans (hd_178.mono hb_176.size)
            have hb_187 := hbj.trans (hd_178.mono hbj.size)
            have hs_188 := hd_178.size
            clear C_170 P_171 R_172 x_173 y_174 QA_175 hb_176 hbj hd_178 hB_169
            refine wp_region_E (fun W => (W.heap[px]? = some (.cells #[.slice qa[k].aS qa[k].r.s.length qa[k].cs, .slice qa[k].al qa[k].r.l.length qa[k].cl, .int .i64 qa[k].r.g, .int .i64 qa[k].r.ph, .slice qa[k].a1 qa[k].r.m.length qa[k].c1, .slice qa[k].a2 qa[k].r.us.length qa[k].c2, .bool qa[k].r.f] 36)) ∧ (W.heap[w.heap.size + 1]? = some (.cells #[.slice am m.length cm, .slice (some ⟨bu, ou, none⟩) us.length cu, .bool f] 28)) ∧ (HoldsU W (some ⟨bu, ou, none⟩) us)) (fun _ => false) (by kernel_rfl) ⟨x_183, P_181, (hu.below hB_179)⟩ (fun hS => ?_)
            clear hS
            generalize wr.drew = W_189 at *
            refine wpAnyE.take (i := 0) (v := ?_) rfl (by kernel_rfl) (by kernel_rfl) (by kernel_rfl) (by kernel_rfl) (fun _ _ _ h => h) (Or.inl ⟨by rfl, ?_⟩) ⟨x_183, P_181, (hu.below hB_179)⟩ ?_
            rotate_left
            · intro w hSw; obtain ⟨s1, s2, s3⟩ := hSw; obtain ⟨x0, x1, x2, x3, x4, x5, x6⟩ := c7_of s1; obtain ⟨p0, p1, p2⟩ := c3_of s2; obtain ⟨v0, v1, v2⟩ := s3.at hjl; clear s1 s2 s3; go_simp; with_reducible rfl
            try simp only [Act.put, List.getElem_toArray, List.getElem_cons_zero, List.setIfInBounds_toArray, List.set_cons_zero, List.set_cons_succ]
            refine wpAnyE.take (i := 2) (v := ?_) rfl (by kernel_rfl) (by kernel_rfl) (by kernel_rfl) (by kernel_rfl) (fun _ _ _ h => h) (Or.inl ⟨by rfl, ?_⟩) ⟨x_183, P_181, (hu.below hB_179)⟩ ?_
            rotate_left
            · intro w hSw; obtain ⟨s1, s2, s3⟩ := hSw; obtain ⟨x0, x1, x2, x3, x4, x5, x6⟩ := c7_of s1; obtain ⟨p0, p1, p2⟩ := c3_of s2; obtain ⟨v0, v1, v2⟩ := s3.at hjl; clear s1 s2 s3; go_simp; with_reducible rfl
            try simp only [Act.put, List.getElem_toArray, List.getElem_cons_succ, List.getElem_cons_zero, List.setIfInBounds_toArray, List.set_cons_zero, List.set_cons_succ]
            refine wpAnyE.take (i := 4) (v := ?_) rfl (by kernel_rfl) (by kernel_rfl) (by kernel_rfl) (by kernel_rfl) (fun _ _ _ h => h) (Or.inl ⟨by rfl, ?_⟩) ⟨x_183, P_181, (hu.below hB_179)⟩ ?_
            rotate_left
            · intro w hSw; obtain ⟨s1, s2, s3⟩ := hSw; obtain ⟨x0, x1, x2, x3, x4, x5, x6⟩ := c7_of s1; obtain ⟨p0, p1, p2⟩ := c3_of s2; obtain ⟨v0, v1, v2⟩ := s3.at hjl; clear s1 s2 s3; go_simp; with_reducible rfl
            try simp only [Act.put, List.getElem_toArray, List.getElem_cons_succ, List.getElem_cons_zero, List.setIfInBounds_toArray, List.set_cons_zero, List.set_cons_succ]
            refine wpAnyE.take (i := 9) (v := ?_) rfl (by kernel_rfl) (by kernel_rfl) (by kernel_rfl) (by kernel_rfl) (fun _ _ _ h => h) (Or.inl ⟨by rfl, ?_⟩) ⟨x_183, P_181, (hu.below hB_179)⟩ ?_
            rotate_left
            · intro w hSw; obtain ⟨s1, s2, s3⟩ := hSw; obtain ⟨x0, x1, x2, x3, x4, x5, x6⟩ := c7_of s1; obtain ⟨p0, p1, p2⟩ := c3_of s2; obtain ⟨v0, v1, v2⟩ := s3.at hjl; clear s1 s2 s3; go_simp; with_reducible rfl
            try simp only [Act.put, List.getElem_toArray, List.getElem_cons_succ, List.getElem_cons_zero, List.setIfInBounds_toArray, List.set_cons_zero, List.set_cons_succ]
            refine wpAnyE.take (i := 11) (v := ?_) rfl (by kernel_rfl) (by kernel_rfl) (by kernel_rfl) (by kernel_rfl) (fun _ _ _ h => h) (Or.inl ⟨by rfl, ?_⟩) ⟨x_183, P_181, (hu.below hB_179)⟩ ?_
            rotate_left
            · intro w hSw; obtain ⟨s1, s2, s3⟩ := hSw; obtain ⟨x0, x1, x2, x3, x4, x5, x6⟩ := c7_of s1; obtain ⟨p0, p1, p2⟩ := c3_of s2; obtain ⟨v0, v1, v2⟩ := s3.at hjl; clear s1 s2 s3; go_simp; with_reducible rfl
            try simp only [Act.put, List.getElem_toArray, List.getElem_cons_succ, List.getElem_cons_zero, List.setIfInBounds_toArray, List.set_cons_zero, List.set_cons_succ]
            refine wpAnyE.take (i := 1) (v := ?_) rfl (by kernel_rfl) (by kernel_rfl) (by kernel_rfl) (by kernel_rfl) (fun _ _ _ h => h) (Or.inl ⟨by rfl, ?_⟩) ⟨x_183, P_181, (hu.below hB_179)⟩ ?_
            rotate_left
            · intro w hSw; obtain ⟨s1, s2, s3⟩ := hSw; obtain ⟨x0, x1, x2, x3, x4, x5, x6⟩ := c7_of s1; obtain ⟨p0, p1, p2⟩ := c3_of s2; obtain ⟨v0, v1, v2⟩ := s3.at hjl; clear s1 s2 s3; go_simp; with_reducible rfl
            try simp only [Act.put, List.getElem_toArray, List.getElem_cons_succ, List.getElem_cons_zero, List.setIfInBounds_toArray, List.set_cons_zero, List.set_cons_succ]
            refine wpAnyE.take (i := 3) (v := ?_) rfl (by kernel_rfl) (by kernel_rfl) (by kernel_rfl) (by kernel_rfl) (fun _ _ _ h => h) (Or.inl ⟨by rfl, ?_⟩) ⟨x_183, P_181, (hu.below hB_179)⟩ ?_
            rotate_left
            · intro w hSw; obtain ⟨s1, s2, s3⟩ := hSw; obtain ⟨x0, x1, x2, x3, x4, x5, x6⟩ := c7_of s1; obtain ⟨p0, p1, p2⟩ := c3_of s2; obtain ⟨v0, v1, v2⟩ := s3.at hjl; clear s1 s2 s3; go_simp; with_reducible rfl
            try simp only [Act.put, List.getElem_toArray, List.getElem_cons_succ, List.getElem_cons_zero, List.setIfInBounds_toArray, List.set_cons_zero, List.set_cons_succ]
            refine wpAnyE.take (i := 10) (v := ?_) rfl (by kernel_rfl) (by kernel_rfl) (by kernel_rfl) (by kernel_rfl) (fun _ _ _ h => h) (Or.inl ⟨by rfl, ?_⟩) ⟨x_183, P_181, (hu.below hB_179)⟩ ?_
            rotate_left
            · intro w hSw; obtain ⟨s1, s2, s3⟩ := hSw; obtain ⟨x0, x1, x2, x3, x4, x5, x6⟩ := c7_of s1; obtain ⟨p0, p1, p2⟩ := c3_of s2; obtain ⟨v0, v1, v2⟩ := s3.at hjl; clear s1 s2 s3; go_simp; with_reducible rfl
            try simp only [Act.put, List.getElem_toArray, List.getElem_cons_succ, List.getElem_cons_zero, List.setIfInBounds_toArray, List.set_cons_zero, List.set_cons_succ]
            refine wpAnyE.take (i := 5) (v := ?_) rfl (by kernel_rfl) (by kernel_rfl) (by kernel_rfl) (by kernel_rfl) (fun _ _ _ h => h) (Or.inl ⟨by rfl, ?_⟩) ⟨x_183, P_181, (hu.below hB_179)⟩ ?_
            rotate_left
            · intro w hSw; obtain ⟨s1, s2, s3⟩ := hSw; obtain ⟨x0, x1, x2, x3, x4, x5, x6⟩ := c7_of s1; obtain ⟨p0, p1, p2⟩ := c3_of s2; obtain ⟨v0, v1, v2⟩ := s3.at hjl; clear s1 s2 s3; go_simp; with_reducible rfl
            try simp only [Act.put, List.getElem_toArray, List.getElem_cons_succ, List.getElem_cons_zero, List.setIfInBounds_toArray, List.set_cons_zero, List.set_cons_succ]
            refine wpAnyE.take (i := 12) (v := ?_) rfl (by kernel_rfl) (by kernel_rfl) (by kernel_rfl) (by kernel_rfl) (fun _ _ _ h => h) (Or.inl ⟨by rfl, ?_⟩) ⟨x_183, P_181, (hu.below hB_179)⟩ ?_
            rotate_left
            · intro w hSw; obtain ⟨s1, s2, s3⟩ := hSw; obtain ⟨x0, x1, x2, x3, x4, x5, x6⟩ := c7_of s1; obtain ⟨p0, p1, p2⟩ := c3_of s2; obtain ⟨v0, v1, v2⟩ := s3.at hjl; clear s1 s2 s3; go_simp; with_reducible rfl
            try simp only [Act.put, List.getElem_toArray, List.getElem_cons_succ, List.getElem_cons_zero, List.setIfInBounds_toArray, List.set_cons_zero, List.set_cons_succ]
            refine wpAnyE.take (i := 6) (v := ?_) rfl (by kernel_rfl) (by kernel_rfl) (by kernel_rfl) (by kernel_rfl) (fun _ _ _ h => h) (Or.inl ⟨by rfl, ?_⟩) ⟨x_183, P_181, (hu.below hB_179)⟩ ?_
            rotate_left
            · intro w hSw; obtain ⟨s1, s2, s3⟩ := hSw; obtain ⟨x0, x1, x2, x3, x4, x5, x6⟩ := c7_of s1; obtain ⟨p0, p1, p2⟩ := c3_of s2; obtain ⟨v0, v1, v2⟩ := s3.at hjl; clear s1 s2 s3; go_simp; with_reducible rfl
            try simp only [Act.put, List.getElem_toArray, List.getElem_cons_succ, List.getElem_cons_zero, List.setIfInBounds_toArray, List.set_cons_zero, List.set_cons_succ]
            refine wpAnyE.take (i := 13) (v := ?_) rfl (by kernel_rfl) (by kernel_rfl) (by kernel_rfl) (by kernel_rfl) (fun _ _ _ h => h) (Or.inl ⟨by rfl, ?_⟩) ⟨x_183, P_181, (hu.below hB_179)⟩ ?_
            rotate_left
            · intro w hSw; obtain ⟨s1, s2, s3⟩ := hSw; obtain ⟨x0, x1, x2, x3, x4, x5, x6⟩ := c7_of s1; obtain ⟨p0, p1, p2⟩ := c3_of s2; obtain ⟨v0, v1, v2⟩ := s3.at hjl; clear s1 s2 s3; go_simp; with_reducible rfl
            try simp only [Act.put, List.getElem_toArray, List.getElem_cons_succ, List.getElem_cons_zero, List.setIfInBounds_toArray, List.set_cons_zero, List.set_cons_succ]
            refine wpAnyE.take (i := 7) (v := ?_) rfl (by kernel_rfl) (by kernel_rfl) (by kernel_rfl) (by kernel_rfl) (fun _ _ _ h => h) (Or.inl ⟨by rfl, ?_⟩) ⟨x_183, P_181, (hu.below hB_179)⟩ ?_
            rotate_left
            · intro w hSw; obtain ⟨s1, s2, s3⟩ := hSw; obtain ⟨x0, x1, x2, x3, x4, x5, x6⟩ := c7_of s1; obtain ⟨p0, p1, p2⟩ := c3_of s2; obtain ⟨v0, v1, v2⟩ := s3.at hjl; clear s1 s2 s3; go_simp; with_reducible rfl
            try simp only [Act.put, List.getElem_toArray, List.getElem_cons_succ, List.getElem_cons_zero, List.setIfInBounds_toArray, List.set_cons_zero, List.set_cons_succ]
            refine wpAnyE.take (i := 14) (v := ?_) rfl (by kernel_rfl) (by kernel_rfl) (by kernel_rfl) (by kernel_rfl) (fun _ _ _ h => h) (Or.inl ⟨by rfl, ?_⟩) ⟨x_183, P_181, (hu.below hB_179)⟩ ?_
            rotate_left
            · intro w hSw; obtain ⟨s1, s2, s3⟩ := hSw; obtain ⟨x0, x1, x2, x3, x4, x5, x6⟩ := c7_of s1; obtain ⟨p0, p1, p2⟩ := c3_of s2; obtain ⟨v0, v1, v2⟩ := s3.at hjl; clear s1 s2 s3; go_simp; with_reducible rfl
            try simp only [Act.put, List.getElem_toArray, List.getElem_cons_succ, List.getElem_cons_zero, List.setIfInBounds_toArray, List.set_cons_zero, List.set_cons_succ]
            refine wpAnyE.one (i := 8) (by kernel_rfl) rfl (fun K hK => ?_)
            have hc_190 := idOf_any qa[k].al qa[k].cl qa[k].r.l us[j].name W_189 (QA_185.here.at hq1).2.hl (QA_185.here.at hq1).2.nl
            rw [hlk] at hc_190
            go_simp
            refine hc_190.mono ?_
            clear hc_190
            rintro e W_191 ⟨rfl, h⟩
            have hB_192 := hB_179.trans (h.mono hB_179.size)
            have C_193 := (h.block _ (heap_lt C_180)).trans C_180
            have P_194 := (h.block _ (heap_lt P_181)).trans P_181
            have R_195 := (h.block _ (heap_lt R_182)).trans R_182
            have x_196 := (h.block _ (heap_lt x_183)).trans x_183
            have y_197 := (h.block _ (heap_lt y_184)).trans y_184
            have QA_198 := QA_185.below h
            have hb_199 := hb_186.trans (h.mono hb_186.size)
            have hb_200 := hb_187.trans (h.mono hb_187.size)
            have hs_201 := h.size
            clear C_180 P_181 R_182 x_183 y_184 QA_185 hb_186 hb_187 h hB_179
            refine hK _ _ (fun _ => ⟨x_196, P_194, (hu.below hB_192)⟩) ?_
            clear hK K
            try simp only [Act.put, List.getElem_toArray, List.getElem_cons_succ, List.getElem_cons_zero, List.setIfInBounds_toArray, List.set_cons_zero, List.set_cons_succ]
            refine wpAnyE.take (i := 15) (v := ?_) rfl (by kernel_rfl) (by kernel_rfl) (by kernel_rfl) (by kernel_rfl) (fun _ _ _ h => h) (Or.inl ⟨by rfl, ?_⟩) ⟨x_196, P_194, (hu.below hB_192)⟩ ?_
            rotate_left
            · intro w hSw; obtain ⟨s1, s2, s3⟩ := hSw; obtain ⟨x0, x1, x2, x3, x4, x5, x6⟩ := c7_of s1; obtain ⟨p0, p1, p2⟩ := c3_of s2; obtain ⟨v0, v1, v2⟩ := s3.at hjl; clear s1 s2 s3; go_simp; with_reducible rfl
            try simp only [Act.put, List.getElem_toArray, List.getElem_cons_succ, List.getElem_cons_zero, List.setIfInBounds_toArray, List.set_cons_zero, List.set_cons_succ]
            refine wpAnyE.done (by kernel_rfl) ?_
            have HB := hB_192
            have hne : (us[j].new != us[j].new) = false := by simp
            go_wp2
            go_roundw
            case rel => exact ⟨j + 1, by go_num, by omega, hb_200⟩
            case measure => simp [intOf]; omega
          · skip
            obtain ⟨Pc0, Pc1, Pc2⟩ := c3_of P_171
            go_wp2
            go_roundw
            case rel => exact ⟨k + 1, by go_num, by rw [hcn]; simp, by omega, hb_176⟩
            case measure => simp [intOf]; omega
    · skip
      have hk3 : k = 3 := by omega
      subst hk3
      have Rc0 := c1_of R_27
      have hc_202 := newestC_any (some ⟨B, 0, none⟩) cap qa wr (hg.below hB_24) QA_28.here (by omega) hcb
      rw [hqa, HC.out] at hc_202
      go_wp2_with fail
      refine hc_202.mono ?_
      clear hc_202
      rintro e W6 ⟨n, rfl, hn, h6⟩
      have hB_203 := hB_24.trans (h6.mono hB_24.size)
      have C_204 := (h6.block _ (heap_lt C_25)).trans C_25
      have P_205 := (h6.block _ (heap_lt P_26)).trans P_26
      have R_206 := (h6.block _ (heap_lt R_27)).trans R_27
      have QA_207 := QA_28.below h6
      have hb_208 := hbr.trans (h6.mono hbr.size)
      have hs_209 := h6.size
      clear C_25 P_26 R_27 QA_28 hbr h6 hB_24 Rc0
      have hnb : n = bestI (eL (l.map Rq.r) m us f up late) := by
        have := hn.out (by first | trivial | rfl)
        rw [gs_map, HMA.out] at this; exact this
      have hn3 : n < 3 := by rw [hnb]; exact bestI_lt rfl
      have HNB : Hid (n = bestI (eL (l.map Rq.r) m us f up late)) := hnb
      clear hnb
      have hn3' : (n : Int) < 3 := by omega
      have hn0 : ¬ (n : Int) < 0 := by omega
      have hnge : ¬ (3 : Int) ≤ (n : Int) := by omega
      clear hn
      cases dn with
      | false =>
        have Rc0 := c1_of R_206
        go_upto_region 25 with fail
        clear Rc0
        have hd_210 := below_refl_drew W6
        have hB_211 := hB_203.trans (hd_210.mono hB_203.size)
        have C_212 := (hd_210.block _ (heap_lt C_204)).trans C_204
        have P_213 := (hd_210.block _ (heap_lt P_205)).trans P_205
        have R_214 := (hd_210.block _ (heap_lt R_206)).trans R_206
        have QA_215 := QA_207.below hd_210
        have hb_216 := hb_208.trans (hd_210.mono hb_208.size)
        have hs_217 := hd_210.size
        clear C_204 P_205 R_206 QA_207 hb_208 hd_210 hB_203
        refine wp_region_E (fun W => (W.heap[p_3]? = some (.cells #[.slice (some ⟨B, 0, none⟩) 3 cap] 24))) (fun _ => false) (by kernel_rfl) R_214 (fun hS => ?_)
        clear hS
        generalize W6.drew = W_218 at *
        refine wpAnyE.take (i := 0) (v := ?_) rfl (by kernel_rfl) (by kernel_rfl) (by kernel_rfl) (by kernel_rfl) (fun _ _ _ h => h) (Or.inl ⟨by rfl, ?_⟩) R_214 ?_
        rotate_left
        · intro w hSw; have e1 := c1_of hSw; clear hSw; go_simp; with_reducible rfl
        try simp only [Act.put, List.getElem_toArray, List.getElem_cons_zero, List.setIfInBounds_toArray, List.set_cons_zero, List.set_cons_succ]
        refine wpAnyE.take (i := 1) (v := ?_) rfl (by kernel_rfl) (by kernel_rfl) (by kernel_rfl) (by kernel_rfl) (fun _ _ _ h => h) (Or.inl ⟨by rfl, ?_⟩) R_214 ?_
        rotate_left
        · intro w hSw; have e1 := c1_of hSw; clear hSw; go_simp; with_reducible rfl
        try simp only [Act.put, List.getElem_toArray, List.getElem_cons_succ, List.getElem_cons_zero, List.setIfInBounds_toArray, List.set_cons_zero, List.set_cons_succ]
        refine wpAnyE.take (i := 2) (v := ?_) rfl (by kernel_rfl) (by kernel_rfl) (by kernel_rfl) (by kernel_rfl) (fun _ _ _ h => h) (Or.inl ⟨by rfl, ?_⟩) R_214 ?_
        rotate_left
        · intro w hSw; have e1 := c1_of hSw; clear hSw; go_simp; with_reducible rfl
        try simp only [Act.put, List.getElem_toArray, List.getElem_cons_succ, List.getElem_cons_zero, List.setIfInBounds_toArray, List.set_cons_zero, List.set_cons_succ]
        refine wpAnyE.take (i := 3) (v := undef) rfl (by kernel_rfl) (by kernel_rfl) (by kernel_rfl) (by kernel_rfl) (fun _ _ _ h => h) (Or.inr ⟨by rfl, rfl⟩) R_214 ?_
        try simp only [Act.put, List.getElem_toArray, List.getElem_cons_succ, List.getElem_cons_zero, List.setIfInBounds_toArray, List.set_cons_zero, List.set_cons_succ]
        refine wpAnyE.take (i := 5) (v := undef) rfl (by kernel_rfl) (by kernel_rfl) (by kernel_rfl) (by kernel_rfl) (fun _ _ _ h => h) (Or.inr ⟨by rfl, rfl⟩) R_214 ?_
        try simp only [Act.put, List.getElem_toArray, List.getElem_cons_succ, List.getElem_cons_zero, List.setIfInBounds_toArray, List.set_cons_zero, List.set_cons_succ]
        refine wpAnyE.take (i := 4) (v := undef) rfl (by kernel_rfl) (by kernel_rfl) (by kernel_rfl) (by kernel_rfl) (fun _ _ _ h => h) (Or.inr ⟨by rfl, rfl⟩) R_214 ?_
        try simp only [Act.put, List.getElem_toArray, List.getElem_cons_succ, List.getElem_cons_zero, List.setIfInBounds_toArray, List.set_cons_zero, List.set_cons_succ]
        refine wpAnyE.take (i := 6) (v := undef) rfl (by kernel_rfl) (by kernel_rfl) (by kernel_rfl) (by kernel_rfl) (fun _ _ _ h => h) (Or.inr ⟨by rfl, rfl⟩) R_214 ?_
        try simp only [Act.put, List.getElem_toArray, List.getElem_cons_succ, List.getElem_cons_zero, List.setIfInBounds_toArray, List.set_cons_zero, List.set_cons_succ]
        refine wpAnyE.take (i := 7) (v := undef) rfl (by kernel_rfl) (by kernel_rfl) (by kernel_rfl) (by kernel_rfl) (fun _ _ _ h => h) (Or.inr ⟨by rfl, rfl⟩) R_214 ?_
        try simp only [Act.put, List.getElem_toArray, List.getElem_cons_succ, List.getElem_cons_zero, List.setIfInBounds_toArray, List.set_cons_zero, List.set_cons_succ]
        refine wpAnyE.take (i := 8) (v := undef) rfl (by kernel_rfl) (by kernel_rfl) (by kernel_rfl) (by kernel_rfl) (fun _ _ _ h => h) (Or.inr ⟨by rfl, rfl⟩) R_214 ?_
        try simp only [Act.put, List.getElem_toArray, List.getElem_cons_succ, List.getElem_cons_zero, List.setIfInBounds_toArray, List.set_cons_zero, List.set_cons_succ]
        refine wpAnyE.take (i := 9) (v := undef) rfl (by kernel_rfl) (by kernel_rfl) (by kernel_rfl) (by kernel_rfl) (fun _ _ _ h => h) (Or.inr ⟨by rfl, rfl⟩) R_214 ?_
        try simp only [Act.put, List.getElem_toArray, List.getElem_cons_succ, List.getElem_cons_zero, List.setIfInBounds_toArray, List.set_cons_zero, List.set_cons_succ]
        refine wpAnyE.take (i := 10) (v := undef) rfl (by kernel_rfl) (by kernel_rfl) (by kernel_rfl) (by kernel_rfl) (fun _ _ _ h => h) (Or.inr ⟨by rfl, rfl⟩) R_214 ?_
        try simp only [Act.put, List.getElem_toArray, List.getElem_cons_succ, List.getElem_cons_zero, List.setIfInBounds_toArray, List.set_cons_zero, List.set_cons_succ]
        refine wpAnyE.take (i := 12) (v := undef) rfl (by kernel_rfl) (by kernel_rfl) (by kernel_rfl) (by kernel_rfl) (fun _ _ _ h => h) (Or.inr ⟨by rfl, rfl⟩) R_214 ?_
        try simp only [Act.put, List.getElem_toArray, List.getElem_cons_succ, List.getElem_cons_zero, List.setIfInBounds_toArray, List.set_cons_zero, List.set_cons_succ]
        refine wpAnyE.take (i := 15) (v := undef) rfl (by kernel_rfl) (by kernel_rfl) (by kernel_rfl) (by kernel_rfl) (fun _ _ _ h => h) (Or.inr ⟨by rfl, rfl⟩) R_214 ?_
        try simp only [Act.put, List.getElem_toArray, List.getElem_cons_succ, List.getElem_cons_zero, List.setIfInBounds_toArray, List.set_cons_zero, List.set_cons_succ]
        refine wpAnyE.take (i := 17) (v := undef) rfl (by kernel_rfl) (by kernel_rfl) (by kernel_rfl) (by kernel_rfl) (fun _ _ _ h => h) (Or.inr ⟨by rfl, rfl⟩) R_214 ?_
        try simp only [Act.put, List.getElem_toArray, List.getElem_cons_succ, List.getElem_cons_zero, List.setIfInBounds_toArray, List.set_cons_zero, List.set_cons_succ]
        refine wpAnyE.take (i := 11) (v := undef) rfl (by kernel_rfl) (by kernel_rfl) (by kernel_rfl) (by kernel_rfl) (fun _ _ _ h => h) (Or.inr ⟨by rfl, rfl⟩) R_214 ?_
        try simp only [Act.put, List.getElem_toArray, List.getElem_cons_succ, List.getElem_cons_zero, List.setIfInBounds_toArray, List.set_cons_zero, List.set_cons_succ]
        refine wpAnyE.take (i := 16) (v := undef) rfl (by kernel_rfl) (by kernel_rfl) (by kernel_rfl) (by kernel_rfl) (fun _ _ _ h => h) (Or.inr ⟨by rfl, rfl⟩) R_214 ?_
        try simp only [Act.put, List.getElem_toArray, List.getElem_cons_succ, List.getElem_cons_zero, List.setIfInBounds_toArray, List.set_cons_zero, List.set_cons_succ]
        refine wpAnyE.take (i := 13) (v := undef) rfl (by kernel_rfl) (by kernel_rfl) (by kernel_rfl) (by kernel_rfl) (fun _ _ _ h => h) (Or.inr ⟨by rfl, rfl⟩) R_214 ?_
        try simp only [Act.put, List.getElem_toArray, List.getElem_cons_succ, List.getElem_cons_zero, List.setIfInBounds_toArray, List.set_cons_zero, List.set_cons_succ]
        refine wpAnyE.take (i := 18) (v := undef) rfl (by kernel_rfl) (by kernel_rfl) (by kernel_rfl) (by kernel_rfl) (fun _ _ _ h => h) (Or.inr ⟨by rfl, rfl⟩) R_214 ?_
        try simp only [Act.put, List.getElem_toArray, List.getElem_cons_succ, List.getElem_cons_zero, List.setIfInBounds_toArray, List.set_cons_zero, List.set_cons_succ]
        refine wpAnyE.take (i := 14) (v := undef) rfl (by kernel_rfl) (by kernel_rfl) (by kernel_rfl) (by kernel_rfl) (fun _ _ _ h => h) (Or.inr ⟨by rfl, rfl⟩) R_214 ?_
        try simp only [Act.put, List.getElem_toArray, List.getElem_cons_succ, List.getElem_cons_zero, List.setIfInBounds_toArray, List.set_cons_zero, List.set_cons_succ]
        refine wpAnyE.take (i := 19) (v := undef) rfl (by kernel_rfl) (by kernel_rfl) (by kernel_rfl) (by kernel_rfl) (fun _ _ _ h => h) (Or.inr ⟨by rfl, rfl⟩) R_214 ?_
        try simp only [Act.put, List.getElem_toArray, List.getElem_cons_succ, List.getElem_cons_zero, List.setIfInBounds_toArray, List.set_cons_zero, List.set_cons_succ]
        refine wpAnyE.take (i := 20) (v := undef) rfl (by kernel_rfl) (by kernel_rfl) (by kernel_rfl) (by kernel_rfl) (fun _ _ _ h => h) (Or.inr ⟨by rfl, rfl⟩) R_214 ?_
        try simp only [Act.put, List.getElem_toArray, List.getElem_cons_succ, List.getElem_cons_zero, List.setIfInBounds_toArray, List.set_cons_zero, List.set_cons_succ]
        refine wpAnyE.take (i := 21) (v := undef) rfl (by kernel_rfl) (by kernel_rfl) (by kernel_rfl) (by kernel_rfl) (fun _ _ _ h => h) (Or.inr ⟨by rfl, rfl⟩) R_214 ?_
        try simp only [Act.put, List.getElem_toArray, List.getElem_cons_succ, List.getElem_cons_zero, List.setIfInBounds_toArray, List.set_cons_zero, List.set_cons_succ]
        refine wpAnyE.take (i := 22) (v := undef) rfl (by kernel_rfl) (by kernel_rfl) (by kernel_rfl) (by kernel_rfl) (fun _ _ _ h => h) (Or.inr ⟨by rfl, rfl⟩) R_214 ?_
        try simp only [Act.put, List.getElem_toArray, List.getElem_cons_succ, List.getElem_cons_zero, List.setIfInBounds_toArray, List.set_cons_zero, List.set_cons_succ]
        refine wpAnyE.take (i := 23) (v := ?_) rfl (by kernel_rfl) (by kernel_rfl) (by kernel_rfl) (by kernel_rfl) (fun _ _ _ h => h) (Or.inl ⟨by rfl, ?_⟩) R_214 ?_
        rotate_left
        · intro w hSw; have e1 := c1_of hSw; clear hSw; go_simp; with_reducible rfl
        try simp only [Act.put, List.getElem_toArray, List.getElem_cons_succ, List.getElem_cons_zero, List.setIfInBounds_toArray, List.set_cons_zero, List.set_cons_succ]
        refine wpAnyE.one (i := 24) (by kernel_rfl) rfl (fun K hK => ?_)
        go_simp
        refine hK _ _ (fun _ => R_214) ?_
        clear hK K
        try simp only [Act.put, List.getElem_toArray, List.getElem_cons_succ, List.getElem_cons_zero, List.setIfInBounds_toArray, List.set_cons_zero, List.set_cons_succ]
        refine wpAnyE.done (by kernel_rfl) ?_
        have HB := hB_211
        go_wp2
        go_ret
        exact ⟨rfl, HB⟩
      | true =>
        have hmany : (3 : Int) < 2 * ((cntTo (cI (l.map Rq.r) m us f up late) 3 : Nat) : Int) := by have := HP.out.many HDN.out; omega
        have hwm : IntKind.i64.wrap (2 * ((cntTo (cI (l.map Rq.r) m us f up late) 3 : Nat) : Int)) = 2 * ((cntTo (cI (l.map Rq.r) m us f up late) 3 : Nat) : Int) := by have := cntTo_le (cI (l.map Rq.r) m us f up late) 3; simp [IntKind.wrap, IntKind.bits, IntKind.signed]; omega
        have hb := HP.out.best HDN.out
        rw [← HNB.out] at hb
        have hmv := (HP.out.moved hn3 hb).1
        have hq1 : n < qa.length := by omega
        have hq2 : n < l.length := by omega
        have Rc0 := c1_of R_206
        go_upto_region 25 with fail
        clear Rc0
        have hd_219 := below_refl_drew W6
        have hB_220 := hB_203.trans (hd_219.mono hB_203.size)
        have C_221 := (hd_219.block _ (heap_lt C_204)).trans C_204
        have P_222 := (hd_219.block _ (heap_lt P_205)).trans P_205
        have R_223 := (hd_219.block _ (heap_lt R_206)).trans R_206
        have QA_224 := QA_207.below hd_219
        have hb_225 := hb_208.trans (hd_219.mono hb_208.size)
        have hs_226 := hd_219.size
        clear C_204 P_205 R_206 QA_207 hb_208 hd_219 hB_203
        refine wp_region_E (fun W => (W.heap[p_3]? = some (.cells #[.slice (some ⟨B, 0, none⟩) 3 cap] 24)) ∧ (W.heap[w.heap.size]? = some (.cells #[.slice (some ⟨al, ol, none⟩) 3 c] 24)) ∧ (HoldsQ W (some ⟨B, 0, none⟩) qa) ∧ (HoldsQ W (some ⟨al, ol, none⟩) l)) (fun _ => false) (by kernel_rfl) ⟨R_223, C_221, QA_224.here, (h.below hB_220)⟩ (fun hS => ?_)
        clear hS
        generalize W6.drew = W_227 at *
        refine wpAnyE.take (i := 0) (v := ?_) rfl (by kernel_rfl) (by kernel_rfl) (by kernel_rfl) (by kernel_rfl) (fun _ _ _ h => h) (Or.inl ⟨by rfl, ?_⟩) ⟨R_223, C_221, QA_224.here, (h.below hB_220)⟩ ?_
        rotate_left
        · intro w hSw; obtain ⟨s1, s2, s3, s4⟩ := hSw; have e1 := c1_of s1; have e2 := c1_of s2; obtain ⟨x0, x1, x2, x3, x4, x5, x6⟩ := (s3.at hq1).1; obtain ⟨v0, v1, v2, v3, v4, v5, v6⟩ := (s4.at hq2).1; simp only [Nat.zero_add] at x0 x1 x2 x3 x4 x5 x6; clear s1 s2 s3 s4; go_simp; with_reducible rfl
        try simp only [Act.put, List.getElem_toArray, List.getElem_cons_zero, List.setIfInBounds_toArray, List.set_cons_zero, List.set_cons_succ]
        refine wpAnyE.take (i := 1) (v := ?_) rfl (by kernel_rfl) (by kernel_rfl) (by kernel_rfl) (by kernel_rfl) (fun _ _ _ h => h) (Or.inl ⟨by rfl, ?_⟩) ⟨R_223, C_221, QA_224.here, (h.below hB_220)⟩ ?_
        rotate_left
        · intro w hSw; obtain ⟨s1, s2, s3, s4⟩ := hSw; have e1 := c1_of s1; have e2 := c1_of s2; obtain ⟨x0, x1, x2, x3, x4, x5, x6⟩ := (s3.at hq1).1; obtain ⟨v0, v1, v2, v3, v4, v5, v6⟩ := (s4.at hq2).1; simp only [Nat.zero_add] at x0 x1 x2 x3 x4 x5 x6; clear s1 s2 s3 s4; go_simp; with_reducible rfl
        try simp only [Act.put, List.getElem_toArray, List.getElem_cons_succ, List.getElem_cons_zero, List.setIfInBounds_toArray, List.set_cons_zero, List.set_cons_succ]
        refine wpAnyE.take (i := 2) (v := ?_) rfl (by kernel_rfl) (by kernel_rfl) (by kernel_rfl) (by kernel_rfl) (fun _ _ _ h => h) (Or.inl ⟨by rfl, ?_⟩) ⟨R_223, C_221, QA_224.here, (h.below hB_220)⟩ ?_
        rotate_left
        · intro w hSw; obtain ⟨s1, s2, s3, s4⟩ := hSw; have e1 := c1_of s1; have e2 := c1_of s2; obtain ⟨x0, x1, x2, x3, x4, x5, x6⟩ := (s3.at hq1).1; obtain ⟨v0, v1, v2, v3, v4, v5, v6⟩ := (s4.at hq2).1; simp only [Nat.zero_add] at x0 x1 x2 x3 x4 x5 x6; clear s1 s2 s3 s4; go_simp; with_reducible rfl
        try simp only [Act.put, List.getElem_toArray, List.getElem_cons_succ, List.getElem_cons_zero, List.setIfInBounds_toArray, List.set_cons_zero, List.set_cons_succ]
        refine wpAnyE.take (i := 3) (v := ?_) rfl (by kernel_rfl) (by kernel_rfl) (by kernel_rfl) (by kernel_rfl) (fun _ _ _ h => h) (Or.inl ⟨by rfl, ?_⟩) ⟨R_223, C_221, QA_224.here, (h.below hB_220)⟩ ?_
        rotate_left
        · intro w hSw; obtain ⟨s1, s2, s3, s4⟩ := hSw; have e1 := c1_of s1; have e2 := c1_of s2; obtain ⟨x0, x1, x2, x3, x4, x5, x6⟩ := (s3.at hq1).1; obtain ⟨v0, v1, v2, v3, v4, v5, v6⟩ := (s4.at hq2).1; simp only [Nat.zero_add] at x0 x1 x2 x3 x4 x5 x6; clear s1 s2 s3 s4; go_simp; with_reducible rfl
        try simp only [Act.put, List.getElem_toArray, List.getElem_cons_succ, List.getElem_cons_zero, List.setIfInBounds_toArray, List.set_cons_zero, List.set_cons_succ]
        refine wpAnyE.take (i := 5) (v := ?_) rfl (by kernel_rfl) (by kernel_rfl) (by kernel_rfl) (by kernel_rfl) (fun _ _ _ h => h) (Or.inl ⟨by rfl, ?_⟩) ⟨R_223, C_221, QA_224.here, (h.below hB_220)⟩ ?_
        rotate_left
        · intro w hSw; obtain ⟨s1, s2, s3, s4⟩ := hSw; have e1 := c1_of s1; have e2 := c1_of s2; obtain ⟨x0, x1, x2, x3, x4, x5, x6⟩ := (s3.at hq1).1; obtain ⟨v0, v1, v2, v3, v4, v5, v6⟩ := (s4.at hq2).1; simp only [Nat.zero_add] at x0 x1 x2 x3 x4 x5 x6; clear s1 s2 s3 s4; go_simp; with_reducible rfl
        try simp only [Act.put, List.getElem_toArray, List.getElem_cons_succ, List.getElem_cons_zero, List.setIfInBounds_toArray, List.set_cons_zero, List.set_cons_succ]
        refine wpAnyE.take (i := 4) (v := ?_) rfl (by kernel_rfl) (by kernel_rfl) (by kernel_rfl) (by kernel_rfl) (fun _ _ _ h => h) (Or.inl ⟨by rfl, ?_⟩) ⟨R_223, C_221, QA_224.here, (h.below hB_220)⟩ ?_
        rotate_left
        · intro w hSw; obtain ⟨s1, s2, s3, s4⟩ := hSw; have e1 := c1_of s1; have e2 := c1_of s2; obtain ⟨x0, x1, x2, x3, x4, x5, x6⟩ := (s3.at hq1).1; obtain ⟨v0, v1, v2, v3, v4, v5, v6⟩ := (s4.at hq2).1; simp only [Nat.zero_add] at x0 x1 x2 x3 x4 x5 x6; clear s1 s2 s3 s4; go_simp; with_reducible rfl
        try simp only [Act.put, List.getElem_toArray, List.getElem_cons_succ, List.getElem_cons_zero, List.setIfInBounds_toArray, List.set_cons_zero, List.set_cons_succ]
        refine wpAnyE.take (i := 6) (v := ?_) rfl (by kernel_rfl) (by kernel_rfl) (by kernel_rfl) (by kernel_rfl) (fun _ _ _ h => h) (Or.inl ⟨by rfl, ?_⟩) ⟨R_223, C_221, QA_224.here, (h.below hB_220)⟩ ?_
        rotate_left
        · intro w hSw; obtain ⟨s1, s2, s3, s4⟩ := hSw; have e1 := c1_of s1; have e2 := c1_of s2; obtain ⟨x0, x1, x2, x3, x4, x5, x6⟩ := (s3.at hq1).1; obtain ⟨v0, v1, v2, v3, v4, v5, v6⟩ := (s4.at hq2).1; simp only [Nat.zero_add] at x0 x1 x2 x3 x4 x5 x6; clear s1 s2 s3 s4; go_simp; with_reducible rfl
        try simp only [Act.put, List.getElem_toArray, List.getElem_cons_succ, List.getElem_cons_zero, List.setIfInBounds_toArray, List.set_cons_zero, List.set_cons_succ]
        refine wpAnyE.take (i := 7) (v := ?_) rfl (by kernel_rfl) (by kernel_rfl) (by kernel_rfl) (by kernel_rfl) (fun _ _ _ h => h) (Or.inl ⟨by rfl, ?_⟩) ⟨R_223, C_221, QA_224.here, (h.below hB_220)⟩ ?_
        rotate_left
        · intro w hSw; obtain ⟨s1, s2, s3, s4⟩ := hSw; have e1 := c1_of s1; have e2 := c1_of s2; obtain ⟨x0, x1, x2, x3, x4, x5, x6⟩ := (s3.at hq1).1; obtain ⟨v0, v1, v2, v3, v4, v5, v6⟩ := (s4.at hq2).1; simp only [Nat.zero_add] at x0 x1 x2 x3 x4 x5 x6; clear s1 s2 s3 s4; go_simp; with_reducible rfl
        try simp only [Act.put, List.getElem_toArray, List.getElem_cons_succ, List.getElem_cons_zero, List.setIfInBounds_toArray, List.set_cons_zero, List.set_cons_succ]
        refine wpAnyE.take (i := 8) (v := ?_) rfl (by kernel_rfl) (by kernel_rfl) (by kernel_rfl) (by kernel_rfl) (fun _ _ _ h => h) (Or.inl ⟨by rfl, ?_⟩) ⟨R_223, C_221, QA_224.here, (h.below hB_220)⟩ ?_
        rotate_left
        · intro w hSw; obtain ⟨s1, s2, s3, s4⟩ := hSw; have e1 := c1_of s1; have e2 := c1_of s2; obtain ⟨x0, x1, x2, x3, x4, x5, x6⟩ := (s3.at hq1).1; obtain ⟨v0, v1, v2, v3, v4, v5, v6⟩ := (s4.at hq2).1; simp only [Nat.zero_add] at x0 x1 x2 x3 x4 x5 x6; clear s1 s2 s3 s4; go_simp; with_reducible rfl
        try simp only [Act.put, List.getElem_toArray, List.getElem_cons_succ, List.getElem_cons_zero, List.setIfInBounds_toArray, List.set_cons_zero, List.set_cons_succ]
        refine wpAnyE.take (i := 9) (v := ?_) rfl (by kernel_rfl) (by kernel_rfl) (by kernel_rfl) (by kernel_rfl) (fun _ _ _ h => h) (Or.inl ⟨by rfl, ?_⟩) ⟨R_223, C_221, QA_224.here, (h.below hB_220)⟩ ?_
        rotate_left
        · intro w hSw; obtain ⟨s1, s2, s3, s4⟩ := hSw; have e1 := c1_of s1; have e2 := c1_of s2; obtain ⟨x0, x1, x2, x3, x4, x5, x6⟩ := (s3.at hq1).1; obtain ⟨v0, v1, v2, v3, v4, v5, v6⟩ := (s4.at hq2).1; simp only [Nat.zero_add] at x0 x1 x2 x3 x4 x5 x6; clear s1 s2 s3 s4; go_simp; with_reducible rfl
        try simp only [Act.put, List.getElem_toArray, List.getElem_cons_succ, List.getElem_cons_zero, List.setIfInBounds_toArray, List.set_cons_zero, List.set_cons_succ]
        refine wpAnyE.take (i := 10) (v := ?_) rfl (by kernel_rfl) (by kernel_rfl) (by kernel_rfl) (by kernel_rfl) (fun _ _ _ h => h) (Or.inl ⟨by rfl, ?_⟩) ⟨R_223, C_221, QA_224.here, (h.below hB_220)⟩ ?_
        rotate_left
        · intro w hSw; obtain ⟨s1, s2, s3, s4⟩ := hSw; have e1 := c1_of s1; have e2 := c1_of s2; obtain ⟨x0, x1, x2, x3, x4, x5, x6⟩ := (s3.at hq1).1; obtain ⟨v0, v1, v2, v3, v4, v5, v6⟩ := (s4.at hq2).1; simp only [Nat.zero_add] at x0 x1 x2 x3 x4 x5 x6; clear s1 s2 s3 s4; go_simp; with_reducible rfl
        try simp only [Act.put, List.getElem_toArray, List.getElem_cons_succ, List.getElem_cons_zero, List.setIfInBounds_toArray, List.set_cons_zero, List.set_cons_succ]
        refine wpAnyE.take (i := 12) (v := ?_) rfl (by kernel_rfl) (by kernel_rfl) (by kernel_rfl) (by kernel_rfl) (fun _ _ _ h => h) (Or.inl ⟨by rfl, ?_⟩) ⟨R_223, C_221, QA_224.here, (h.below hB_220)⟩ ?_
        rotate_left
        · intro w hSw; obtain ⟨s1, s2, s3, s4⟩ := hSw; have e1 := c1_of s1; have e2 := c1_of s2; obtain ⟨x0, x1, x2, x3, x4, x5, x6⟩ := (s3.at hq1).1; obtain ⟨v0, v1, v2, v3, v4, v5, v6⟩ := (s4.at hq2).1; simp only [Nat.zero_add] at x0 x1 x2 x3 x4 x5 x6; clear s1 s2 s3 s4; go_simp; with_reducible rfl
        try simp only [Act.put, List.getElem_toArray, List.getElem_cons_succ, List.getElem_cons_zero, List.setIfInBounds_toArray, List.set_cons_zero, List.set_cons_succ]
        refine wpAnyE.take (i := 15) (v := ?_) rfl (by kernel_rfl) (by kernel_rfl) (by kernel_rfl) (by kernel_rfl) (fun _ _ _ h => h) (Or.inl ⟨by rfl, ?_⟩) ⟨R_223, C_221, QA_224.here, (h.below hB_220)⟩ ?_
        rotate_left
        · intro w hSw; obtain ⟨s1, s2, s3, s4⟩ := hSw; have e1 := c1_of s1; have e2 := c1_of s2; obtain ⟨x0, x1, x2, x3, x4, x5, x6⟩ := (s3.at hq1).1; obtain ⟨v0, v1, v2, v3, v4, v5, v6⟩ := (s4.at hq2).1; simp only [Nat.zero_add] at x0 x1 x2 x3 x4 x5 x6; clear s1 s2 s3 s4; go_simp; with_reducible rfl
        try simp only [Act.put, List.getElem_toArray, List.getElem_cons_succ, List.getElem_cons_zero, List.setIfInBounds_toArray, List.set_cons_zero, List.set_cons_succ]
        refine wpAnyE.take (i := 17) (v := ?_) rfl (by kernel_rfl) (by kernel_rfl) (by kernel_rfl) (by kernel_rfl) (fun _ _ _ h => h) (Or.inl ⟨by rfl, ?_⟩) ⟨R_223, C_221, QA_224.here, (h.below hB_220)⟩ ?_
        rotate_left
        · intro w hSw; obtain ⟨s1, s2, s3, s4⟩ := hSw; have e1 := c1_of s1; have e2 := c1_of s2; obtain ⟨x0, x1, x2, x3, x4, x5, x6⟩ := (s3.at hq1).1; obtain ⟨v0, v1, v2, v3, v4, v5, v6⟩ := (s4.at hq2).1; simp only [Nat.zero_add] at x0 x1 x2 x3 x4 x5 x6; clear s1 s2 s3 s4; go_simp; with_reducible rfl
        try simp only [Act.put, List.getElem_toArray, List.getElem_cons_succ, List.getElem_cons_zero, List.setIfInBounds_toArray, List.set_cons_zero, List.set_cons_succ]
        refine wpAnyE.take (i := 11) (v := ?_) rfl (by kernel_rfl) (by kernel_rfl) (by kernel_rfl) (by kernel_rfl) (fun _ _ _ h => h) (Or.inl ⟨by rfl, ?_⟩) ⟨R_223, C_221, QA_224.here, (h.below hB_220)⟩ ?_
        rotate_left
        · intro w hSw; obtain ⟨s1, s2, s3, s4⟩ := hSw; have e1 := c1_of s1; have e2 := c1_of s2; obtain ⟨x0, x1, x2, x3, x4, x5, x6⟩ := (s3.at hq1).1; obtain ⟨v0, v1, v2, v3, v4, v5, v6⟩ := (s4.at hq2).1; simp only [Nat.zero_add] at x0 x1 x2 x3 x4 x5 x6; clear s1 s2 s3 s4; go_simp; with_reducible rfl
        try simp only [Act.put, List.getElem_toArray, List.getElem_cons_succ, List.getElem_cons_zero, List.setIfInBounds_toArray, List.set_cons_zero, List.set_cons_succ]
        refine wpAnyE.take (i := 16) (v := ?_) rfl (by kernel_rfl) (by kernel_rfl) (by kernel_rfl) (by kernel_rfl) (fun _ _ _ h => h) (Or.inl ⟨by rfl, ?_⟩) ⟨R_223, C_221, QA_224.here, (h.below hB_220)⟩ ?_
        rotate_left
        · intro w hSw; obtain ⟨s1, s2, s3, s4⟩ := hSw; have e1 := c1_of s1; have e2 := c1_of s2; obtain ⟨x0, x1, x2, x3, x4, x5, x6⟩ := (s3.at hq1).1; obtain ⟨v0, v1, v2, v3, v4, v5, v6⟩ := (s4.at hq2).1; simp only [Nat.zero_add] at x0 x1 x2 x3 x4 x5 x6; clear s1 s2 s3 s4; go_simp; with_reducible rfl
        try simp only [Act.put, List.getElem_toArray, List.getElem_cons_succ, List.getElem_cons_zero, List.setIfInBounds_toArray, List.set_cons_zero, List.set_cons_succ]
        refine wpAnyE.take (i := 13) (v := ?_) rfl (by kernel_rfl) (by kernel_rfl) (by kernel_rfl) (by kernel_rfl) (fun _ _ _ h => h) (Or.inl ⟨by rfl, ?_⟩) ⟨R_223, C_221, QA_224.here, (h.below hB_220)⟩ ?_
        rotate_left
        · intro w hSw; obtain ⟨s1, s2, s3, s4⟩ := hSw; have e1 := c1_of s1; have e2 := c1_of s2; obtain ⟨x0, x1, x2, x3, x4, x5, x6⟩ := (s3.at hq1).1; obtain ⟨v0, v1, v2, v3, v4, v5, v6⟩ := (s4.at hq2).1; simp only [Nat.zero_add] at x0 x1 x2 x3 x4 x5 x6; clear s1 s2 s3 s4; go_simp; with_reducible rfl
        try simp only [Act.put, List.getElem_toArray, List.getElem_cons_succ, List.getElem_cons_zero, List.setIfInBounds_toArray, List.set_cons_zero, List.set_cons_succ]
        refine wpAnyE.take (i := 18) (v := ?_) rfl (by kernel_rfl) (by kernel_rfl) (by kernel_rfl) (by kernel_rfl) (fun _ _ _ h => h) (Or.inl ⟨by rfl, ?_⟩) ⟨R_223, C_221, QA_224.here, (h.below hB_220)⟩ ?_
        rotate_left
        · intro w hSw; obtain ⟨s1, s2, s3, s4⟩ := hSw; have e1 := c1_of s1; have e2 := c1_of s2; obtain ⟨x0, x1, x2, x3, x4, x5, x6⟩ := (s3.at hq1).1; obtain ⟨v0, v1, v2, v3, v4, v5, v6⟩ := (s4.at hq2).1; simp only [Nat.zero_add] at x0 x1 x2 x3 x4 x5 x6; clear s1 s2 s3 s4; go_simp; with_reducible rfl
        try simp only [Act.put, List.getElem_toArray, List.getElem_cons_succ, List.getElem_cons_zero, List.setIfInBounds_toArray, List.set_cons_zero, List.set_cons_succ]
        refine wpAnyE.take (i := 14) (v := ?_) rfl (by kernel_rfl) (by kernel_rfl) (by kernel_rfl) (by kernel_rfl) (fun _ _ _ h => h) (Or.inl ⟨by rfl, ?_⟩) ⟨R_223, C_221, QA_224.here, (h.below hB_220)⟩ ?_
        rotate_left
        · intro w hSw; obtain ⟨s1, s2, s3, s4⟩ := hSw; have e1 := c1_of s1; have e2 := c1_of s2; obtain ⟨x0, x1, x2, x3, x4, x5, x6⟩ := (s3.at hq1).1; obtain ⟨v0, v1, v2, v3, v4, v5, v6⟩ := (s4.at hq2).1; simp only [Nat.zero_add] at x0 x1 x2 x3 x4 x5 x6; clear s1 s2 s3 s4; go_simp; with_reducible rfl
        try simp only [Act.put, List.getElem_toArray, List.getElem_cons_succ, List.getElem_cons_zero, List.setIfInBounds_toArray, List.set_cons_zero, List.set_cons_succ]
        refine wpAnyE.take (i := 19) (v := ?_) rfl (by kernel_rfl) (by kernel_rfl) (by kernel_rfl) (by kernel_rfl) (fun _ _ _ h => h) (Or.inl ⟨by rfl, ?_⟩) ⟨R_223, C_221, QA_224.here, (h.below hB_220)⟩ ?_
        rotate_left
        · intro w hSw; obtain ⟨s1, s2, s3, s4⟩ := hSw; have e1 := c1_of s1; have e2 := c1_of s2; obtain ⟨x0, x1, x2, x3, x4, x5, x6⟩ := (s3.at hq1).1; obtain ⟨v0, v1, v2, v3, v4, v5, v6⟩ := (s4.at hq2).1; simp only [Nat.zero_add] at x0 x1 x2 x3 x4 x5 x6; clear s1 s2 s3 s4; go_simp; with_reducible rfl
        try simp only [Act.put, List.getElem_toArray, List.getElem_cons_succ, List.getElem_cons_zero, List.setIfInBounds_toArray, List.set_cons_zero, List.set_cons_succ]
        refine wpAnyE.one (i := 20) (by kernel_rfl) rfl (fun K hK => ?_)
        have hc_228 := sameRq_any qa[n] l[n] W_227 (QA_224.here.at hq1).2 ((h.below hB_220).at hq2).2
        go_simp
        refine hc_228.mono ?_
        clear hc_228
        rintro e W_229 ⟨r, rfl, hr, h⟩
        have hB_230 := hB_220.trans (h.mono hB_220.size)
        have C_231 := (h.block _ (heap_lt C_221)).trans C_221
        have P_232 := (h.block _ (heap_lt P_222)).trans P_222
        have R_233 := (h.block _ (heap_lt R_223)).trans R_223
        have QA_234 := QA_224.below h
        have hb_235 := hb_225.trans (h.mono hb_225.size)
        have hs_236 := h.size
        clear C_221 P_222 R_223 QA_224 hb_225 h hB_220
        obtain rfl : r = false := by
          cases r with
          | false => rfl
          | true => exact absurd ((HX.out n hq1).symm.trans ((hr.1 rfl).trans (HY.out n hq2))) hmv
        clear hr hmv
        refine hK _ _ (fun _ => ⟨R_233, C_231, QA_234.here, (h.below hB_230)⟩) ?_
        clear hK K
        try simp only [Act.put, List.getElem_toArray, List.getElem_cons_succ, List.getElem_cons_zero, List.setIfInBounds_toArray, List.set_cons_zero, List.set_cons_succ]
        refine wpAnyE.take (i := 21) (v := ?_) rfl (by kernel_rfl) (by kernel_rfl) (by kernel_rfl) (by kernel_rfl) (fun _ _ _ h => h) (Or.inl ⟨by rfl, ?_⟩) ⟨R_233, C_231, QA_234.here, (h.below hB_230)⟩ ?_
        rotate_left
        · intro w hSw; obtain ⟨s1, s2, s3, s4⟩ := hSw; have e1 := c1_of s1; have e2 := c1_of s2; obtain ⟨x0, x1, x2, x3, x4, x5, x6⟩ := (s3.at hq1).1; obtain ⟨v0, v1, v2, v3, v4, v5, v6⟩ := (s4.at hq2).1; simp only [Nat.zero_add] at x0 x1 x2 x3 x4 x5 x6; clear s1 s2 s3 s4; go_simp; with_reducible rfl
        try simp only [Act.put, List.getElem_toArray, List.getElem_cons_succ, List.getElem_cons_zero, List.setIfInBounds_toArray, List.set_cons_zero, List.set_cons_succ]
        refine wpAnyE.take (i := 22) (v := ?_) rfl (by kernel_rfl) (by kernel_rfl) (by kernel_rfl) (by kernel_rfl) (fun _ _ _ h => h) (Or.inl ⟨by rfl, ?_⟩) ⟨R_233, C_231, QA_234.here, (h.below hB_230)⟩ ?_
        rotate_left
        · intro w hSw; obtain ⟨s1, s2, s3, s4⟩ := hSw; have e1 := c1_of s1; have e2 := c1_of s2; obtain ⟨x0, x1, x2, x3, x4, x5, x6⟩ := (s3.at hq1).1; obtain ⟨v0, v1, v2, v3, v4, v5, v6⟩ := (s4.at hq2).1; simp only [Nat.zero_add] at x0 x1 x2 x3 x4 x5 x6; clear s1 s2 s3 s4; go_simp; with_reducible rfl
        try simp only [Act.put, List.getElem_toArray, List.getElem_cons_succ, List.getElem_cons_zero, List.setIfInBounds_toArray, List.set_cons_zero, List.set_cons_succ]
        refine wpAnyE.take (i := 23) (v := ?_) rfl (by kernel_rfl) (by kernel_rfl) (by kernel_rfl) (by kernel_rfl) (fun _ _ _ h => h) (Or.inl ⟨by rfl, ?_⟩) ⟨R_233, C_231, QA_234.here, (h.below hB_230)⟩ ?_
        rotate_left
        · intro w hSw; obtain ⟨s1, s2, s3, s4⟩ := hSw; have e1 := c1_of s1; have e2 := c1_of s2; obtain ⟨x0, x1, x2, x3, x4, x5, x6⟩ := (s3.at hq1).1; obtain ⟨v0, v1, v2, v3, v4, v5, v6⟩ := (s4.at hq2).1; simp only [Nat.zero_add] at x0 x1 x2 x3 x4 x5 x6; clear s1 s2 s3 s4; go_simp; with_reducible rfl
        try simp only [Act.put, List.getElem_toArray, List.getElem_cons_succ, List.getElem_cons_zero, List.setIfInBounds_toArray, List.set_cons_zero, List.set_cons_succ]
        refine wpAnyE.one (i := 24) (by kernel_rfl) rfl (fun K hK => ?_)
        go_simp
        refine hK _ _ (fun _ => ⟨R_233, C_231, QA_234.here, (h.below hB_230)⟩) ?_
        clear hK K
        try simp only [Act.put, List.getElem_toArray, List.getElem_cons_succ, List.getElem_cons_zero, List.setIfInBounds_toArray, List.set_cons_zero, List.set_cons_succ]
        refine wpAnyE.done (by kernel_rfl) ?_
        have HB := hB_230
        go_wp2
        go_ret
        exact ⟨rfl, HB⟩
end Go.Proofs.YtehmlpkapjdhkaaGreatDoor
