import Derived.Test.YtehmlpkapjdhkaaGreatDoorMY4
namespace Go.Proofs.YtehmlpkapjdhkaaGreatDoor
open Go.RowKit
set_option maxRecDepth 100000

/-- late, and those that take no part, up to the k-th. -/
def othTo (up late : Int) : Nat → Int
  | 0 => late
  | k + 1 => if (!bitB up k && !bitB (othTo up late k) k) = true then othTo up late k + (2 ^ k : Nat) else othTo up late k
theorem oth_all : ∀ (u l : Fin 8) (k : Fin 4), 0 ≤ othTo (u.val : Int) (l.val : Int) k.val ∧ othTo (u.val : Int) (l.val : Int) k.val < 8 ∧ ∀ i : Fin 3, bitB (u.val : Int) i.val = true → bitB (l.val : Int) i.val = bitB (othTo (u.val : Int) (l.val : Int) k.val) i.val := by decide +kernel
theorem oth_ok {up late : Int} (hu : 0 ≤ up ∧ up < 8) (hl : 0 ≤ late ∧ late < 8) {k : Nat} (hk : k ≤ 3) : 0 ≤ othTo up late k ∧ othTo up late k < 8 ∧ ∀ i, i < 3 → bitB up i = true → bitB late i = bitB (othTo up late k) i := by
  obtain ⟨n, rfl⟩ := Int.eq_ofNat_of_zero_le hu.1
  obtain ⟨m, rfl⟩ := Int.eq_ofNat_of_zero_le hl.1
  obtain ⟨h1, h2, h3⟩ := oth_all ⟨n, by omega⟩ ⟨m, by omega⟩ ⟨k, by omega⟩
  exact ⟨h1, h2, fun i hi hb => h3 ⟨i, hi⟩ hb⟩

set_option maxHeartbeats 16000000 in
theorem clusterBits_any (a : Option Addr) (c : Nat) (l : List Rq) (am : Option Addr) (cm : Nat) (m : List Ob) (au : Option Addr) (cu : Nat) (us : List Up) (f : Bool) (up late : Int) (w : World) (hg : Glob w) (ht : Tab w) (h : HoldsQ w a l) (hlc : l.length ≤ c) (hcm : c ≤ 9223372036854775807) (hm : HoldsS w am m) (hml : m.length ≤ 9223372036854775807) (hu : HoldsU w au us) (hul : us.length ≤ 9223372036854775807) :
    Calls Tryz.prog 4 #[.agg #[.slice a l.length c], pushV am m.length cm au us.length cu f, .int .i64 up, .int .i64 late] w fun e w' => e = .returned (.bool true) ∧ Below w.heap.size w w' := by
  have hA := below_alloc2 w (.cells #[.slice a l.length c] 24) (.cells #[.slice am m.length cm, .slice au us.length cu, .bool f] 28)
  obtain ⟨k4, k5⟩ := two_blocks w (.cells #[.slice a l.length c] 24) (.cells #[.slice am m.length cm, .slice au us.length cu, .bool f] 28)
  have y4 := c1_of k4
  obtain ⟨y5, y6, y7⟩ := c3_of k5
  have hpu := push_any a c l am cm m au cu us f up late _ (hg.below hA) (ht.below hA) (h.below hA) hlc hcm (hm.below hA) hml (hu.below hA) hul
  go_enter Tryz.func4, Tryz.ntmps4
  go_wp2_with fail
  generalize (w.alloc (.cells #[.slice a l.length c] 24)).alloc (.cells #[.slice am m.length cm, .slice au us.length cu, .bool f] 28) = W0 at *
  refine hpu.mono ?_
  clear hpu y4 y5 y6 y7
  rintro e W1 ⟨hb1, hpost⟩
  have hB1 := hA.trans (hb1.mono hA.size)
  have k41 := (hb1.block _ (heap_lt k4)).trans k4
  have k51 := (hb1.block _ (heap_lt k5)).trans k5
  clear hb1 hA k4 k5
  rcases hpost with ⟨hne, rfl⟩ | ⟨hz, B, cap, qa, rfl, hMA, hDA, hca, hcb⟩
  · have hA := below_alloc W1 (.cells #[.slice none 0 0] 24)
    have q1 : (pE (l.map Rq.r) m us f up late != 0) = true := by simpa using hne
    have hB2 := hB1.trans (hA.mono hB1.size)
    clear hne k41 k51 hA hB1
    go_wp2_with fail
    generalize W1.alloc (.cells #[.slice none 0 0] 24) = W2 at *
    refine (clusterBegun_any W2 (hg.below hB2) (ht.below hB2)).mono ?_
    rintro e W3 ⟨rfl, hb3⟩
    have hB3 := hB2.trans (hb3.mono hB2.size)
    clear hB2 hb3
    generalize pE (l.map Rq.r) m us f up late = E at *
    go_wp2
    go_ret
    exact ⟨rfl, hB3⟩
  have HPZ : Hid (pE (l.map Rq.r) m us f up late = 0) := hz
  have HP : Hid (Pushed (l.map Rq.r) m us f up late) := pushed hz
  obtain ⟨hur, hlr⟩ := (cpE_zero.1 (pE_zero hz).1).2.2
  have hl3 : l.length = 3 := by have := HP.out.len; simpa using this
  have hqa : qa.length = 3 := rOf_len hMA rfl
  have HMA : Hid (qa.map Rq.r = eL (l.map Rq.r) m us f up late) := hMA
  have HX : Hid (∀ i (hi : i < qa.length), qa[i].r = eI (l.map Rq.r) m us f up late i) := fun i hi => by rw [rOf_q hMA hi]; exact rOf_eL (by omega)
  have HY : Hid (∀ i (hi : i < l.length), l[i].r = rOf (l.map Rq.r) i) := fun i hi => rOf_q rfl hi
  obtain ⟨hu0, hu1⟩ := hur
  obtain ⟨hl0, hl1⟩ := hlr
  obtain ⟨dn, HDN⟩ : ∃ dn, Hid (doI (l.map Rq.r) m us f up late = dn) := ⟨_, rfl⟩
  rw [HDN.out]
  obtain ⟨al, ol, rfl⟩ := h.some (by omega)
  rw [hl3] at k41
  rw [hl3]
  have hlc3 : 3 ≤ c := by omega
  clear hz hMA hlc
  have hA_1 := below_alloc W1 (.cells #[.slice (some ⟨B, 0, none⟩) 3 cap] 24)
  have R_2 := heap_alloc_new W1 (.cells #[.slice (some ⟨B, 0, none⟩) 3 cap] 24)
  obtain ⟨p_3, p_3e⟩ : ∃ p, p = W1.heap.size := ⟨_, rfl⟩
  rw [← p_3e] at R_2
  have hB_4 := hB1.trans (hA_1.mono hB1.size)
  have C_5 := (hA_1.block _ (heap_lt k41)).trans k41
  have P_6 := (hA_1.block _ (heap_lt k51)).trans k51
  have QA_7 := hDA.below hA_1
  have hs_8 := hA_1.size
  clear k41 k51 hDA hA_1 hB1
  have Rc0 := c1_of R_2
  have hc_10 := clusterBegun_any _ (hg.below hB_4) (ht.below hB_4)
  go_wp2_with fail
  rw [← p_3e]
  clear p_3e
  generalize W1.alloc (.cells #[.slice (some ⟨B, 0, none⟩) 3 cap] 24) = W2 at *
  have hl_9 := heap_lt R_2
  refine hc_10.mono ?_
  clear hc_10
  rintro e W3 ⟨rfl, h3⟩
  have hB_11 := hB_4.trans (h3.mono hB_4.size)
  have C_12 := (h3.block _ (heap_lt C_5)).trans C_5
  have P_13 := (h3.block _ (heap_lt P_6)).trans P_6
  have R_14 := (h3.block _ (heap_lt R_2)).trans R_2
  have QA_15 := QA_7.below h3
  have hs_16 := h3.size
  clear C_5 P_6 R_2 QA_7 h3 hB_4 Rc0
  have Rc0 := c1_of R_14
  have Cc0 := c1_of C_12
  go_wp2_with fail
  go_loopw [12] (fun i wr => ∃ k : Nat, i = .int .i64 k ∧ k ≤ 3 ∧ Below W3.heap.size W3 wr) (fun i _ => 3 - (intOf i).toNat)
  case atStart => exact ⟨0, rfl, Nat.zero_le _, Below.refl _ _⟩
  case round =>
    clear Rc0 Cc0
    obtain ⟨k, rfl, hk, hbr⟩ := hrel
    have hB_17 := hB_11.trans (hbr.mono hB_11.size)
    have C_18 := (hbr.block _ (heap_lt C_12)).trans C_12
    have P_19 := (hbr.block _ (heap_lt P_13)).trans P_13
    have R_20 := (hbr.block _ (heap_lt R_14)).trans R_14
    have QA_21 := QA_15.below hbr
    have hs_22 := hbr.size
    clear C_12 P_13 R_14 QA_15 hB_11
    by_cases hlt : k < 3
    · skip
      have hq1 : k < qa.length := by omega
      have hq2 : k < l.length := by omega
      have hlt' : (k : Int) < 3 := by omega
      have HO := fun hn => HP.out.out HPZ.out hlt hn
      have HO : Hid _ := HO
      have hiu := fun W => isSet_any up k W hu0 hu1 hlt
      have hil := fun W => isSet_any late k W hl0 hl1 hlt
      have HBU : Hid (bitB up k = bitB up k) := rfl
      cases hbu : bitB up k with
      | false =>
        rw [hbu] at hiu
        have HW : Hid (bitB up k = false) := hbu
        clear hbu
        have Rc0 := c1_of R_20
        have Cc0 := c1_of C_18
        go_upto_region 11 with fail
        clear Rc0 Cc0
        have hd_23 := below_refl_drew wr
        have hB_24 := hB_17.trans (hd_23.mono hB_17.size)
        have C_25 := (hd_23.block _ (heap_lt C_18)).trans C_18
        have P_26 := (hd_23.block _ (heap_lt P_19)).trans P_19
        have R_27 := (hd_23.block _ (heap_lt R_20)).trans R_20
        have QA_28 := QA_21.below hd_23
        have hb_29 := hbr.trans (hd_23.mono hbr.size)
        have hs_30 := hd_23.size
        clear C_18 P_19 R_20 QA_21 hbr hd_23 hB_17
        refine wp_region_E (fun W => (W.heap[p_3]? = some (.cells #[.slice (some ⟨B, 0, none⟩) 3 cap] 24)) ∧ (W.heap[w.heap.size]? = some (.cells #[.slice (some ⟨al, ol, none⟩) 3 c] 24)) ∧ (HoldsQ W (some ⟨B, 0, none⟩) qa) ∧ (HoldsQ W (some ⟨al, ol, none⟩) l)) (fun _ => false) (by kernel_rfl) ⟨R_27, C_25, QA_28.here, (h.below hB_24)⟩ (fun hS => ?_)
        clear hS
        generalize wr.drew = W_31 at *
        refine wpAnyE.take (i := 0) (v := ?_) rfl (by kernel_rfl) (by kernel_rfl) (by kernel_rfl) (by kernel_rfl) (fun _ _ _ h => h) (Or.inl ⟨by rfl, ?_⟩) ⟨R_27, C_25, QA_28.here, (h.below hB_24)⟩ ?_
        rotate_left
        · intro w hSw; obtain ⟨s1, s2, s3, s4⟩ := hSw; have e1 := c1_of s1; have e2 := c1_of s2; obtain ⟨x0, x1, x2, x3, x4, x5, x6⟩ := (s3.at hq1).1; obtain ⟨v0, v1, v2, v3, v4, v5, v6⟩ := (s4.at hq2).1; simp only [Nat.zero_add] at x0 x1 x2 x3 x4 x5 x6; clear s1 s2 s3 s4; go_simp; with_reducible rfl
        try simp only [Act.put, List.getElem_toArray, List.getElem_cons_zero, List.setIfInBounds_toArray, List.set_cons_zero, List.set_cons_succ]
        refine wpAnyE.take (i := 1) (v := ?_) rfl (by kernel_rfl) (by kernel_rfl) (by kernel_rfl) (by kernel_rfl) (fun _ _ _ h => h) (Or.inl ⟨by rfl, ?_⟩) ⟨R_27, C_25, QA_28.here, (h.below hB_24)⟩ ?_
        rotate_left
        · intro w hSw; obtain ⟨s1, s2, s3, s4⟩ := hSw; have e1 := c1_of s1; have e2 := c1_of s2; obtain ⟨x0, x1, x2, x3, x4, x5, x6⟩ := (s3.at hq1).1; obtain ⟨v0, v1, v2, v3, v4, v5, v6⟩ := (s4.at hq2).1; simp only [Nat.zero_add] at x0 x1 x2 x3 x4 x5 x6; clear s1 s2 s3 s4; go_simp; with_reducible rfl
        try simp only [Act.put, List.getElem_toArray, List.getElem_cons_succ, List.getElem_cons_zero, List.setIfInBounds_toArray, List.set_cons_zero, List.set_cons_succ]
        refine wpAnyE.one (i := 2) (by kernel_rfl) rfl (fun K hK => ?_)
        have hc_32 := hiu W_31
        go_simp
        refine hc_32.mono ?_
        clear hc_32
        rintro e W_33 ⟨rfl, h⟩
        have hB_34 := hB_24.trans (h.mono hB_24.size)
        have C_35 := (h.block _ (heap_lt C_25)).trans C_25
        have P_36 := (h.block _ (heap_lt P_26)).trans P_26
        have R_37 := (h.block _ (heap_lt R_27)).trans R_27
        have QA_38 := QA_28.below h
        have hb_39 := hb_29.trans (h.mono hb_29.size)
        have hs_40 := h.size
        clear C_25 P_26 R_27 QA_28 hb_29 h hB_24
        refine hK _ _ (fun _ => ⟨R_37, C_35, QA_38.here, (h.below hB_34)⟩) ?_
        clear hK K
        try simp only [Act.put, List.getElem_toArray, List.getElem_cons_succ, List.getElem_cons_zero, List.setIfInBounds_toArray, List.set_cons_zero, List.set_cons_succ]
        refine wpAnyE.take (i := 3) (v := ?_) rfl (by kernel_rfl) (by kernel_rfl) (by kernel_rfl) (by kernel_rfl) (fun _ _ _ h => h) (Or.inl ⟨by rfl, ?_⟩) ⟨R_37, C_35, QA_38.here, (h.below hB_34)⟩ ?_
        rotate_left
        · intro w hSw; obtain ⟨s1, s2, s3, s4⟩ := hSw; have e1 := c1_of s1; have e2 := c1_of s2; obtain ⟨x0, x1, x2, x3, x4, x5, x6⟩ := (s3.at hq1).1; obtain ⟨v0, v1, v2, v3, v4, v5, v6⟩ := (s4.at hq2).1; simp only [Nat.zero_add] at x0 x1 x2 x3 x4 x5 x6; clear s1 s2 s3 s4; go_simp; with_reducible rfl
        try simp only [Act.put, List.getElem_toArray, List.getElem_cons_succ, List.getElem_cons_zero, List.setIfInBounds_toArray, List.set_cons_zero, List.set_cons_succ]
        refine wpAnyE.take (i := 4) (v := ?_) rfl (by kernel_rfl) (by kernel_rfl) (by kernel_rfl) (by kernel_rfl) (fun _ _ _ h => h) (Or.inl ⟨by rfl, ?_⟩) ⟨R_37, C_35, QA_38.here, (h.below hB_34)⟩ ?_
        rotate_left
        · intro w hSw; obtain ⟨s1, s2, s3, s4⟩ := hSw; have e1 := c1_of s1; have e2 := c1_of s2; obtain ⟨x0, x1, x2, x3, x4, x5, x6⟩ := (s3.at hq1).1; obtain ⟨v0, v1, v2, v3, v4, v5, v6⟩ := (s4.at hq2).1; simp only [Nat.zero_add] at x0 x1 x2 x3 x4 x5 x6; clear s1 s2 s3 s4; go_simp; with_reducible rfl
        try simp only [Act.put, List.getElem_toArray, List.getElem_cons_succ, List.getElem_cons_zero, List.setIfInBounds_toArray, List.set_cons_zero, List.set_cons_succ]
        refine wpAnyE.take (i := 5) (v := undef) rfl (by kernel_rfl) (by kernel_rfl) (by kernel_rfl) (by kernel_rfl) (fun _ _ _ h => h) (Or.inr ⟨by rfl, rfl⟩) ⟨R_37, C_35, QA_38.here, (h.below hB_34)⟩ ?_
        try simp only [Act.put, List.getElem_toArray, List.getElem_cons_succ, List.getElem_cons_zero, List.setIfInBounds_toArray, List.set_cons_zero, List.set_cons_succ]
        refine wpAnyE.take (i := 6) (v := undef) rfl (by kernel_rfl) (by kernel_rfl) (by kernel_rfl) (by kernel_rfl) (fun _ _ _ h => h) (Or.inr ⟨by rfl, rfl⟩) ⟨R_37, C_35, QA_38.here, (h.below hB_34)⟩ ?_
        try simp only [Act.put, List.getElem_toArray, List.getElem_cons_succ, List.getElem_cons_zero, List.setIfInBounds_toArray, List.set_cons_zero, List.set_cons_succ]
        refine wpAnyE.take (i := 7) (v := undef) rfl (by kernel_rfl) (by kernel_rfl) (by kernel_rfl) (by kernel_rfl) (fun _ _ _ h => h) (Or.inr ⟨by rfl, rfl⟩) ⟨R_37, C_35, QA_38.here, (h.below hB_34)⟩ ?_
        try simp only [Act.put, List.getElem_toArray, List.getElem_cons_succ, List.getElem_cons_zero, List.setIfInBounds_toArray, List.set_cons_zero, List.set_cons_succ]
        refine wpAnyE.take (i := 8) (v := ?_) rfl (by kernel_rfl) (by kernel_rfl) (by kernel_rfl) (by kernel_rfl) (fun _ _ _ h => h) (Or.inl ⟨by rfl, ?_⟩) ⟨R_37, C_35, QA_38.here, (h.below hB_34)⟩ ?_
        rotate_left
        · intro w hSw; obtain ⟨s1, s2, s3, s4⟩ := hSw; have e1 := c1_of s1; have e2 := c1_of s2; obtain ⟨x0, x1, x2, x3, x4, x5, x6⟩ := (s3.at hq1).1; obtain ⟨v0, v1, v2, v3, v4, v5, v6⟩ := (s4.at hq2).1; simp only [Nat.zero_add] at x0 x1 x2 x3 x4 x5 x6; clear s1 s2 s3 s4; go_simp; with_reducible rfl
        try simp only [Act.put, List.getElem_toArray, List.getElem_cons_succ, List.getElem_cons_zero, List.setIfInBounds_toArray, List.set_cons_zero, List.set_cons_succ]
        refine wpAnyE.take (i := 9) (v := ?_) rfl (by kernel_rfl) (by kernel_rfl) (by kernel_rfl) (by kernel_rfl) (fun _ _ _ h => h) (Or.inl ⟨by rfl, ?_⟩) ⟨R_37, C_35, QA_38.here, (h.below hB_34)⟩ ?_
        rotate_left
        · intro w hSw; obtain ⟨s1, s2, s3, s4⟩ := hSw; have e1 := c1_of s1; have e2 := c1_of s2; obtain ⟨x0, x1, x2, x3, x4, x5, x6⟩ := (s3.at hq1).1; obtain ⟨v0, v1, v2, v3, v4, v5, v6⟩ := (s4.at hq2).1; simp only [Nat.zero_add] at x0 x1 x2 x3 x4 x5 x6; clear s1 s2 s3 s4; go_simp; with_reducible rfl
        try simp only [Act.put, List.getElem_toArray, List.getElem_cons_succ, List.getElem_cons_zero, List.setIfInBounds_toArray, List.set_cons_zero, List.set_cons_succ]
        refine wpAnyE.take (i := 10) (v := undef) rfl (by kernel_rfl) (by kernel_rfl) (by kernel_rfl) (by kernel_rfl) (fun _ _ _ h => h) (Or.inr ⟨by rfl, rfl⟩) ⟨R_37, C_35, QA_38.here, (h.below hB_34)⟩ ?_
        try simp only [Act.put, List.getElem_toArray, List.getElem_cons_succ, List.getElem_cons_zero, List.setIfInBounds_toArray, List.set_cons_zero, List.set_cons_succ]
        refine wpAnyE.take (i := 12) (v := undef) rfl (by kernel_rfl) (by kernel_rfl) (by kernel_rfl) (by kernel_rfl) (fun _ _ _ h => h) (Or.inr ⟨by rfl, rfl⟩) ⟨R_37, C_35, QA_38.here, (h.below hB_34)⟩ ?_
        try simp only [Act.put, List.getElem_toArray, List.getElem_cons_succ, List.getElem_cons_zero, List.setIfInBounds_toArray, List.set_cons_zero, List.set_cons_succ]
        refine wpAnyE.take (i := 11) (v := undef) rfl (by kernel_rfl) (by kernel_rfl) (by kernel_rfl) (by kernel_rfl) (fun _ _ _ h => h) (Or.inr ⟨by rfl, rfl⟩) ⟨R_37, C_35, QA_38.here, (h.below hB_34)⟩ ?_
        try simp only [Act.put, List.getElem_toArray, List.getElem_cons_succ, List.getElem_cons_zero, List.setIfInBounds_toArray, List.set_cons_zero, List.set_cons_succ]
        refine wpAnyE.take (i := 13) (v := undef) rfl (by kernel_rfl) (by kernel_rfl) (by kernel_rfl) (by kernel_rfl) (fun _ _ _ h => h) (Or.inr ⟨by rfl, rfl⟩) ⟨R_37, C_35, QA_38.here, (h.below hB_34)⟩ ?_
        try simp only [Act.put, List.getElem_toArray, List.getElem_cons_succ, List.getElem_cons_zero, List.setIfInBounds_toArray, List.set_cons_zero, List.set_cons_succ]
        refine wpAnyE.take (i := 14) (v := undef) rfl (by kernel_rfl) (by kernel_rfl) (by kernel_rfl) (by kernel_rfl) (fun _ _ _ h => h) (Or.inr ⟨by rfl, rfl⟩) ⟨R_37, C_35, QA_38.here, (h.below hB_34)⟩ ?_
        try simp only [Act.put, List.getElem_toArray, List.getElem_cons_succ, List.getElem_cons_zero, List.setIfInBounds_toArray, List.set_cons_zero, List.set_cons_succ]
        refine wpAnyE.take (i := 15) (v := undef) rfl (by kernel_rfl) (by kernel_rfl) (by kernel_rfl) (by kernel_rfl) (fun _ _ _ h => h) (Or.inr ⟨by rfl, rfl⟩) ⟨R_37, C_35, QA_38.here, (h.below hB_34)⟩ ?_
        try simp only [Act.put, List.getElem_toArray, List.getElem_cons_succ, List.getElem_cons_zero, List.setIfInBounds_toArray, List.set_cons_zero, List.set_cons_succ]
        refine wpAnyE.take (i := 16) (v := undef) rfl (by kernel_rfl) (by kernel_rfl) (by kernel_rfl) (by kernel_rfl) (fun _ _ _ h => h) (Or.inr ⟨by rfl, rfl⟩) ⟨R_37, C_35, QA_38.here, (h.below hB_34)⟩ ?_
        try simp only [Act.put, List.getElem_toArray, List.getElem_cons_succ, List.getElem_cons_zero, List.setIfInBounds_toArray, List.set_cons_zero, List.set_cons_succ]
        refine wpAnyE.take (i := 17) (v := ?_) rfl (by kernel_rfl) (by kernel_rfl) (by kernel_rfl) (by kernel_rfl) (fun _ _ _ h => h) (Or.inl ⟨by rfl, ?_⟩) ⟨R_37, C_35, QA_38.here, (h.below hB_34)⟩ ?_
        rotate_left
        · intro w hSw; obtain ⟨s1, s2, s3, s4⟩ := hSw; have e1 := c1_of s1; have e2 := c1_of s2; obtain ⟨x0, x1, x2, x3, x4, x5, x6⟩ := (s3.at hq1).1; obtain ⟨v0, v1, v2, v3, v4, v5, v6⟩ := (s4.at hq2).1; simp only [Nat.zero_add] at x0 x1 x2 x3 x4 x5 x6; clear s1 s2 s3 s4; go_simp; with_reducible rfl
        try simp only [Act.put, List.getElem_toArray, List.getElem_cons_succ, List.getElem_cons_zero, List.setIfInBounds_toArray, List.set_cons_zero, List.set_cons_succ]
        refine wpAnyE.take (i := 18) (v := ?_) rfl (by kernel_rfl) (by kernel_rfl) (by kernel_rfl) (by kernel_rfl) (fun _ _ _ h => h) (Or.inl ⟨by rfl, ?_⟩) ⟨R_37, C_35, QA_38.here, (h.below hB_34)⟩ ?_
        rotate_left
        · intro w hSw; obtain ⟨s1, s2, s3, s4⟩ := hSw; have e1 := c1_of s1; have e2 := c1_of s2; obtain ⟨x0, x1, x2, x3, x4, x5, x6⟩ := (s3.at hq1).1; obtain ⟨v0, v1, v2, v3, v4, v5, v6⟩ := (s4.at hq2).1; simp only [Nat.zero_add] at x0 x1 x2 x3 x4 x5 x6; clear s1 s2 s3 s4; go_simp; with_reducible rfl
        try simp only [Act.put, List.getElem_toArray, List.getElem_cons_succ, List.getElem_cons_zero, List.setIfInBounds_toArray, List.set_cons_zero, List.set_cons_succ]
        refine wpAnyE.take (i := 19) (v := ?_) rfl (by kernel_rfl) (by kernel_rfl) (by kernel_rfl) (by kernel_rfl) (fun _ _ _ h => h) (Or.inl ⟨by rfl, ?_⟩) ⟨R_37, C_35, QA_38.here, (h.below hB_34)⟩ ?_
        rotate_left
        · intro w hSw; obtain ⟨s1, s2, s3, s4⟩ := hSw; have e1 := c1_of s1; have e2 := c1_of s2; obtain ⟨x0, x1, x2, x3, x4, x5, x6⟩ := (s3.at hq1).1; obtain ⟨v0, v1, v2, v3, v4, v5, v6⟩ := (s4.at hq2).1; simp only [Nat.zero_add] at x0 x1 x2 x3 x4 x5 x6; clear s1 s2 s3 s4; go_simp; with_reducible rfl
        try simp only [Act.put, List.getElem_toArray, List.getElem_cons_succ, List.getElem_cons_zero, List.setIfInBounds_toArray, List.set_cons_zero, List.set_cons_succ]
        refine wpAnyE.take (i := 21) (v := ?_) rfl (by kernel_rfl) (by kernel_rfl) (by kernel_rfl) (by kernel_rfl) (fun _ _ _ h => h) (Or.inl ⟨by rfl, ?_⟩) ⟨R_37, C_35, QA_38.here, (h.below hB_34)⟩ ?_
        rotate_left
        · intro w hSw; obtain ⟨s1, s2, s3, s4⟩ := hSw; have e1 := c1_of s1; have e2 := c1_of s2; obtain ⟨x0, x1, x2, x3, x4, x5, x6⟩ := (s3.at hq1).1; obtain ⟨v0, v1, v2, v3, v4, v5, v6⟩ := (s4.at hq2).1; simp only [Nat.zero_add] at x0 x1 x2 x3 x4 x5 x6; clear s1 s2 s3 s4; go_simp; with_reducible rfl
        try simp only [Act.put, List.getElem_toArray, List.getElem_cons_succ, List.getElem_cons_zero, List.setIfInBounds_toArray, List.set_cons_zero, List.set_cons_succ]
        refine wpAnyE.take (i := 24) (v := ?_) rfl (by kernel_rfl) (by kernel_rfl) (by kernel_rfl) (by kernel_rfl) (fun _ _ _ h => h) (Or.inl ⟨by rfl, ?_⟩) ⟨R_37, C_35, QA_38.here, (h.below hB_34)⟩ ?_
        rotate_left
        · intro w hSw; obtain ⟨s1, s2, s3, s4⟩ := hSw; have e1 := c1_of s1; have e2 := c1_of s2; obtain ⟨x0, x1, x2, x3, x4, x5, x6⟩ := (s3.at hq1).1; obtain ⟨v0, v1, v2, v3, v4, v5, v6⟩ := (s4.at hq2).1; simp only [Nat.zero_add] at x0 x1 x2 x3 x4 x5 x6; clear s1 s2 s3 s4; go_simp; with_reducible rfl
        try simp only [Act.put, List.getElem_toArray, List.getElem_cons_succ, List.getElem_cons_zero, List.setIfInBounds_toArray, List.set_cons_zero, List.set_cons_succ]
        refine wpAnyE.take (i := 26) (v := ?_) rfl (by kernel_rfl) (by kernel_rfl) (by kernel_rfl) (by kernel_rfl) (fun _ _ _ h => h) (Or.inl ⟨by rfl, ?_⟩) ⟨R_37, C_35, QA_38.here, (h.below hB_34)⟩ ?_
        rotate_left
        · intro w hSw; obtain ⟨s1, s2, s3, s4⟩ := hSw; have e1 := c1_of s1; have e2 := c1_of s2; obtain ⟨x0, x1, x2, x3, x4, x5, x6⟩ := (s3.at hq1).1; obtain ⟨v0, v1, v2, v3, v4, v5, v6⟩ := (s4.at hq2).1; simp only [Nat.zero_add] at x0 x1 x2 x3 x4 x5 x6; clear s1 s2 s3 s4; go_simp; with_reducible rfl
        try simp only [Act.put, List.getElem_toArray, List.getElem_cons_succ, List.getElem_cons_zero, List.setIfInBounds_toArray, List.set_cons_zero, List.set_cons_succ]
        refine wpAnyE.take (i := 20) (v := ?_) rfl (by kernel_rfl) (by kernel_rfl) (by kernel_rfl) (by kernel_rfl) (fun _ _ _ h => h) (Or.inl ⟨by rfl, ?_⟩) ⟨R_37, C_35, QA_38.here, (h.below hB_34)⟩ ?_
        rotate_left
        · intro w hSw; obtain ⟨s1, s2, s3, s4⟩ := hSw; have e1 := c1_of s1; have e2 := c1_of s2; obtain ⟨x0, x1, x2, x3, x4, x5, x6⟩ := (s3.at hq1).1; obtain ⟨v0, v1, v2, v3, v4, v5, v6⟩ := (s4.at hq2).1; simp only [Nat.zero_add] at x0 x1 x2 x3 x4 x5 x6; clear s1 s2 s3 s4; go_simp; with_reducible rfl
        try simp only [Act.put, List.getElem_toArray, List.getElem_cons_succ, List.getElem_cons_zero, List.setIfInBounds_toArray, List.set_cons_zero, List.set_cons_succ]
        refine wpAnyE.take (i := 25) (v := ?_) rfl (by kernel_rfl) (by kernel_rfl) (by kernel_rfl) (by kernel_rfl) (fun _ _ _ h => h) (Or.inl ⟨by rfl, ?_⟩) ⟨R_37, C_35, QA_38.here, (h.below hB_34)⟩ ?_
        rotate_left
        · intro w hSw; obtain ⟨s1, s2, s3, s4⟩ := hSw; have e1 := c1_of s1; have e2 := c1_of s2; obtain ⟨x0, x1, x2, x3, x4, x5, x6⟩ := (s3.at hq1).1; obtain ⟨v0, v1, v2, v3, v4, v5, v6⟩ := (s4.at hq2).1; simp only [Nat.zero_add] at x0 x1 x2 x3 x4 x5 x6; clear s1 s2 s3 s4; go_simp; with_reducible rfl
        try simp only [Act.put, List.getElem_toArray, List.getElem_cons_succ, List.getElem_cons_zero, List.setIfInBounds_toArray, List.set_cons_zero, List.set_cons_succ]
        refine wpAnyE.take (i := 22) (v := ?_) rfl (by kernel_rfl) (by kernel_rfl) (by kernel_rfl) (by kernel_rfl) (fun _ _ _ h => h) (Or.inl ⟨by rfl, ?_⟩) ⟨R_37, C_35, QA_38.here, (h.below hB_34)⟩ ?_
        rotate_left
        · intro w hSw; obtain ⟨s1, s2, s3, s4⟩ := hSw; have e1 := c1_of s1; have e2 := c1_of s2; obtain ⟨x0, x1, x2, x3, x4, x5, x6⟩ := (s3.at hq1).1; obtain ⟨v0, v1, v2, v3, v4, v5, v6⟩ := (s4.at hq2).1; simp only [Nat.zero_add] at x0 x1 x2 x3 x4 x5 x6; clear s1 s2 s3 s4; go_simp; with_reducible rfl
        try simp only [Act.put, List.getElem_toArray, List.getElem_cons_succ, List.getElem_cons_zero, List.setIfInBounds_toArray, List.set_cons_zero, List.set_cons_succ]
        refine wpAnyE.take (i := 27) (v := ?_) rfl (by kernel_rfl) (by kernel_rfl) (by kernel_rfl) (by kernel_rfl) (fun _ _ _ h => h) (Or.inl ⟨by rfl, ?_⟩) ⟨R_37, C_35, QA_38.here, (h.below hB_34)⟩ ?_
        rotate_left
        · intro w hSw; obtain ⟨s1, s2, s3, s4⟩ := hSw; have e1 := c1_of s1; have e2 := c1_of s2; obtain ⟨x0, x1, x2, x3, x4, x5, x6⟩ := (s3.at hq1).1; obtain ⟨v0, v1, v2, v3, v4, v5, v6⟩ := (s4.at hq2).1; simp only [Nat.zero_add] at x0 x1 x2 x3 x4 x5 x6; clear s1 s2 s3 s4; go_simp; with_reducible rfl
        try simp only [Act.put, List.getElem_toArray, List.getElem_cons_succ, List.getElem_cons_zero, List.setIfInBounds_toArray, List.set_cons_zero, List.set_cons_succ]
        refine wpAnyE.take (i := 23) (v := ?_) rfl (by kernel_rfl) (by kernel_rfl) (by kernel_rfl) (by kernel_rfl) (fun _ _ _ h => h) (Or.inl ⟨by rfl, ?_⟩) ⟨R_37, C_35, QA_38.here, (h.below hB_34)⟩ ?_
        rotate_left
        · intro w hSw; obtain ⟨s1, s2, s3, s4⟩ := hSw; have e1 := c1_of s1; have e2 := c1_of s2; obtain ⟨x0, x1, x2, x3, x4, x5, x6⟩ := (s3.at hq1).1; obtain ⟨v0, v1, v2, v3, v4, v5, v6⟩ := (s4.at hq2).1; simp only [Nat.zero_add] at x0 x1 x2 x3 x4 x5 x6; clear s1 s2 s3 s4; go_simp; with_reducible rfl
        try simp only [Act.put, List.getElem_toArray, List.getElem_cons_succ, List.getElem_cons_zero, List.setIfInBounds_toArray, List.set_cons_zero, List.set_cons_succ]
        refine wpAnyE.take (i := 28) (v := ?_) rfl (by kernel_rfl) (by kernel_rfl) (by kernel_rfl) (by kernel_rfl) (fun _ _ _ h => h) (Or.inl ⟨by rfl, ?_⟩) ⟨R_37, C_35, QA_38.here, (h.below hB_34)⟩ ?_
        rotate_left
        · intro w hSw; obtain ⟨s1, s2, s3, s4⟩ := hSw; have e1 := c1_of s1; have e2 := c1_of s2; obtain ⟨x0, x1, x2, x3, x4, x5, x6⟩ := (s3.at hq1).1; obtain ⟨v0, v1, v2, v3, v4, v5, v6⟩ := (s4.at hq2).1; simp only [Nat.zero_add] at x0 x1 x2 x3 x4 x5 x6; clear s1 s2 s3 s4; go_simp; with_reducible rfl
        try simp only [Act.put, List.getElem_toArray, List.getElem_cons_succ, List.getElem_cons_zero, List.setIfInBounds_toArray, List.set_cons_zero, List.set_cons_succ]
        refine wpAnyE.one (i := 29) (by kernel_rfl) rfl (fun K hK => ?_)
        have hc_41 := sameRq_any qa[k] l[k] W_33 (QA_38.here.at hq1).2 ((h.below hB_34).at hq2).2
        go_simp
        refine hc_41.mono ?_
        clear hc_41
        rintro e W_42 ⟨r, rfl, hr, h⟩
        have hB_43 := hB_34.trans (h.mono hB_34.size)
        have C_44 := (h.block _ (heap_lt C_35)).trans C_35
        have P_45 := (h.block _ (heap_lt P_36)).trans P_36
        have R_46 := (h.block _ (heap_lt R_37)).trans R_37
        have QA_47 := QA_38.below h
        have hb_48 := hb_39.trans (h.mono hb_39.size)
        have hs_49 := h.size
        clear C_35 P_36 R_37 QA_38 hb_39 h hB_34
        obtain rfl : r = true := hr.2 ((HX.out k hq1).trans ((HO.out (.inl HW.out)).trans (HY.out k hq2).symm))
        clear hr
        refine hK _ _ (fun _ => ⟨R_46, C_44, QA_47.here, (h.below hB_43)⟩) ?_
        clear hK K
        try simp only [Act.put, List.getElem_toArray, List.getElem_cons_succ, List.getElem_cons_zero, List.setIfInBounds_toArray, List.set_cons_zero, List.set_cons_succ]
        refine wpAnyE.take (i := 30) (v := ?_) rfl (by kernel_rfl) (by kernel_rfl) (by kernel_rfl) (by kernel_rfl) (fun _ _ _ h => h) (Or.inl ⟨by rfl, ?_⟩) ⟨R_46, C_44, QA_47.here, (h.below hB_43)⟩ ?_
        rotate_left
        · intro w hSw; obtain ⟨s1, s2, s3, s4⟩ := hSw; have e1 := c1_of s1; have e2 := c1_of s2; obtain ⟨x0, x1, x2, x3, x4, x5, x6⟩ := (s3.at hq1).1; obtain ⟨v0, v1, v2, v3, v4, v5, v6⟩ := (s4.at hq2).1; simp only [Nat.zero_add] at x0 x1 x2 x3 x4 x5 x6; clear s1 s2 s3 s4; go_simp; with_reducible rfl
        try simp only [Act.put, List.getElem_toArray, List.getElem_cons_succ, List.getElem_cons_zero, List.setIfInBounds_toArray, List.set_cons_zero, List.set_cons_succ]
        refine wpAnyE.take (i := 31) (v := ?_) rfl (by kernel_rfl) (by kernel_rfl) (by kernel_rfl) (by kernel_rfl) (fun _ _ _ h => h) (Or.inl ⟨by rfl, ?_⟩) ⟨R_46, C_44, QA_47.here, (h.below hB_43)⟩ ?_
        rotate_left
        · intro w hSw; obtain ⟨s1, s2, s3, s4⟩ := hSw; have e1 := c1_of s1; have e2 := c1_of s2; obtain ⟨x0, x1, x2, x3, x4, x5, x6⟩ := (s3.at hq1).1; obtain ⟨v0, v1, v2, v3, v4, v5, v6⟩ := (s4.at hq2).1; simp only [Nat.zero_add] at x0 x1 x2 x3 x4 x5 x6; clear s1 s2 s3 s4; go_simp; with_reducible rfl
        try simp only [Act.put, List.getElem_toArray, List.getElem_cons_succ, List.getElem_cons_zero, List.setIfInBounds_toArray, List.set_cons_zero, List.set_cons_succ]
        refine wpAnyE.done (by kernel_rfl) ?_
        have HB := hb_48
        go_wp2
        go_roundw
        case rel => exact ⟨k + 1, by go_num, by omega, HB⟩
        case measure => simp [intOf]; omega
      | true =>
        rw [hbu] at hiu
        clear hbu
        cases hbl : bitB late k with
        | true =>
          rw [hbl] at hil
          have HW : Hid (bitB late k = true) := hbl
          clear hbl
          have Rc0 := c1_of R_20
          have Cc0 := c1_of C_18
          go_upto_region 11 with fail
          clear Rc0 Cc0
          have hd_50 := below_refl_drew wr
          have hB_51 := hB_17.trans (hd_50.mono hB_17.size)
          have C_52 := (hd_50.block _ (heap_lt C_18)).trans C_18
          have P_53 := (hd_50.block _ (heap_lt P_19)).trans P_19
          have R_54 := (hd_50.block _ (heap_lt R_20)).trans R_20
          have QA_55 := QA_21.below hd_50
          have hb_56 := hbr.trans (hd_50.mono hbr.size)
          have hs_57 := hd_50.size
          clear C_18 P_19 R_20 QA_21 hbr hd_50 hB_17
          refine wp_region_E (fun W => (W.heap[p_3]? = some (.cells #[.slice (some ⟨B, 0, none⟩) 3 cap] 24)) ∧ (W.heap[w.heap.size]? = some (.cells #[.slice (some ⟨al, ol, none⟩) 3 c] 24)) ∧ (HoldsQ W (some ⟨B, 0, none⟩) qa) ∧ (HoldsQ W (some ⟨al, ol, none⟩) l)) (fun _ => false) (by kernel_rfl) ⟨R_54, C_52, QA_55.here, (h.below hB_51)⟩ (fun hS => ?_)
          clear hS
          generalize wr.drew = W_58 at *
          refine wpAnyE.take (i := 0) (v := ?_) rfl (by kernel_rfl) (by kernel_rfl) (by kernel_rfl) (by kernel_rfl) (fun _ _ _ h => h) (Or.inl ⟨by rfl, ?_⟩) ⟨R_54, C_52, QA_55.here, (h.below hB_51)⟩ ?_
          rotate_left
          · intro w hSw; obtain ⟨s1, s2, s3, s4⟩ := hSw; have e1 := c1_of s1; have e2 := c1_of s2; obtain ⟨x0, x1, x2, x3, x4, x5, x6⟩ := (s3.at hq1).1; obtain ⟨v0, v1, v2, v3, v4, v5, v6⟩ := (s4.at hq2).1; simp only [Nat.zero_add] at x0 x1 x2 x3 x4 x5 x6; clear s1 s2 s3 s4; go_simp; with_reducible rfl
          try simp only [Act.put, List.getElem_toArray, List.getElem_cons_zero, List.setIfInBounds_toArray, List.set_cons_zero, List.set_cons_succ]
          refine wpAnyE.take (i := 1) (v := ?_) rfl (by kernel_rfl) (by kernel_rfl) (by kernel_rfl) (by kernel_rfl) (fun _ _ _ h => h) (Or.inl ⟨by rfl, ?_⟩) ⟨R_54, C_52, QA_55.here, (h.below hB_51)⟩ ?_
          rotate_left
          · intro w hSw; obtain ⟨s1, s2, s3, s4⟩ := hSw; have e1 := c1_of s1; have e2 := c1_of s2; obtain ⟨x0, x1, x2, x3, x4, x5, x6⟩ := (s3.at hq1).1; obtain ⟨v0, v1, v2, v3, v4, v5, v6⟩ := (s4.at hq2).1; simp only [Nat.zero_add] at x0 x1 x2 x3 x4 x5 x6; clear s1 s2 s3 s4; go_simp; with_reducible rfl
          try simp only [Act.put, List.getElem_toArray, List.getElem_cons_succ, List.getElem_cons_zero, List.setIfInBounds_toArray, List.set_cons_zero, List.set_cons_succ]
          refine wpAnyE.one (i := 2) (by kernel_rfl) rfl (fun K hK => ?_)
          have hc_59 := hiu W_58
          go_simp
          refine hc_59.mono ?_
          clear hc_59
          rintro e W_60 ⟨rfl, h⟩
          have hB_61 := hB_51.trans (h.mono hB_51.size)
          have C_62 := (h.block _ (heap_lt C_52)).trans C_52
          have P_63 := (h.block _ (heap_lt P_53)).trans P_53
          have R_64 := (h.block _ (heap_lt R_54)).trans R_54
          have QA_65 := QA_55.below h
          have hb_66 := hb_56.trans (h.mono hb_56.size)
          have hs_67 := h.size
          clear C_52 P_53 R_54 QA_55 hb_56 h hB_51
          refine hK _ _ (fun _ => ⟨R_64, C_62, QA_65.here, (h.below hB_61)⟩) ?_
          clear hK K
          try simp only [Act.put, List.getElem_toArray, List.getElem_cons_succ, List.getElem_cons_zero, List.setIfInBounds_toArray, List.set_cons_zero, List.set_cons_succ]
          refine wpAnyE.take (i := 3) (v := ?_) rfl (by kernel_rfl) (by kernel_rfl) (by kernel_rfl) (by kernel_rfl) (fun _ _ _ h => h) (Or.inl ⟨by rfl, ?_⟩) ⟨R_64, C_62, QA_65.here, (h.below hB_61)⟩ ?_
          rotate_left
          · intro w hSw; obtain ⟨s1, s2, s3, s4⟩ := hSw; have e1 := c1_of s1; have e2 := c1_of s2; obtain ⟨x0, x1, x2, x3, x4, x5, x6⟩ := (s3.at hq1).1; obtain ⟨v0, v1, v2, v3, v4, v5, v6⟩ := (s4.at hq2).1; simp only [Nat.zero_add] at x0 x1 x2 x3 x4 x5 x6; clear s1 s2 s3 s4; go_simp; with_reducible rfl
          try simp only [Act.put, List.getElem_toArray, List.getElem_cons_succ, List.getElem_cons_zero, List.setIfInBounds_toArray, List.set_cons_zero, List.set_cons_succ]
          refine wpAnyE.take (i := 4) (v := ?_) rfl (by kernel_rfl) (by kernel_rfl) (by kernel_rfl) (by kernel_rfl) (fun _ _ _ h => h) (Or.inl ⟨by rfl, ?_⟩) ⟨R_64, C_62, QA_65.here, (h.below hB_61)⟩ ?_
          rotate_left
          · intro w hSw; obtain ⟨s1, s2, s3, s4⟩ := hSw; have e1 := c1_of s1; have e2 := c1_of s2; obtain ⟨x0, x1, x2, x3, x4, x5, x6⟩ := (s3.at hq1).1; obtain ⟨v0, v1, v2, v3, v4, v5, v6⟩ := (s4.at hq2).1; simp only [Nat.zero_add] at x0 x1 x2 x3 x4 x5 x6; clear s1 s2 s3 s4; go_simp; with_reducible rfl
          try simp only [Act.put, List.getElem_toArray, List.getElem_cons_succ, List.getElem_cons_zero, List.setIfInBounds_toArray, List.set_cons_zero, List.set_cons_succ]
          refine wpAnyE.take (i := 5) (v := ?_) rfl (by kernel_rfl) (by kernel_rfl) (by kernel_rfl) (by kernel_rfl) (fun _ _ _ h => h) (Or.inl ⟨by rfl, ?_⟩) ⟨R_64, C_62, QA_65.here, (h.below hB_61)⟩ ?_
          rotate_left
          · intro w hSw; obtain ⟨s1, s2, s3, s4⟩ := hSw; have e1 := c1_of s1; have e2 := c1_of s2; obtain ⟨x0, x1, x2, x3, x4, x5, x6⟩ := (s3.at hq1).1; obtain ⟨v0, v1, v2, v3, v4, v5, v6⟩ := (s4.at hq2).1; simp only [Nat.zero_add] at x0 x1 x2 x3 x4 x5 x6; clear s1 s2 s3 s4; go_simp; with_reducible rfl
          try simp only [Act.put, List.getElem_toArray, List.getElem_cons_succ, List.getElem_cons_zero, List.setIfInBounds_toArray, List.set_cons_zero, List.set_cons_succ]
          refine wpAnyE.take (i := 6) (v := ?_) rfl (by kernel_rfl) (by kernel_rfl) (by kernel_rfl) (by kernel_rfl) (fun _ _ _ h => h) (Or.inl ⟨by rfl, ?_⟩) ⟨R_64, C_62, QA_65.here, (h.below hB_61)⟩ ?_
          rotate_left
          · intro w hSw; obtain ⟨s1, s2, s3, s4⟩ := hSw; have e1 := c1_of s1; have e2 := c1_of s2; obtain ⟨x0, x1, x2, x3, x4, x5, x6⟩ := (s3.at hq1).1; obtain ⟨v0, v1, v2, v3, v4, v5, v6⟩ := (s4.at hq2).1; simp only [Nat.zero_add] at x0 x1 x2 x3 x4 x5 x6; clear s1 s2 s3 s4; go_simp; with_reducible rfl
          try simp only [Act.put, List.getElem_toArray, List.getElem_cons_succ, List.getElem_cons_zero, List.setIfInBounds_toArray, List.set_cons_zero, List.set_cons_succ]
          refine wpAnyE.one (i := 7) (by kernel_rfl) rfl (fun K hK => ?_)
          have hc_68 := hil W_60
          go_simp
          refine hc_68.mono ?_
          clear hc_68
          rintro e W_69 ⟨rfl, h⟩
          have hB_70 := hB_61.trans (h.mono hB_61.size)
          have C_71 := (h.block _ (heap_lt C_62)).trans C_62
          have P_72 := (h.block _ (heap_lt P_63)).trans P_63
          have R_73 := (h.block _ (heap_lt R_64)).trans R_64
          have QA_74 := QA_65.below h
          have hb_75 := hb_66.trans (h.mono hb_66.size)
          have hs_76 := h.size
          clear C_62 P_63 R_64 QA_65 hb_66 h hB_61
          refine hK _ _ (fun _ => ⟨R_73, C_71, QA_74.here, (h.below hB_70)⟩) ?_
          clear hK K
          try simp only [Act.put, List.getElem_toArray, List.getElem_cons_succ, List.getElem_cons_zero, List.setIfInBounds_toArray, List.set_cons_zero, List.set_cons_succ]
          refine wpAnyE.take (i := 8) (v := ?_) rfl (by kernel_rfl) (by kernel_rfl) (by kernel_rfl) (by kernel_rfl) (fun _ _ _ h => h) (Or.inl ⟨by rfl, ?_⟩) ⟨R_73, C_71, QA_74.here, (h.below hB_70)⟩ ?_
          rotate_left
          · intro w hSw; obtain ⟨s1, s2, s3, s4⟩ := hSw; have e1 := c1_of s1; have e2 := c1_of s2; obtain ⟨x0, x1, x2, x3, x4, x5, x6⟩ := (s3.at hq1).1; obtain ⟨v0, v1, v2, v3, v4, v5, v6⟩ := (s4.at hq2).1; simp only [Nat.zero_add] at x0 x1 x2 x3 x4 x5 x6; clear s1 s2 s3 s4; go_simp; with_reducible rfl
          try simp only [Act.put, List.getElem_toArray, List.getElem_cons_succ, List.getElem_cons_zero, List.setIfInBounds_toArray, List.set_cons_zero, List.set_cons_succ]
          refine wpAnyE.take (i := 9) (v := ?_) rfl (by kernel_rfl) (by kernel_rfl) (by kernel_rfl) (by kernel_rfl) (fun _ _ _ h => h) (Or.inl ⟨by rfl, ?_⟩) ⟨R_73, C_71, QA_74.here, (h.below hB_70)⟩ ?_
          rotate_left
          · intro w hSw; obtain ⟨s1, s2, s3, s4⟩ := hSw; have e1 := c1_of s1; have e2 := c1_of s2; obtain ⟨x0, x1, x2, x3, x4, x5, x6⟩ := (s3.at hq1).1; obtain ⟨v0, v1, v2, v3, v4, v5, v6⟩ := (s4.at hq2).1; simp only [Nat.zero_add] at x0 x1 x2 x3 x4 x5 x6; clear s1 s2 s3 s4; go_simp; with_reducible rfl
          try simp only [Act.put, List.getElem_toArray, List.getElem_cons_succ, List.getElem_cons_zero, List.setIfInBounds_toArray, List.set_cons_zero, List.set_cons_succ]
          refine wpAnyE.take (i := 10) (v := undef) rfl (by kernel_rfl) (by kernel_rfl) (by kernel_rfl) (by kernel_rfl) (fun _ _ _ h => h) (Or.inr ⟨by rfl, rfl⟩) ⟨R_73, C_71, QA_74.here, (h.below hB_70)⟩ ?_
          try simp only [Act.put, List.getElem_toArray, List.getElem_cons_succ, List.getElem_cons_zero, List.setIfInBounds_toArray, List.set_cons_zero, List.set_cons_succ]
          refine wpAnyE.take (i := 12) (v := undef) rfl (by kernel_rfl) (by kernel_rfl) (by kernel_rfl) (by kernel_rfl) (fun _ _ _ h => h) (Or.inr ⟨by rfl, rfl⟩) ⟨R_73, C_71, QA_74.here, (h.below hB_70)⟩ ?_
          try simp only [Act.put, List.getElem_toArray, List.getElem_cons_succ, List.getElem_cons_zero, List.setIfInBounds_toArray, List.set_cons_zero, List.set_cons_succ]
          refine wpAnyE.take (i := 11) (v := undef) rfl (by kernel_rfl) (by kernel_rfl) (by kernel_rfl) (by kernel_rfl) (fun _ _ _ h => h) (Or.inr ⟨by rfl, rfl⟩) ⟨R_73, C_71, QA_74.here, (h.below hB_70)⟩ ?_
          try simp only [Act.put, List.getElem_toArray, List.getElem_cons_succ, List.getElem_cons_zero, List.setIfInBounds_toArray, List.set_cons_zero, List.set_cons_succ]
          refine wpAnyE.take (i := 13) (v := undef) rfl (by kernel_rfl) (by kernel_rfl) (by kernel_rfl) (by kernel_rfl) (fun _ _ _ h => h) (Or.inr ⟨by rfl, rfl⟩) ⟨R_73, C_71, QA_74.here, (h.below hB_70)⟩ ?_
          try simp only [Act.put, List.getElem_toArray, List.getElem_cons_succ, List.getElem_cons_zero, List.setIfInBounds_toArray, List.set_cons_zero, List.set_cons_succ]
          refine wpAnyE.take (i := 14) (v := undef) rfl (by kernel_rfl) (by kernel_rfl) (by kernel_rfl) (by kernel_rfl) (fun _ _ _ h => h) (Or.inr ⟨by rfl, rfl⟩) ⟨R_73, C_71, QA_74.here, (h.below hB_70)⟩ ?_
          try simp only [Act.put, List.getElem_toArray, List.getElem_cons_succ, List.getElem_cons_zero, List.setIfInBounds_toArray, List.set_cons_zero, List.set_cons_succ]
          refine wpAnyE.take (i := 15) (v := undef) rfl (by kernel_rfl) (by kernel_rfl) (by kernel_rfl) (by kernel_rfl) (fun _ _ _ h => h) (Or.inr ⟨by rfl, rfl⟩) ⟨R_73, C_71, QA_74.here, (h.below hB_70)⟩ ?_
          try simp only [Act.put, List.getElem_toArray, List.getElem_cons_succ, List.getElem_cons_zero, List.setIfInBounds_toArray, List.set_cons_zero, List.set_cons_succ]
          refine wpAnyE.take (i := 16) (v := undef) rfl (by kernel_rfl) (by kernel_rfl) (by kernel_rfl) (by kernel_rfl) (fun _ _ _ h => h) (Or.inr ⟨by rfl, rfl⟩) ⟨R_73, C_71, QA_74.here, (h.below hB_70)⟩ ?_
          try simp only [Act.put, List.getElem_toArray, List.getElem_cons_succ, List.getElem_cons_zero, List.setIfInBounds_toArray, List.set_cons_zero, List.set_cons_succ]
          refine wpAnyE.take (i := 17) (v := ?_) rfl (by kernel_rfl) (by kernel_rfl) (by kernel_rfl) (by kernel_rfl) (fun _ _ _ h => h) (Or.inl ⟨by rfl, ?_⟩) ⟨R_73, C_71, QA_74.here, (h.below hB_70)⟩ ?_
          rotate_left
          · intro w hSw; obtain ⟨s1, s2, s3, s4⟩ := hSw; have e1 := c1_of s1; have e2 := c1_of s2; obtain ⟨x0, x1, x2, x3, x4, x5, x6⟩ := (s3.at hq1).1; obtain ⟨v0, v1, v2, v3, v4, v5, v6⟩ := (s4.at hq2).1; simp only [Nat.zero_add] at x0 x1 x2 x3 x4 x5 x6; clear s1 s2 s3 s4; go_simp; with_reducible rfl
          try simp only [Act.put, List.getElem_toArray, List.getElem_cons_succ, List.getElem_cons_zero, List.setIfInBounds_toArray, List.set_cons_zero, List.set_cons_succ]
          refine wpAnyE.take (i := 18) (v := ?_) rfl (by kernel_rfl) (by kernel_rfl) (by kernel_rfl) (by kernel_rfl) (fun _ _ _ h => h) (Or.inl ⟨by rfl, ?_⟩) ⟨R_73, C_71, QA_74.here, (h.below hB_70)⟩ ?_
          rotate_left
          · intro w hSw; obtain ⟨s1, s2, s3, s4⟩ := hSw; have e1 := c1_of s1; have e2 := c1_of s2; obtain ⟨x0, x1, x2, x3, x4, x5, x6⟩ := (s3.at hq1).1; obtain ⟨v0, v1, v2, v3, v4, v5, v6⟩ := (s4.at hq2).1; simp only [Nat.zero_add] at x0 x1 x2 x3 x4 x5 x6; clear s1 s2 s3 s4; go_simp; with_reducible rfl
          try simp only [Act.put, List.getElem_toArray, List.getElem_cons_succ, List.getElem_cons_zero, List.setIfInBounds_toArray, List.set_cons_zero, List.set_cons_succ]
          refine wpAnyE.take (i := 19) (v := ?_) rfl (by kernel_rfl) (by kernel_rfl) (by kernel_rfl) (by kernel_rfl) (fun _ _ _ h => h) (Or.inl ⟨by rfl, ?_⟩) ⟨R_73, C_71, QA_74.here, (h.below hB_70)⟩ ?_
          rotate_left
          · intro w hSw; obtain ⟨s1, s2, s3, s4⟩ := hSw; have e1 := c1_of s1; have e2 := c1_of s2; obtain ⟨x0, x1, x2, x3, x4, x5, x6⟩ := (s3.at hq1).1; obtain ⟨v0, v1, v2, v3, v4, v5, v6⟩ := (s4.at hq2).1; simp only [Nat.zero_add] at x0 x1 x2 x3 x4 x5 x6; clear s1 s2 s3 s4; go_simp; with_reducible rfl
          try simp only [Act.put, List.getElem_toArray, List.getElem_cons_succ, List.getElem_cons_zero, List.setIfInBounds_toArray, List.set_cons_zero, List.set_cons_succ]
          refine wpAnyE.take (i := 21) (v := ?_) rfl (by kernel_rfl) (by kernel_rfl) (by kernel_rfl) (by kernel_rfl) (fun _ _ _ h => h) (Or.inl ⟨by rfl, ?_⟩) ⟨R_73, C_71, QA_74.here, (h.below hB_70)⟩ ?_
          rotate_left
          · intro w hSw; obtain ⟨s1, s2, s3, s4⟩ := hSw; have e1 := c1_of s1; have e2 := c1_of s2; obtain ⟨x0, x1, x2, x3, x4, x5, x6⟩ := (s3.at hq1).1; obtain ⟨v0, v1, v2, v3, v4, v5, v6⟩ := (s4.at hq2).1; simp only [Nat.zero_add] at x0 x1 x2 x3 x4 x5 x6; clear s1 s2 s3 s4; go_simp; with_reducible rfl
          try simp only [Act.put, List.getElem_toArray, List.getElem_cons_succ, List.getElem_cons_zero, List.setIfInBounds_toArray, List.set_cons_zero, List.set_cons_succ]
          refine wpAnyE.take (i := 24) (v := ?_) rfl (by kernel_rfl) (by kernel_rfl) (by kernel_rfl) (by kernel_rfl) (fun _ _ _ h => h) (Or.inl ⟨by rfl, ?_⟩) ⟨R_73, C_71, QA_74.here, (h.below hB_70)⟩ ?_
          rotate_left
          · intro w hSw; obtain ⟨s1, s2, s3, s4⟩ := hSw; have e1 := c1_of s1; have e2 := c1_of s2; obtain ⟨x0, x1, x2, x3, x4, x5, x6⟩ := (s3.at hq1).1; obtain ⟨v0, v1, v2, v3, v4, v5, v6⟩ := (s4.at hq2).1; simp only [Nat.zero_add] at x0 x1 x2 x3 x4 x5 x6; clear s1 s2 s3 s4; go_simp; with_reducible rfl
          try simp only [Act.put, List.getElem_toArray, List.getElem_cons_succ, List.getElem_cons_zero, List.setIfInBounds_toArray, List.set_cons_zero, List.set_cons_succ]
          refine wpAnyE.take (i := 26) (v := ?_) rfl (by kernel_rfl) (by kernel_rfl) (by kernel_rfl) (by kernel_rfl) (fun _ _ _ h => h) (Or.inl ⟨by rfl, ?_⟩) ⟨R_73, C_71, QA_74.here, (h.below hB_70)⟩ ?_
          rotate_left
          · intro w hSw; obtain ⟨s1, s2, s3, s4⟩ := hSw; have e1 := c1_of s1; have e2 := c1_of s2; obtain ⟨x0, x1, x2, x3, x4, x5, x6⟩ := (s3.at hq1).1; obtain ⟨v0, v1, v2, v3, v4, v5, v6⟩ := (s4.at hq2).1; simp only [Nat.zero_add] at x0 x1 x2 x3 x4 x5 x6; clear s1 s2 s3 s4; go_simp; with_reducible rfl
          try simp only [Act.put, List.getElem_toArray, List.getElem_cons_succ, List.getElem_cons_zero, List.setIfInBounds_toArray, List.set_cons_zero, List.set_cons_succ]
          refine wpAnyE.take (i := 20) (v := ?_) rfl (by kernel_rfl) (by kernel_rfl) (by kernel_rfl) (by kernel_rfl) (fun _ _ _ h => h) (Or.inl ⟨by rfl, ?_⟩) ⟨R_73, C_71, QA_74.here, (h.below hB_70)⟩ ?_
          rotate_left
          · intro w hSw; obtain ⟨s1, s2, s3, s4⟩ := hSw; have e1 := c1_of s1; have e2 := c1_of s2; obtain ⟨x0, x1, x2, x3, x4, x5, x6⟩ := (s3.at hq1).1; obtain ⟨v0, v1, v2, v3, v4, v5, v6⟩ := (s4.at hq2).1; simp only [Nat.zero_add] at x0 x1 x2 x3 x4 x5 x6; clear s1 s2 s3 s4; go_simp; with_reducible rfl
          try simp only [Act.put, List.getElem_toArray, List.getElem_cons_succ, List.getElem_cons_zero, List.setIfInBounds_toArray, List.set_cons_zero, List.set_cons_succ]
          refine wpAnyE.take (i := 25) (v := ?_) rfl (by kernel_rfl) (by kernel_rfl) (by kernel_rfl) (by kernel_rfl) (fun _ _ _ h => h) (Or.inl ⟨by rfl, ?_⟩) ⟨R_73, C_71, QA_74.here, (h.below hB_70)⟩ ?_
          rotate_left
          · intro w hSw; obtain ⟨s1, s2, s3, s4⟩ := hSw; have e1 := c1_of s1; have e2 := c1_of s2; obtain ⟨x0, x1, x2, x3, x4, x5, x6⟩ := (s3.at hq1).1; obtain ⟨v0, v1, v2, v3, v4, v5, v6⟩ := (s4.at hq2).1; simp only [Nat.zero_add] at x0 x1 x2 x3 x4 x5 x6; clear s1 s2 s3 s4; go_simp; with_reducible rfl
          try simp only [Act.put, List.getElem_toArray, List.getElem_cons_succ, List.getElem_cons_zero, List.setIfInBounds_toArray, List.set_cons_zero, List.set_cons_succ]
          refine wpAnyE.take (i := 22) (v := ?_) rfl (by kernel_rfl) (by kernel_rfl) (by kernel_rfl) (by kernel_rfl) (fun _ _ _ h => h) (Or.inl ⟨by rfl, ?_⟩) ⟨R_73, C_71, QA_74.here, (h.below hB_70)⟩ ?_
          rotate_left
          · intro w hSw; obtain ⟨s1, s2, s3, s4⟩ := hSw; have e1 := c1_of s1; have e2 := c1_of s2; obtain ⟨x0, x1, x2, x3, x4, x5, x6⟩ := (s3.at hq1).1; obtain ⟨v0, v1, v2, v3, v4, v5, v6⟩ := (s4.at hq2).1; simp only [Nat.zero_add] at x0 x1 x2 x3 x4 x5 x6; clear s1 s2 s3 s4; go_simp; with_reducible rfl
          try simp only [Act.put, List.getElem_toArray, List.getElem_cons_succ, List.getElem_cons_zero, List.setIfInBounds_toArray, List.set_cons_zero, List.set_cons_succ]
          refine wpAnyE.take (i := 27) (v := ?_) rfl (by kernel_rfl) (by kernel_rfl) (by kernel_rfl) (by kernel_rfl) (fun _ _ _ h => h) (Or.inl ⟨by rfl, ?_⟩) ⟨R_73, C_71, QA_74.here, (h.below hB_70)⟩ ?_
          rotate_left
          · intro w hSw; obtain ⟨s1, s2, s3, s4⟩ := hSw; have e1 := c1_of s1; have e2 := c1_of s2; obtain ⟨x0, x1, x2, x3, x4, x5, x6⟩ := (s3.at hq1).1; obtain ⟨v0, v1, v2, v3, v4, v5, v6⟩ := (s4.at hq2).1; simp only [Nat.zero_add] at x0 x1 x2 x3 x4 x5 x6; clear s1 s2 s3 s4; go_simp; with_reducible rfl
          try simp only [Act.put, List.getElem_toArray, List.getElem_cons_succ, List.getElem_cons_zero, List.setIfInBounds_toArray, List.set_cons_zero, List.set_cons_succ]
          refine wpAnyE.take (i := 23) (v := ?_) rfl (by kernel_rfl) (by kernel_rfl) (by kernel_rfl) (by kernel_rfl) (fun _ _ _ h => h) (Or.inl ⟨by rfl, ?_⟩) ⟨R_73, C_71, QA_74.here, (h.below hB_70)⟩ ?_
          rotate_left
          · intro w hSw; obtain ⟨s1, s2, s3, s4⟩ := hSw; have e1 := c1_of s1; have e2 := c1_of s2; obtain ⟨x0, x1, x2, x3, x4, x5, x6⟩ := (s3.at hq1).1; obtain ⟨v0, v1, v2, v3, v4, v5, v6⟩ := (s4.at hq2).1; simp only [Nat.zero_add] at x0 x1 x2 x3 x4 x5 x6; clear s1 s2 s3 s4; go_simp; with_reducible rfl
          try simp only [Act.put, List.getElem_toArray, List.getElem_cons_succ, List.getElem_cons_zero, List.setIfInBounds_toArray, List.set_cons_zero, List.set_cons_succ]
          refine wpAnyE.take (i := 28) (v := ?_) rfl (by kernel_rfl) (by kernel_rfl) (by kernel_rfl) (by kernel_rfl) (fun _ _ _ h => h) (Or.inl ⟨by rfl, ?_⟩) ⟨R_73, C_71, QA_74.here, (h.below hB_70)⟩ ?_
          rotate_left
          · intro w hSw; obtain ⟨s1, s2, s3, s4⟩ := hSw; have e1 := c1_of s1; have e2 := c1_of s2; obtain ⟨x0, x1, x2, x3, x4, x5, x6⟩ := (s3.at hq1).1; obtain ⟨v0, v1, v2, v3, v4, v5, v6⟩ := (s4.at hq2).1; simp only [Nat.zero_add] at x0 x1 x2 x3 x4 x5 x6; clear s1 s2 s3 s4; go_simp; with_reducible rfl
          try simp only [Act.put, List.getElem_toArray, List.getElem_cons_succ, List.getElem_cons_zero, List.setIfInBounds_toArray, List.set_cons_zero, List.set_cons_succ]
          refine wpAnyE.one (i := 29) (by kernel_rfl) rfl (fun K hK => ?_)
          have hc_77 := sameRq_any qa[k] l[k] W_69 (QA_74.here.at hq1).2 ((h.below hB_70).at hq2).2
          go_simp
          refine hc_77.mono ?_
          clear hc_77
          rintro e W_78 ⟨r, rfl, hr, h⟩
          have hB_79 := hB_70.trans (h.mono hB_70.size)
          have C_80 := (h.block _ (heap_lt C_71)).trans C_71
          have P_81 := (h.block _ (heap_lt P_72)).trans P_72
          have R_82 := (h.block _ (heap_lt R_73)).trans R_73
          have QA_83 := QA_74.below h
          have hb_84 := hb_75.trans (h.mono hb_75.size)
          have hs_85 := h.size
          clear C_71 P_72 R_73 QA_74 hb_75 h hB_70
          obtain rfl : r = true := hr.2 ((HX.out k hq1).trans ((HO.out (.inr (.inl HW.out))).trans (HY.out k hq2).symm))
          clear hr
          refine hK _ _ (fun _ => ⟨R_82, C_80, QA_83.here, (h.below hB_79)⟩) ?_
          clear hK K
          try simp only [Act.put, List.getElem_toArray, List.getElem_cons_succ, List.getElem_cons_zero, List.setIfInBounds_toArray, List.set_cons_zero, List.set_cons_succ]
          refine wpAnyE.take (i := 30) (v := ?_) rfl (by kernel_rfl) (by kernel_rfl) (by kernel_rfl) (by kernel_rfl) (fun _ _ _ h => h) (Or.inl ⟨by rfl, ?_⟩) ⟨R_82, C_80, QA_83.here, (h.below hB_79)⟩ ?_
          rotate_left
          · intro w hSw; obtain ⟨s1, s2, s3, s4⟩ := hSw; have e1 := c1_of s1; have e2 := c1_of s2; obtain ⟨x0, x1, x2, x3, x4, x5, x6⟩ := (s3.at hq1).1; obtain ⟨v0, v1, v2, v3, v4, v5, v6⟩ := (s4.at hq2).1; simp only [Nat.zero_add] at x0 x1 x2 x3 x4 x5 x6; clear s1 s2 s3 s4; go_simp; with_reducible rfl
          try simp only [Act.put, List.getElem_toArray, List.getElem_cons_succ, List.getElem_cons_zero, List.setIfInBounds_toArray, List.set_cons_zero, List.set_cons_succ]
          refine wpAnyE.take (i := 31) (v := ?_) rfl (by kernel_rfl) (by kernel_rfl) (by kernel_rfl) (by kernel_rfl) (fun _ _ _ h => h) (Or.inl ⟨by rfl, ?_⟩) ⟨R_82, C_80, QA_83.here, (h.below hB_79)⟩ ?_
          rotate_left
          · intro w hSw; obtain ⟨s1, s2, s3, s4⟩ := hSw; have e1 := c1_of s1; have e2 := c1_of s2; obtain ⟨x0, x1, x2, x3, x4, x5, x6⟩ := (s3.at hq1).1; obtain ⟨v0, v1, v2, v3, v4, v5, v6⟩ := (s4.at hq2).1; simp only [Nat.zero_add] at x0 x1 x2 x3 x4 x5 x6; clear s1 s2 s3 s4; go_simp; with_reducible rfl
          try simp only [Act.put, List.getElem_toArray, List.getElem_cons_succ, List.getElem_cons_zero, List.setIfInBounds_toArray, List.set_cons_zero, List.set_cons_succ]
          refine wpAnyE.done (by kernel_rfl) ?_
          have HB := hb_84
          go_wp2
          go_roundw
          case rel => exact ⟨k + 1, by go_num, by omega, HB⟩
          case measure => simp [intOf]; omega
        | false =>
          rw [hbl] at hil
          clear hbl
          by_cases hph : l[k].r.ph = 0
          · skip
            have hpb : (l[k].r.ph != 0) = false := by simpa using hph
            clear hph
            have Rc0 := c1_of R_20
            have Cc0 := c1_of C_18
            go_upto_region 11 with fail
            clear Rc0 Cc0
            have hd_86 := below_refl_drew wr
            have hB_87 := hB_17.trans (hd_86.mono hB_17.size)
            have C_88 := (hd_86.block _ (heap_lt C_18)).trans C_18
            have P_89 := (hd_86.block _ (heap_lt P_19)).trans P_19
            have R_90 := (hd_86.block _ (heap_lt R_20)).trans R_20
            have QA_91 := QA_21.below hd_86
            have hb_92 := hbr.trans (hd_86.mono hbr.size)
            have hs_93 := hd_86.size
            clear C_18 P_19 R_20 QA_21 hbr hd_86 hB_17
            refine wp_region_E (fun W => (W.heap[p_3]? = some (.cells #[.slice (some ⟨B, 0, none⟩) 3 cap] 24)) ∧ (W.heap[w.heap.size]? = some (.cells #[.slice (some ⟨al, ol, none⟩) 3 c] 24)) ∧ (HoldsQ W (some ⟨B, 0, none⟩) qa) ∧ (HoldsQ W (some ⟨al, ol, none⟩) l)) (fun _ => false) (by kernel_rfl) ⟨R_90, C_88, QA_91.here, (h.below hB_87)⟩ (fun hS => ?_)
            clear hS
            generalize wr.drew = W_94 at *
            refine wpAnyE.take (i := 0) (v := ?_) rfl (by kernel_rfl) (by kernel_rfl) (by kernel_rfl) (by kernel_rfl) (fun _ _ _ h => h) (Or.inl ⟨by rfl, ?_⟩) ⟨R_90, C_88, QA_91.here, (h.below hB_87)⟩ ?_
            rotate_left
            · intro w hSw; obtain ⟨s1, s2, s3, s4⟩ := hSw; have e1 := c1_of s1; have e2 := c1_of s2; obtain ⟨x0, x1, x2, x3, x4, x5, x6⟩ := (s3.at hq1).1; obtain ⟨v0, v1, v2, v3, v4, v5, v6⟩ := (s4.at hq2).1; simp only [Nat.zero_add] at x0 x1 x2 x3 x4 x5 x6; clear s1 s2 s3 s4; go_simp; with_reducible rfl
            try simp only [Act.put, List.getElem_toArray, List.getElem_cons_zero, List.setIfInBounds_toArray, List.set_cons_zero, List.set_cons_succ]
            refine wpAnyE.take (i := 1) (v := ?_) rfl (by kernel_rfl) (by kernel_rfl) (by kernel_rfl) (by kernel_rfl) (fun _ _ _ h => h) (Or.inl ⟨by rfl, ?_⟩) ⟨R_90, C_88, QA_91.here, (h.below hB_87)⟩ ?_
            rotate_left
            · intro w hSw; obtain ⟨s1, s2, s3, s4⟩ := hSw; have e1 := c1_of s1; have e2 := c1_of s2; obtain ⟨x0, x1, x2, x3, x4, x5, x6⟩ := (s3.at hq1).1; obtain ⟨v0, v1, v2, v3, v4, v5, v6⟩ := (s4.at hq2).1; simp only [Nat.zero_add] at x0 x1 x2 x3 x4 x5 x6; clear s1 s2 s3 s4; go_simp; with_reducible rfl
            try simp only [Act.put, List.getElem_toArray, List.getElem_cons_succ, List.getElem_cons_zero, List.setIfInBounds_toArray, List.set_cons_zero, List.set_cons_succ]
            refine wpAnyE.one (i := 2) (by kernel_rfl) rfl (fun K hK => ?_)
            have hc_95 := hiu W_94
            go_simp
            refine hc_95.mono ?_
            clear hc_95
            rintro e W_96 ⟨rfl, h⟩
            have hB_97 := hB_87.trans (h.mono hB_87.size)
            have C_98 := (h.block _ (heap_lt C_88)).trans C_88
            have P_99 := (h.block _ (heap_lt P_89)).trans P_89
            have R_100 := (h.block _ (heap_lt R_90)).trans R_90
            have QA_101 := QA_91.below h
            have hb_102 := hb_92.trans (h.mono hb_92.size)
            have hs_103 := h.size
            clear C_88 P_89 R_90 QA_91 hb_92 h hB_87
            refine hK _ _ (fun _ => ⟨R_100, C_98, QA_101.here, (h.below hB_97)⟩) ?_
            clear hK K
            try simp only [Act.put, List.getElem_toArray, List.getElem_cons_succ, List.getElem_cons_zero, List.setIfInBounds_toArray, List.set_cons_zero, List.set_cons_succ]
            refine wpAnyE.take (i := 3) (v := ?_) rfl (by kernel_rfl) (by kernel_rfl) (by kernel_rfl) (by kernel_rfl) (fun _ _ _ h => h) (Or.inl ⟨by rfl, ?_⟩) ⟨R_100, C_98, QA_101.here, (h.below hB_97)⟩ ?_
            rotate_left
            · intro w hSw; obtain ⟨s1, s2, s3, s4⟩ := hSw; have e1 := c1_of s1; have e2 := c1_of s2; obtain ⟨x0, x1, x2, x3, x4, x5, x6⟩ := (s3.at hq1).1; obtain ⟨v0, v1, v2, v3, v4, v5, v6⟩ := (s4.at hq2).1; simp only [Nat.zero_add] at x0 x1 x2 x3 x4 x5 x6; clear s1 s2 s3 s4; go_simp; with_reducible rfl
            try simp only [Act.put, List.getElem_toArray, List.getElem_cons_succ, List.getElem_cons_zero, List.setIfInBounds_toArray, List.set_cons_zero, List.set_cons_succ]
            refine wpAnyE.take (i := 4) (v := ?_) rfl (by kernel_rfl) (by kernel_rfl) (by kernel_rfl) (by kernel_rfl) (fun _ _ _ h => h) (Or.inl ⟨by rfl, ?_⟩) ⟨R_100, C_98, QA_101.here, (h.below hB_97)⟩ ?_
            rotate_left
            · intro w hSw; obtain ⟨s1, s2, s3, s4⟩ := hSw; have e1 := c1_of s1; have e2 := c1_of s2; obtain ⟨x0, x1, x2, x3, x4, x5, x6⟩ := (s3.at hq1).1; obtain ⟨v0, v1, v2, v3, v4, v5, v6⟩ := (s4.at hq2).1; simp only [Nat.zero_add] at x0 x1 x2 x3 x4 x5 x6; clear s1 s2 s3 s4; go_simp; with_reducible rfl
            try simp only [Act.put, List.getElem_toArray, List.getElem_cons_succ, List.getElem_cons_zero, List.setIfInBounds_toArray, List.set_cons_zero, List.set_cons_succ]
            refine wpAnyE.take (i := 5) (v := ?_) rfl (by kernel_rfl) (by kernel_rfl) (by kernel_rfl) (by kernel_rfl) (fun _ _ _ h => h) (Or.inl ⟨by rfl, ?_⟩) ⟨R_100, C_98, QA_101.here, (h.below hB_97)⟩ ?_
            rotate_left
            · intro w hSw; obtain ⟨s1, s2, s3, s4⟩ := hSw; have e1 := c1_of s1; have e2 := c1_of s2; obtain ⟨x0, x1, x2, x3, x4, x5, x6⟩ := (s3.at hq1).1; obtain ⟨v0, v1, v2, v3, v4, v5, v6⟩ := (s4.at hq2).1; simp only [Nat.zero_add] at x0 x1 x2 x3 x4 x5 x6; clear s1 s2 s3 s4; go_simp; with_reducible rfl
            try simp only [Act.put, List.getElem_toArray, List.getElem_cons_succ, List.getElem_cons_zero, List.setIfInBounds_toArray, List.set_cons_zero, List.set_cons_succ]
            refine wpAnyE.take (i := 6) (v := ?_) rfl (by kernel_rfl) (by kernel_rfl) (by kernel_rfl) (by kernel_rfl) (fun _ _ _ h => h) (Or.inl ⟨by rfl, ?_⟩) ⟨R_100, C_98, QA_101.here, (h.below hB_97)⟩ ?_
            rotate_left
            · intro w hSw; obtain ⟨s1, s2, s3, s4⟩ := hSw; have e1 := c1_of s1; have e2 := c1_of s2; obtain ⟨x0, x1, x2, x3, x4, x5, x6⟩ := (s3.at hq1).1; obtain ⟨v0, v1, v2, v3, v4, v5, v6⟩ := (s4.at hq2).1; simp only [Nat.zero_add] at x0 x1 x2 x3 x4 x5 x6; clear s1 s2 s3 s4; go_simp; with_reducible rfl
            try simp only [Act.put, List.getElem_toArray, List.getElem_cons_succ, List.getElem_cons_zero, List.setIfInBounds_toArray, List.set_cons_zero, List.set_cons_succ]
            refine wpAnyE.one (i := 7) (by kernel_rfl) rfl (fun K hK => ?_)
            have hc_104 := hil W_96
            go_simp
            refine hc_104.mono ?_
            clear hc_104
            rintro e W_105 ⟨rfl, h⟩
            have hB_106 := hB_97.trans (h.mono hB_97.size)
            have C_107 := (h.block _ (heap_lt C_98)).trans C_98
            have P_108 := (h.block _ (heap_lt P_99)).trans P_99
            have R_109 := (h.block _ (heap_lt R_100)).trans R_100
            have QA_110 := QA_101.below h
            have hb_111 := hb_102.trans (h.mono hb_102.size)
            have hs_112 := h.size
            clear C_98 P_99 R_100 QA_101 hb_102 h hB_97
            refine hK _ _ (fun _ => ⟨R_109, C_107, QA_110.here, (h.below hB_106)⟩) ?_
            clear hK K
            try simp only [Act.put, List.getElem_toArray, List.getElem_cons_succ, List.getElem_cons_zero, List.setIfInBounds_toArray, List.set_cons_zero, List.set_cons_succ]
            refine wpAnyE.take (i := 8) (v := ?_) rfl (by kernel_rfl) (by kernel_rfl) (by kernel_rfl) (by kernel_rfl) (fun _ _ _ h => h) (Or.inl ⟨by rfl, ?_⟩) ⟨R_109, C_107, QA_110.here, (h.below hB_106)⟩ ?_
            rotate_left
            · intro w hSw; obtain ⟨s1, s2, s3, s4⟩ := hSw; have e1 := c1_of s1; have e2 := c1_of s2; obtain ⟨x0, x1, x2, x3, x4, x5, x6⟩ := (s3.at hq1).1; obtain ⟨v0, v1, v2, v3, v4, v5, v6⟩ := (s4.at hq2).1; simp only [Nat.zero_add] at x0 x1 x2 x3 x4 x5 x6; clear s1 s2 s3 s4; go_simp; with_reducible rfl
            try simp only [Act.put, List.getElem_toArray, List.getElem_cons_succ, List.getElem_cons_zero, List.setIfInBounds_toArray, List.set_cons_zero, List.set_cons_succ]
            refine wpAnyE.take (i := 9) (v := ?_) rfl (by kernel_rfl) (by kernel_rfl) (by kernel_rfl) (by kernel_rfl) (fun _ _ _ h => h) (Or.inl ⟨by rfl, ?_⟩) ⟨R_109, C_107, QA_110.here, (h.below hB_106)⟩ ?_
            rotate_left
            · intro w hSw; obtain ⟨s1, s2, s3, s4⟩ := hSw; have e1 := c1_of s1; have e2 := c1_of s2; obtain ⟨x0, x1, x2, x3, x4, x5, x6⟩ := (s3.at hq1).1; obtain ⟨v0, v1, v2, v3, v4, v5, v6⟩ := (s4.at hq2).1; simp only [Nat.zero_add] at x0 x1 x2 x3 x4 x5 x6; clear s1 s2 s3 s4; go_simp; with_reducible rfl
            try simp only [Act.put, List.getElem_toArray, List.getElem_cons_succ, List.getElem_cons_zero, List.setIfInBounds_toArray, List.set_cons_zero, List.set_cons_succ]
            refine wpAnyE.take (i := 10) (v := ?_) rfl (by kernel_rfl) (by kernel_rfl) (by kernel_rfl) (by kernel_rfl) (fun _ _ _ h => h) (Or.inl ⟨by rfl, ?_⟩) ⟨R_109, C_107, QA_110.here, (h.below hB_106)⟩ ?_
            rotate_left
            · intro w hSw; obtain ⟨s1, s2, s3, s4⟩ := hSw; have e1 := c1_of s1; have e2 := c1_of s2; obtain ⟨x0, x1, x2, x3, x4, x5, x6⟩ := (s3.at hq1).1; obtain ⟨v0, v1, v2, v3, v4, v5, v6⟩ := (s4.at hq2).1; simp only [Nat.zero_add] at x0 x1 x2 x3 x4 x5 x6; clear s1 s2 s3 s4; go_simp; with_reducible rfl
            try simp only [Act.put, List.getElem_toArray, List.getElem_cons_succ, List.getElem_cons_zero, List.setIfInBounds_toArray, List.set_cons_zero, List.set_cons_succ]
            refine wpAnyE.take (i := 12) (v := ?_) rfl (by kernel_rfl) (by kernel_rfl) (by kernel_rfl) (by kernel_rfl) (fun _ _ _ h => h) (Or.inl ⟨by rfl, ?_⟩) ⟨R_109, C_107, QA_110.here, (h.below hB_106)⟩ ?_
            rotate_left
            · intro w hSw; obtain ⟨s1, s2, s3, s4⟩ := hSw; have e1 := c1_of s1; have e2 := c1_of s2; obtain ⟨x0, x1, x2, x3, x4, x5, x6⟩ := (s3.at hq1).1; obtain ⟨v0, v1, v2, v3, v4, v5, v6⟩ := (s4.at hq2).1; simp only [Nat.zero_add] at x0 x1 x2 x3 x4 x5 x6; clear s1 s2 s3 s4; go_simp; with_reducible rfl
            try simp only [Act.put, List.getElem_toArray, List.getElem_cons_succ, List.getElem_cons_zero, List.setIfInBounds_toArray, List.set_cons_zero, List.set_cons_succ]
            refine wpAnyE.take (i := 11) (v := ?_) rfl (by kernel_rfl) (by kernel_rfl) (by kernel_rfl) (by kernel_rfl) (fun _ _ _ h => h) (Or.inl ⟨by rfl, ?_⟩) ⟨R_109, C_107, QA_110.here, (h.below hB_106)⟩ ?_
            rotate_left
            · intro w hSw; obtain ⟨s1, s2, s3, s4⟩ := hSw; have e1 := c1_of s1; have e2 := c1_of s2; obtain ⟨x0, x1, x2, x3, x4, x5, x6⟩ := (s3.at hq1).1; obtain ⟨v0, v1, v2, v3, v4, v5, v6⟩ := (s4.at hq2).1; simp only [Nat.zero_add] at x0 x1 x2 x3 x4 x5 x6; clear s1 s2 s3 s4; go_simp; with_reducible rfl
            try simp only [Act.put, List.getElem_toArray, List.getElem_cons_succ, List.getElem_cons_zero, List.setIfInBounds_toArray, List.set_cons_zero, List.set_cons_succ]
            refine wpAnyE.take (i := 13) (v := ?_) rfl (by kernel_rfl) (by kernel_rfl) (by kernel_rfl) (by kernel_rfl) (fun _ _ _ h => h) (Or.inl ⟨by rfl, ?_⟩) ⟨R_109, C_107, QA_110.here, (h.below hB_106)⟩ ?_
            rotate_left
            · intro w hSw; obtain ⟨s1, s2, s3, s4⟩ := hSw; have e1 := c1_of s1; have e2 := c1_of s2; obtain ⟨x0, x1, x2, x3, x4, x5, x6⟩ := (s3.at hq1).1; obtain ⟨v0, v1, v2, v3, v4, v5, v6⟩ := (s4.at hq2).1; simp only [Nat.zero_add] at x0 x1 x2 x3 x4 x5 x6; clear s1 s2 s3 s4; go_simp; with_reducible rfl
            try simp only [Act.put, List.getElem_toArray, List.getElem_cons_succ, List.getElem_cons_zero, List.setIfInBounds_toArray, List.set_cons_zero, List.set_cons_succ]
            refine wpAnyE.take (i := 14) (v := ?_) rfl (by kernel_rfl) (by kernel_rfl) (by kernel_rfl) (by kernel_rfl) (fun _ _ _ h => h) (Or.inl ⟨by rfl, ?_⟩) ⟨R_109, C_107, QA_110.here, (h.below hB_106)⟩ ?_
            rotate_left
            · intro w hSw; obtain ⟨s1, s2, s3, s4⟩ := hSw; have e1 := c1_of s1; have e2 := c1_of s2; obtain ⟨x0, x1, x2, x3, x4, x5, x6⟩ := (s3.at hq1).1; obtain ⟨v0, v1, v2, v3, v4, v5, v6⟩ := (s4.at hq2).1; simp only [Nat.zero_add] at x0 x1 x2 x3 x4 x5 x6; clear s1 s2 s3 s4; go_simp; with_reducible rfl
            try simp only [Act.put, List.getElem_toArray, List.getElem_cons_succ, List.getElem_cons_zero, List.setIfInBounds_toArray, List.set_cons_zero, List.set_cons_succ]
            refine wpAnyE.take (i := 15) (v := ?_) rfl (by kernel_rfl) (by kernel_rfl) (by kernel_rfl) (by kernel_rfl) (fun _ _ _ h => h) (Or.inl ⟨by rfl, ?_⟩) ⟨R_109, C_107, QA_110.here, (h.below hB_106)⟩ ?_
            rotate_left
            · intro w hSw; obtain ⟨s1, s2, s3, s4⟩ := hSw; have e1 := c1_of s1; have e2 := c1_of s2; obtain ⟨x0, x1, x2, x3, x4, x5, x6⟩ := (s3.at hq1).1; obtain ⟨v0, v1, v2, v3, v4, v5, v6⟩ := (s4.at hq2).1; simp only [Nat.zero_add] at x0 x1 x2 x3 x4 x5 x6; clear s1 s2 s3 s4; go_simp; with_reducible rfl
            try simp only [Act.put, List.getElem_toArray, List.getElem_cons_succ, List.getElem_cons_zero, List.setIfInBounds_toArray, List.set_cons_zero, List.set_cons_succ]
            refine wpAnyE.take (i := 16) (v := ?_) rfl (by kernel_rfl) (by kernel_rfl) (by kernel_rfl) (by kernel_rfl) (fun _ _ _ h => h) (Or.inl ⟨by rfl, ?_⟩) ⟨R_109, C_107, QA_110.here, (h.below hB_106)⟩ ?_
            rotate_left
            · intro w hSw; obtain ⟨s1, s2, s3, s4⟩ := hSw; have e1 := c1_of s1; have e2 := c1_of s2; obtain ⟨x0, x1, x2, x3, x4, x5, x6⟩ := (s3.at hq1).1; obtain ⟨v0, v1, v2, v3, v4, v5, v6⟩ := (s4.at hq2).1; simp only [Nat.zero_add] at x0 x1 x2 x3 x4 x5 x6; clear s1 s2 s3 s4; go_simp; with_reducible rfl
            try simp only [Act.put, List.getElem_toArray, List.getElem_cons_succ, List.getElem_cons_zero, List.setIfInBounds_toArray, List.set_cons_zero, List.set_cons_succ]
            refine wpAnyE.take (i := 17) (v := ?_) rfl (by kernel_rfl) (by kernel_rfl) (by kernel_rfl) (by kernel_rfl) (fun _ _ _ h => h) (Or.inl ⟨by rfl, ?_⟩) ⟨R_109, C_107, QA_110.here, (h.below hB_106)⟩ ?_
            rotate_left
            · intro w hSw; obtain ⟨s1, s2, s3, s4⟩ := hSw; have e1 := c1_of s1; have e2 := c1_of s2; obtain ⟨x0, x1, x2, x3, x4, x5, x6⟩ := (s3.at hq1).1; obtain ⟨v0, v1, v2, v3, v4, v5, v6⟩ := (s4.at hq2).1; simp only [Nat.zero_add] at x0 x1 x2 x3 x4 x5 x6; clear s1 s2 s3 s4; go_simp; with_reducible rfl
            try simp only [Act.put, List.getElem_toArray, List.getElem_cons_succ, List.getElem_cons_zero, List.setIfInBounds_toArray, List.set_cons_zero, List.set_cons_succ]
            refine wpAnyE.take (i := 18) (v := ?_) rfl (by kernel_rfl) (by kernel_rfl) (by kernel_rfl) (by kernel_rfl) (fun _ _ _ h => h) (Or.inl ⟨by rfl, ?_⟩) ⟨R_109, C_107, QA_110.here, (h.below hB_106)⟩ ?_
            rotate_left
            · intro w hSw; obtain ⟨s1, s2, s3, s4⟩ := hSw; have e1 := c1_of s1; have e2 := c1_of s2; obtain ⟨x0, x1, x2, x3, x4, x5, x6⟩ := (s3.at hq1).1; obtain ⟨v0, v1, v2, v3, v4, v5, v6⟩ := (s4.at hq2).1; simp only [Nat.zero_add] at x0 x1 x2 x3 x4 x5 x6; clear s1 s2 s3 s4; go_simp; with_reducible rfl
            try simp only [Act.put, List.getElem_toArray, List.getElem_cons_succ, List.getElem_cons_zero, List.setIfInBounds_toArray, List.set_cons_zero, List.set_cons_succ]
            refine wpAnyE.take (i := 19) (v := undef) rfl (by kernel_rfl) (by kernel_rfl) (by kernel_rfl) (by kernel_rfl) (fun _ _ _ h => h) (Or.inr ⟨by rfl, rfl⟩) ⟨R_109, C_107, QA_110.here, (h.below hB_106)⟩ ?_
            try simp only [Act.put, List.getElem_toArray, List.getElem_cons_succ, List.getElem_cons_zero, List.setIfInBounds_toArray, List.set_cons_zero, List.set_cons_succ]
            refine wpAnyE.take (i := 21) (v := undef) rfl (by kernel_rfl) (by kernel_rfl) (by kernel_rfl) (by kernel_rfl) (fun _ _ _ h => h) (Or.inr ⟨by rfl, rfl⟩) ⟨R_109, C_107, QA_110.here, (h.below hB_106)⟩ ?_
            try simp only [Act.put, List.getElem_toArray, List.getElem_cons_succ, List.getElem_cons_zero, List.setIfInBounds_toArray, List.set_cons_zero, List.set_cons_succ]
            refine wpAnyE.take (i := 24) (v := undef) rfl (by kernel_rfl) (by kernel_rfl) (by kernel_rfl) (by kernel_rfl) (fun _ _ _ h => h) (Or.inr ⟨by rfl, rfl⟩) ⟨R_109, C_107, QA_110.here, (h.below hB_106)⟩ ?_
            try simp only [Act.put, List.getElem_toArray, List.getElem_cons_succ, List.getElem_cons_zero, List.setIfInBounds_toArray, List.set_cons_zero, List.set_cons_succ]
            refine wpAnyE.take (i := 26) (v := undef) rfl (by kernel_rfl) (by kernel_rfl) (by kernel_rfl) (by kernel_rfl) (fun _ _ _ h => h) (Or.inr ⟨by rfl, rfl⟩) ⟨R_109, C_107, QA_110.here, (h.below hB_106)⟩ ?_
            try simp only [Act.put, List.getElem_toArray, List.getElem_cons_succ, List.getElem_cons_zero, List.setIfInBounds_toArray, List.set_cons_zero, List.set_cons_succ]
            refine wpAnyE.take (i := 20) (v := undef) rfl (by kernel_rfl) (by kernel_rfl) (by kernel_rfl) (by kernel_rfl) (fun _ _ _ h => h) (Or.inr ⟨by rfl, rfl⟩) ⟨R_109, C_107, QA_110.here, (h.below hB_106)⟩ ?_
            try simp only [Act.put, List.getElem_toArray, List.getElem_cons_succ, List.getElem_cons_zero, List.setIfInBounds_toArray, List.set_cons_zero, List.set_cons_succ]
            refine wpAnyE.take (i := 25) (v := undef) rfl (by kernel_rfl) (by kernel_rfl) (by kernel_rfl) (by kernel_rfl) (fun _ _ _ h => h) (Or.inr ⟨by rfl, rfl⟩) ⟨R_109, C_107, QA_110.here, (h.below hB_106)⟩ ?_
            try simp only [Act.put, List.getElem_toArray, List.getElem_cons_succ, List.getElem_cons_zero, List.setIfInBounds_toArray, List.set_cons_zero, List.set_cons_succ]
            refine wpAnyE.take (i := 22) (v := undef) rfl (by kernel_rfl) (by kernel_rfl) (by kernel_rfl) (by kernel_rfl) (fun _ _ _ h => h) (Or.inr ⟨by rfl, rfl⟩) ⟨R_109, C_107, QA_110.here, (h.below hB_106)⟩ ?_
            try simp only [Act.put, List.getElem_toArray, List.getElem_cons_succ, List.getElem_cons_zero, List.setIfInBounds_toArray, List.set_cons_zero, List.set_cons_succ]
            refine wpAnyE.take (i := 27) (v := undef) rfl (by kernel_rfl) (by kernel_rfl) (by kernel_rfl) (by kernel_rfl) (fun _ _ _ h => h) (Or.inr ⟨by rfl, rfl⟩) ⟨R_109, C_107, QA_110.here, (h.below hB_106)⟩ ?_
            try simp only [Act.put, List.getElem_toArray, List.getElem_cons_succ, List.getElem_cons_zero, List.setIfInBounds_toArray, List.set_cons_zero, List.set_cons_succ]
            refine wpAnyE.take (i := 23) (v := undef) rfl (by kernel_rfl) (by kernel_rfl) (by kernel_rfl) (by kernel_rfl) (fun _ _ _ h => h) (Or.inr ⟨by rfl, rfl⟩) ⟨R_109, C_107, QA_110.here, (h.below hB_106)⟩ ?_
            try simp only [Act.put, List.getElem_toArray, List.getElem_cons_succ, List.getElem_cons_zero, List.setIfInBounds_toArray, List.set_cons_zero, List.set_cons_succ]
            refine wpAnyE.take (i := 28) (v := undef) rfl (by kernel_rfl) (by kernel_rfl) (by kernel_rfl) (by kernel_rfl) (fun _ _ _ h => h) (Or.inr ⟨by rfl, rfl⟩) ⟨R_109, C_107, QA_110.here, (h.below hB_106)⟩ ?_
            try simp only [Act.put, List.getElem_toArray, List.getElem_cons_succ, List.getElem_cons_zero, List.setIfInBounds_toArray, List.set_cons_zero, List.set_cons_succ]
            refine wpAnyE.take (i := 29) (v := undef) rfl (by kernel_rfl) (by kernel_rfl) (by kernel_rfl) (by kernel_rfl) (fun _ _ _ h => h) (Or.inr ⟨by rfl, rfl⟩) ⟨R_109, C_107, QA_110.here, (h.below hB_106)⟩ ?_
            try simp only [Act.put, List.getElem_toArray, List.getElem_cons_succ, List.getElem_cons_zero, List.setIfInBounds_toArray, List.set_cons_zero, List.set_cons_succ]
            refine wpAnyE.take (i := 30) (v := undef) rfl (by kernel_rfl) (by kernel_rfl) (by kernel_rfl) (by kernel_rfl) (fun _ _ _ h => h) (Or.inr ⟨by rfl, rfl⟩) ⟨R_109, C_107, QA_110.here, (h.below hB_106)⟩ ?_
            try simp only [Act.put, List.getElem_toArray, List.getElem_cons_succ, List.getElem_cons_zero, List.setIfInBounds_toArray, List.set_cons_zero, List.set_cons_succ]
            refine wpAnyE.take (i := 31) (v := ?_) rfl (by kernel_rfl) (by kernel_rfl) (by kernel_rfl) (by kernel_rfl) (fun _ _ _ h => h) (Or.inl ⟨by rfl, ?_⟩) ⟨R_109, C_107, QA_110.here, (h.below hB_106)⟩ ?_
            rotate_left
            · intro w hSw; obtain ⟨s1, s2, s3, s4⟩ := hSw; have e1 := c1_of s1; have e2 := c1_of s2; obtain ⟨x0, x1, x2, x3, x4, x5, x6⟩ := (s3.at hq1).1; obtain ⟨v0, v1, v2, v3, v4, v5, v6⟩ := (s4.at hq2).1; simp only [Nat.zero_add] at x0 x1 x2 x3 x4 x5 x6; clear s1 s2 s3 s4; go_simp; with_reducible rfl
            try simp only [Act.put, List.getElem_toArray, List.getElem_cons_succ, List.getElem_cons_zero, List.setIfInBounds_toArray, List.set_cons_zero, List.set_cons_succ]
            refine wpAnyE.done (by kernel_rfl) ?_
            have HB := hb_111
            go_wp2
            go_roundw
            case rel => exact ⟨k + 1, by go_num, by omega, HB⟩
            case measure => simp [intOf]; omega
          · skip
            have hpb : (l[k].r.ph != 0) = true := by simpa using hph
            have HW : Hid ((rOf (l.map Rq.r) k).ph ≠ 0) := by unfold Hid; rw [← HY.out k hq2]; exact hph
            clear hph
            have Rc0 := c1_of R_20
            have Cc0 := c1_of C_18
            go_upto_region 11 with fail
            clear Rc0 Cc0
            have hd_113 := below_refl_drew wr
            have hB_114 := hB_17.trans (hd_113.mono hB_17.size)
            have C_115 := (hd_113.block _ (heap_lt C_18)).trans C_18
            have P_116 := (hd_113.block _ (heap_lt P_19)).trans P_19
            have R_117 := (hd_113.block _ (heap_lt R_20)).trans R_20
            have QA_118 := QA_21.below hd_113
            have hb_119 := hbr.trans (hd_113.mono hbr.size)
            have hs_120 := hd_113.size
            clear C_18 P_19 R_20 QA_21 hbr hd_113 hB_17
            refine wp_region_E (fun W => (W.heap[p_3]? = some (.cells #[.slice (some ⟨B, 0, none⟩) 3 cap] 24)) ∧ (W.heap[w.heap.size]? = some (.cells #[.slice (some ⟨al, ol, none⟩) 3 c] 24)) ∧ (HoldsQ W (some ⟨B, 0, none⟩) qa) ∧ (HoldsQ W (some ⟨al, ol, none⟩) l)) (fun _ => false) (by kernel_rfl) ⟨R_117, C_115, QA_118.here, (h.below hB_114)⟩ (fun hS => ?_)
            clear hS
            generalize wr.drew = W_121 at *
            refine wpAnyE.take (i := 0) (v := ?_) rfl (by kernel_rfl) (by kernel_rfl) (by kernel_rfl) (by kernel_rfl) (fun _ _ _ h => h) (Or.inl ⟨by rfl, ?_⟩) ⟨R_117, C_115, QA_118.here, (h.below hB_114)⟩ ?_
            rotate_left
            · intro w hSw; obtain ⟨s1, s2, s3, s4⟩ := hSw; have e1 := c1_of s1; have e2 := c1_of s2; obtain ⟨x0, x1, x2, x3, x4, x5, x6⟩ := (s3.at hq1).1; obtain ⟨v0, v1, v2, v3, v4, v5, v6⟩ := (s4.at hq2).1; simp only [Nat.zero_add] at x0 x1 x2 x3 x4 x5 x6; clear s1 s2 s3 s4; go_simp; with_reducible rfl
            try simp only [Act.put, List.getElem_toArray, List.getElem_cons_zero, List.setIfInBounds_toArray, List.set_cons_zero, List.set_cons_succ]
            refine wpAnyE.take (i := 1) (v := ?_) rfl (by kernel_rfl) (by kernel_rfl) (by kernel_rfl) (by kernel_rfl) (fun _ _ _ h => h) (Or.inl ⟨by rfl, ?_⟩) ⟨R_117, C_115, QA_118.here, (h.below hB_114)⟩ ?_
            rotate_left
            · intro w hSw; obtain ⟨s1, s2, s3, s4⟩ := hSw; have e1 := c1_of s1; have e2 := c1_of s2; obtain ⟨x0, x1, x2, x3, x4, x5, x6⟩ := (s3.at hq1).1; obtain ⟨v0, v1, v2, v3, v4, v5, v6⟩ := (s4.at hq2).1; simp only [Nat.zero_add] at x0 x1 x2 x3 x4 x5 x6; clear s1 s2 s3 s4; go_simp; with_reducible rfl
            try simp only [Act.put, List.getElem_toArray, List.getElem_cons_succ, List.getElem_cons_zero, List.setIfInBounds_toArray, List.set_cons_zero, List.set_cons_succ]
            refine wpAnyE.one (i := 2) (by kernel_rfl) rfl (fun K hK => ?_)
            have hc_122 := hiu W_121
            go_simp
            refine hc_122.mono ?_
            clear hc_122
            rintro e W_123 ⟨rfl, h⟩
            have hB_124 := hB_114.trans (h.mono hB_114.size)
            have C_125 := (h.block _ (heap_lt C_115)).trans C_115
            have P_126 := (h.block _ (heap_lt P_116)).trans P_116
            have R_127 := (h.block _ (heap_lt R_117)).trans R_117
            have QA_128 := QA_118.below h
            have hb_129 := hb_119.trans (h.mono hb_119.size)
            have hs_130 := h.size
            clear C_115 P_116 R_117 QA_118 hb_119 h hB_114
            refine hK _ _ (fun _ => ⟨R_127, C_125, QA_128.here, (h.below hB_124)⟩) ?_
            clear hK K
            try simp only [Act.put, List.getElem_toArray, List.getElem_cons_succ, List.getElem_cons_zero, List.setIfInBounds_toArray, List.set_cons_zero, List.set_cons_succ]
            refine wpAnyE.take (i := 3) (v := ?_) rfl (by kernel_rfl) (by kernel_rfl) (by kernel_rfl) (by kernel_rfl) (fun _ _ _ h => h) (Or.inl ⟨by rfl, ?_⟩) ⟨R_127, C_125, QA_128.here, (h.below hB_124)⟩ ?_
            rotate_left
            · intro w hSw; obtain ⟨s1, s2, s3, s4⟩ := hSw; have e1 := c1_of s1; have e2 := c1_of s2; obtain ⟨x0, x1, x2, x3, x4, x5, x6⟩ := (s3.at hq1).1; obtain ⟨v0, v1, v2, v3, v4, v5, v6⟩ := (s4.at hq2).1; simp only [Nat.zero_add] at x0 x1 x2 x3 x4 x5 x6; clear s1 s2 s3 s4; go_simp; with_reducible rfl
            try simp only [Act.put, List.getElem_toArray, List.getElem_cons_succ, List.getElem_cons_zero, List.setIfInBounds_toArray, List.set_cons_zero, List.set_cons_succ]
            refine wpAnyE.take (i := 4) (v := ?_) rfl (by kernel_rfl) (by kernel_rfl) (by kernel_rfl) (by kernel_rfl) (fun _ _ _ h => h) (Or.inl ⟨by rfl, ?_⟩) ⟨R_127, C_125, QA_128.here, (h.below hB_124)⟩ ?_
            rotate_left
            · intro w hSw; obtain ⟨s1, s2, s3, s4⟩ := hSw; have e1 := c1_of s1; have e2 := c1_of s2; obtain ⟨x0, x1, x2, x3, x4, x5, x6⟩ := (s3.at hq1).1; obtain ⟨v0, v1, v2, v3, v4, v5, v6⟩ := (s4.at hq2).1; simp only [Nat.zero_add] at x0 x1 x2 x3 x4 x5 x6; clear s1 s2 s3 s4; go_simp; with_reducible rfl
            try simp only [Act.put, List.getElem_toArray, List.getElem_cons_succ, List.getElem_cons_zero, List.setIfInBounds_toArray, List.set_cons_zero, List.set_cons_succ]
            refine wpAnyE.take (i := 5) (v := ?_) rfl (by kernel_rfl) (by kernel_rfl) (by kernel_rfl) (by kernel_rfl) (fun _ _ _ h => h) (Or.inl ⟨by rfl, ?_⟩) ⟨R_127, C_125, QA_128.here, (h.below hB_124)⟩ ?_
            rotate_left
            · intro w hSw; obtain ⟨s1, s2, s3, s4⟩ := hSw; have e1 := c1_of s1; have e2 := c1_of s2; obtain ⟨x0, x1, x2, x3, x4, x5, x6⟩ := (s3.at hq1).1; obtain ⟨v0, v1, v2, v3, v4, v5, v6⟩ := (s4.at hq2).1; simp only [Nat.zero_add] at x0 x1 x2 x3 x4 x5 x6; clear s1 s2 s3 s4; go_simp; with_reducible rfl
            try simp only [Act.put, List.getElem_toArray, List.getElem_cons_succ, List.getElem_cons_zero, List.setIfInBounds_toArray, List.set_cons_zero, List.set_cons_succ]
            refine wpAnyE.take (i := 6) (v := ?_) rfl (by kernel_rfl) (by kernel_rfl) (by kernel_rfl) (by kernel_rfl) (fun _ _ _ h => h) (Or.inl ⟨by rfl, ?_⟩) ⟨R_127, C_125, QA_128.here, (h.below hB_124)⟩ ?_
            rotate_left
            · intro w hSw; obtain ⟨s1, s2, s3, s4⟩ := hSw; have e1 := c1_of s1; have e2 := c1_of s2; obtain ⟨x0, x1, x2, x3, x4, x5, x6⟩ := (s3.at hq1).1; obtain ⟨v0, v1, v2, v3, v4, v5, v6⟩ := (s4.at hq2).1; simp only [Nat.zero_add] at x0 x1 x2 x3 x4 x5 x6; clear s1 s2 s3 s4; go_simp; with_reducible rfl
            try simp only [Act.put, List.getElem_toArray, List.getElem_cons_succ, List.getElem_cons_zero, List.setIfInBounds_toArray, List.set_cons_zero, List.set_cons_succ]
            refine wpAnyE.one (i := 7) (by kernel_rfl) rfl (fun K hK => ?_)
            have hc_131 := hil W_123
            go_simp
            refine hc_131.mono ?_
            clear hc_131
            rintro e W_132 ⟨rfl, h⟩
            have hB_133 := hB_124.trans (h.mono hB_124.size)
            have C_134 := (h.block _ (heap_lt C_125)).trans C_125
            have P_135 := (h.block _ (heap_lt P_126)).trans P_126
            have R_136 := (h.block _ (heap_lt R_127)).trans R_127
            have QA_137 := QA_128.below h
            have hb_138 := hb_129.trans (h.mono hb_129.size)
            have hs_139 := h.size
            clear C_125 P_126 R_127 QA_128 hb_129 h hB_124
            refine hK _ _ (fun _ => ⟨R_136, C_134, QA_137.here, (h.below hB_133)⟩) ?_
            clear hK K
            try simp only [Act.put, List.getElem_toArray, List.getElem_cons_succ, List.getElem_cons_zero, List.setIfInBounds_toArray, List.set_cons_zero, List.set_cons_succ]
            refine wpAnyE.take (i := 8) (v := ?_) rfl (by kernel_rfl) (by kernel_rfl) (by kernel_rfl) (by kernel_rfl) (fun _ _ _ h => h) (Or.inl ⟨by rfl, ?_⟩) ⟨R_136, C_134, QA_137.here, (h.below hB_133)⟩ ?_
            rotate_left
            · intro w hSw; obtain ⟨s1, s2, s3, s4⟩ := hSw; have e1 := c1_of s1; have e2 := c1_of s2; obtain ⟨x0, x1, x2, x3, x4, x5, x6⟩ := (s3.at hq1).1; obtain ⟨v0, v1, v2, v3, v4, v5, v6⟩ := (s4.at hq2).1; simp only [Nat.zero_add] at x0 x1 x2 x3 x4 x5 x6; clear s1 s2 s3 s4; go_simp; with_reducible rfl
            try simp only [Act.put, List.getElem_toArray, List.getElem_cons_succ, List.getElem_cons_zero, List.setIfInBounds_toArray, List.set_cons_zero, List.set_cons_succ]
            refine wpAnyE.take (i := 9) (v := ?_) rfl (by kernel_rfl) (by kernel_rfl) (by kernel_rfl) (by kernel_rfl) (fun _ _ _ h => h) (Or.inl ⟨by rfl, ?_⟩) ⟨R_136, C_134, QA_137.here, (h.below hB_133)⟩ ?_
            rotate_left
            · intro w hSw; obtain ⟨s1, s2, s3, s4⟩ := hSw; have e1 := c1_of s1; have e2 := c1_of s2; obtain ⟨x0, x1, x2, x3, x4, x5, x6⟩ := (s3.at hq1).1; obtain ⟨v0, v1, v2, v3, v4, v5, v6⟩ := (s4.at hq2).1; simp only [Nat.zero_add] at x0 x1 x2 x3 x4 x5 x6; clear s1 s2 s3 s4; go_simp; with_reducible rfl
            try simp only [Act.put, List.getElem_toArray, List.getElem_cons_succ, List.getElem_cons_zero, List.setIfInBounds_toArray, List.set_cons_zero, List.set_cons_succ]
            refine wpAnyE.take (i := 10) (v := ?_) rfl (by kernel_rfl) (by kernel_rfl) (by kernel_rfl) (by kernel_rfl) (fun _ _ _ h => h) (Or.inl ⟨by rfl, ?_⟩) ⟨R_136, C_134, QA_137.here, (h.below hB_133)⟩ ?_
            rotate_left
            · intro w hSw; obtain ⟨s1, s2, s3, s4⟩ := hSw; have e1 := c1_of s1; have e2 := c1_of s2; obtain ⟨x0, x1, x2, x3, x4, x5, x6⟩ := (s3.at hq1).1; obtain ⟨v0, v1, v2, v3, v4, v5, v6⟩ := (s4.at hq2).1; simp only [Nat.zero_add] at x0 x1 x2 x3 x4 x5 x6; clear s1 s2 s3 s4; go_simp; with_reducible rfl
            try simp only [Act.put, List.getElem_toArray, List.getElem_cons_succ, List.getElem_cons_zero, List.setIfInBounds_toArray, List.set_cons_zero, List.set_cons_succ]
            refine wpAnyE.take (i := 12) (v := ?_) rfl (by kernel_rfl) (by kernel_rfl) (by kernel_rfl) (by kernel_rfl) (fun _ _ _ h => h) (Or.inl ⟨by rfl, ?_⟩) ⟨R_136, C_134, QA_137.here, (h.below hB_133)⟩ ?_
            rotate_left
            · intro w hSw; obtain ⟨s1, s2, s3, s4⟩ := hSw; have e1 := c1_of s1; have e2 := c1_of s2; obtain ⟨x0, x1, x2, x3, x4, x5, x6⟩ := (s3.at hq1).1; obtain ⟨v0, v1, v2, v3, v4, v5, v6⟩ := (s4.at hq2).1; simp only [Nat.zero_add] at x0 x1 x2 x3 x4 x5 x6; clear s1 s2 s3 s4; go_simp; with_reducible rfl
            try simp only [Act.put, List.getElem_toArray, List.getElem_cons_succ, List.getElem_cons_zero, List.setIfInBounds_toArray, List.set_cons_zero, List.set_cons_succ]
            refine wpAnyE.take (i := 11) (v := ?_) rfl (by kernel_rfl) (by kernel_rfl) (by kernel_rfl) (by kernel_rfl) (fun _ _ _ h => h) (Or.inl ⟨by rfl, ?_⟩) ⟨R_136, C_134, QA_137.here, (h.below hB_133)⟩ ?_
            rotate_left
            · intro w hSw; obtain ⟨s1, s2, s3, s4⟩ := hSw; have e1 := c1_of s1; have e2 := c1_of s2; obtain ⟨x0, x1, x2, x3, x4, x5, x6⟩ := (s3.at hq1).1; obtain ⟨v0, v1, v2, v3, v4, v5, v6⟩ := (s4.at hq2).1; simp only [Nat.zero_add] at x0 x1 x2 x3 x4 x5 x6; clear s1 s2 s3 s4; go_simp; with_reducible rfl
            try simp only [Act.put, List.getElem_toArray, List.getElem_cons_succ, List.getElem_cons_zero, List.setIfInBounds_toArray, List.set_cons_zero, List.set_cons_succ]
            refine wpAnyE.take (i := 13) (v := ?_) rfl (by kernel_rfl) (by kernel_rfl) (by kernel_rfl) (by kernel_rfl) (fun _ _ _ h => h) (Or.inl ⟨by rfl, ?_⟩) ⟨R_136, C_134, QA_137.here, (h.below hB_133)⟩ ?_
            rotate_left
            · intro w hSw; obtain ⟨s1, s2, s3, s4⟩ := hSw; have e1 := c1_of s1; have e2 := c1_of s2; obtain ⟨x0, x1, x2, x3, x4, x5, x6⟩ := (s3.at hq1).1; obtain ⟨v0, v1, v2, v3, v4, v5, v6⟩ := (s4.at hq2).1; simp only [Nat.zero_add] at x0 x1 x2 x3 x4 x5 x6; clear s1 s2 s3 s4; go_simp; with_reducible rfl
            try simp only [Act.put, List.getElem_toArray, List.getElem_cons_succ, List.getElem_cons_zero, List.setIfInBounds_toArray, List.set_cons_zero, List.set_cons_succ]
            refine wpAnyE.take (i := 14) (v := ?_) rfl (by kernel_rfl) (by kernel_rfl) (by kernel_rfl) (by kernel_rfl) (fun _ _ _ h => h) (Or.inl ⟨by rfl, ?_⟩) ⟨R_136, C_134, QA_137.here, (h.below hB_133)⟩ ?_
            rotate_left
            · intro w hSw; obtain ⟨s1, s2, s3, s4⟩ := hSw; have e1 := c1_of s1; have e2 := c1_of s2; obtain ⟨x0, x1, x2, x3, x4, x5, x6⟩ := (s3.at hq1).1; obtain ⟨v0, v1, v2, v3, v4, v5, v6⟩ := (s4.at hq2).1; simp only [Nat.zero_add] at x0 x1 x2 x3 x4 x5 x6; clear s1 s2 s3 s4; go_simp; with_reducible rfl
            try simp only [Act.put, List.getElem_toArray, List.getElem_cons_succ, List.getElem_cons_zero, List.setIfInBounds_toArray, List.set_cons_zero, List.set_cons_succ]
            refine wpAnyE.take (i := 15) (v := ?_) rfl (by kernel_rfl) (by kernel_rfl) (by kernel_rfl) (by kernel_rfl) (fun _ _ _ h => h) (Or.inl ⟨by rfl, ?_⟩) ⟨R_136, C_134, QA_137.here, (h.below hB_133)⟩ ?_
            rotate_left
            · intro w hSw; obtain ⟨s1, s2, s3, s4⟩ := hSw; have e1 := c1_of s1; have e2 := c1_of s2; obtain ⟨x0, x1, x2, x3, x4, x5, x6⟩ := (s3.at hq1).1; obtain ⟨v0, v1, v2, v3, v4, v5, v6⟩ := (s4.at hq2).1; simp only [Nat.zero_add] at x0 x1 x2 x3 x4 x5 x6; clear s1 s2 s3 s4; go_simp; with_reducible rfl
            try simp only [Act.put, List.getElem_toArray, List.getElem_cons_succ, List.getElem_cons_zero, List.setIfInBounds_toArray, List.set_cons_zero, List.set_cons_succ]
            refine wpAnyE.take (i := 16) (v := ?_) rfl (by kernel_rfl) (by kernel_rfl) (by kernel_rfl) (by kernel_rfl) (fun _ _ _ h => h) (Or.inl ⟨by rfl, ?_⟩) ⟨R_136, C_134, QA_137.here, (h.below hB_133)⟩ ?_
            rotate_left
            · intro w hSw; obtain ⟨s1, s2, s3, s4⟩ := hSw; have e1 := c1_of s1; have e2 := c1_of s2; obtain ⟨x0, x1, x2, x3, x4, x5, x6⟩ := (s3.at hq1).1; obtain ⟨v0, v1, v2, v3, v4, v5, v6⟩ := (s4.at hq2).1; simp only [Nat.zero_add] at x0 x1 x2 x3 x4 x5 x6; clear s1 s2 s3 s4; go_simp; with_reducible rfl
            try simp only [Act.put, List.getElem_toArray, List.getElem_cons_succ, List.getElem_cons_zero, List.setIfInBounds_toArray, List.set_cons_zero, List.set_cons_succ]
            refine wpAnyE.take (i := 17) (v := ?_) rfl (by kernel_rfl) (by kernel_rfl) (by kernel_rfl) (by kernel_rfl) (fun _ _ _ h => h) (Or.inl ⟨by rfl, ?_⟩) ⟨R_136, C_134, QA_137.here, (h.below hB_133)⟩ ?_
            rotate_left
            · intro w hSw; obtain ⟨s1, s2, s3, s4⟩ := hSw; have e1 := c1_of s1; have e2 := c1_of s2; obtain ⟨x0, x1, x2, x3, x4, x5, x6⟩ := (s3.at hq1).1; obtain ⟨v0, v1, v2, v3, v4, v5, v6⟩ := (s4.at hq2).1; simp only [Nat.zero_add] at x0 x1 x2 x3 x4 x5 x6; clear s1 s2 s3 s4; go_simp; with_reducible rfl
            try simp only [Act.put, List.getElem_toArray, List.getElem_cons_succ, List.getElem_cons_zero, List.setIfInBounds_toArray, List.set_cons_zero, List.set_cons_succ]
            refine wpAnyE.take (i := 18) (v := ?_) rfl (by kernel_rfl) (by kernel_rfl) (by kernel_rfl) (by kernel_rfl) (fun _ _ _ h => h) (Or.inl ⟨by rfl, ?_⟩) ⟨R_136, C_134, QA_137.here, (h.below hB_133)⟩ ?_
            rotate_left
            · intro w hSw; obtain ⟨s1, s2, s3, s4⟩ := hSw; have e1 := c1_of s1; have e2 := c1_of s2; obtain ⟨x0, x1, x2, x3, x4, x5, x6⟩ := (s3.at hq1).1; obtain ⟨v0, v1, v2, v3, v4, v5, v6⟩ := (s4.at hq2).1; simp only [Nat.zero_add] at x0 x1 x2 x3 x4 x5 x6; clear s1 s2 s3 s4; go_simp; with_reducible rfl
            try simp only [Act.put, List.getElem_toArray, List.getElem_cons_succ, List.getElem_cons_zero, List.setIfInBounds_toArray, List.set_cons_zero, List.set_cons_succ]
            refine wpAnyE.take (i := 19) (v := ?_) rfl (by kernel_rfl) (by kernel_rfl) (by kernel_rfl) (by kernel_rfl) (fun _ _ _ h => h) (Or.inl ⟨by rfl, ?_⟩) ⟨R_136, C_134, QA_137.here, (h.below hB_133)⟩ ?_
            rotate_left
            · intro w hSw; obtain ⟨s1, s2, s3, s4⟩ := hSw; have e1 := c1_of s1; have e2 := c1_of s2; obtain ⟨x0, x1, x2, x3, x4, x5, x6⟩ := (s3.at hq1).1; obtain ⟨v0, v1, v2, v3, v4, v5, v6⟩ := (s4.at hq2).1; simp only [Nat.zero_add] at x0 x1 x2 x3 x4 x5 x6; clear s1 s2 s3 s4; go_simp; with_reducible rfl
            try simp only [Act.put, List.getElem_toArray, List.getElem_cons_succ, List.getElem_cons_zero, List.setIfInBounds_toArray, List.set_cons_zero, List.set_cons_succ]
            refine wpAnyE.take (i := 21) (v := ?_) rfl (by kernel_rfl) (by kernel_rfl) (by kernel_rfl) (by kernel_rfl) (fun _ _ _ h => h) (Or.inl ⟨by rfl, ?_⟩) ⟨R_136, C_134, QA_137.here, (h.below hB_133)⟩ ?_
            rotate_left
            · intro w hSw; obtain ⟨s1, s2, s3, s4⟩ := hSw; have e1 := c1_of s1; have e2 := c1_of s2; obtain ⟨x0, x1, x2, x3, x4, x5, x6⟩ := (s3.at hq1).1; obtain ⟨v0, v1, v2, v3, v4, v5, v6⟩ := (s4.at hq2).1; simp only [Nat.zero_add] at x0 x1 x2 x3 x4 x5 x6; clear s1 s2 s3 s4; go_simp; with_reducible rfl
            try simp only [Act.put, List.getElem_toArray, List.getElem_cons_succ, List.getElem_cons_zero, List.setIfInBounds_toArray, List.set_cons_zero, List.set_cons_succ]
            refine wpAnyE.take (i := 24) (v := ?_) rfl (by kernel_rfl) (by kernel_rfl) (by kernel_rfl) (by kernel_rfl) (fun _ _ _ h => h) (Or.inl ⟨by rfl, ?_⟩) ⟨R_136, C_134, QA_137.here, (h.below hB_133)⟩ ?_
            rotate_left
            · intro w hSw; obtain ⟨s1, s2, s3, s4⟩ := hSw; have e1 := c1_of s1; have e2 := c1_of s2; obtain ⟨x0, x1, x2, x3, x4, x5, x6⟩ := (s3.at hq1).1; obtain ⟨v0, v1, v2, v3, v4, v5, v6⟩ := (s4.at hq2).1; simp only [Nat.zero_add] at x0 x1 x2 x3 x4 x5 x6; clear s1 s2 s3 s4; go_simp; with_reducible rfl
            try simp only [Act.put, List.getElem_toArray, List.getElem_cons_succ, List.getElem_cons_zero, List.setIfInBounds_toArray, List.set_cons_zero, List.set_cons_succ]
            refine wpAnyE.take (i := 26) (v := ?_) rfl (by kernel_rfl) (by kernel_rfl) (by kernel_rfl) (by kernel_rfl) (fun _ _ _ h => h) (Or.inl ⟨by rfl, ?_⟩) ⟨R_136, C_134, QA_137.here, (h.below hB_133)⟩ ?_
            rotate_left
            · intro w hSw; obtain ⟨s1, s2, s3, s4⟩ := hSw; have e1 := c1_of s1; have e2 := c1_of s2; obtain ⟨x0, x1, x2, x3, x4, x5, x6⟩ := (s3.at hq1).1; obtain ⟨v0, v1, v2, v3, v4, v5, v6⟩ := (s4.at hq2).1; simp only [Nat.zero_add] at x0 x1 x2 x3 x4 x5 x6; clear s1 s2 s3 s4; go_simp; with_reducible rfl
            try simp only [Act.put, List.getElem_toArray, List.getElem_cons_succ, List.getElem_cons_zero, List.setIfInBounds_toArray, List.set_cons_zero, List.set_cons_succ]
            refine wpAnyE.take (i := 20) (v := ?_) rfl (by kernel_rfl) (by kernel_rfl) (by kernel_rfl) (by kernel_rfl) (fun _ _ _ h => h) (Or.inl ⟨by rfl, ?_⟩) ⟨R_136, C_134, QA_137.here, (h.below hB_133)⟩ ?_
            rotate_left
            · intro w hSw; obtain ⟨s1, s2, s3, s4⟩ := hSw; have e1 := c1_of s1; have e2 := c1_of s2; obtain ⟨x0, x1, x2, x3, x4, x5, x6⟩ := (s3.at hq1).1; obtain ⟨v0, v1, v2, v3, v4, v5, v6⟩ := (s4.at hq2).1; simp only [Nat.zero_add] at x0 x1 x2 x3 x4 x5 x6; clear s1 s2 s3 s4; go_simp; with_reducible rfl
            try simp only [Act.put, List.getElem_toArray, List.getElem_cons_succ, List.getElem_cons_zero, List.setIfInBounds_toArray, List.set_cons_zero, List.set_cons_succ]
            refine wpAnyE.take (i := 25) (v := ?_) rfl (by kernel_rfl) (by kernel_rfl) (by kernel_rfl) (by kernel_rfl) (fun _ _ _ h => h) (Or.inl ⟨by rfl, ?_⟩) ⟨R_136, C_134, QA_137.here, (h.below hB_133)⟩ ?_
            rotate_left
            · intro w hSw; obtain ⟨s1, s2, s3, s4⟩ := hSw; have e1 := c1_of s1; have e2 := c1_of s2; obtain ⟨x0, x1, x2, x3, x4, x5, x6⟩ := (s3.at hq1).1; obtain ⟨v0, v1, v2, v3, v4, v5, v6⟩ := (s4.at hq2).1; simp only [Nat.zero_add] at x0 x1 x2 x3 x4 x5 x6; clear s1 s2 s3 s4; go_simp; with_reducible rfl
            try simp only [Act.put, List.getElem_toArray, List.getElem_cons_succ, List.getElem_cons_zero, List.setIfInBounds_toArray, List.set_cons_zero, List.set_cons_succ]
            refine wpAnyE.take (i := 22) (v := ?_) rfl (by kernel_rfl) (by kernel_rfl) (by kernel_rfl) (by kernel_rfl) (fun _ _ _ h => h) (Or.inl ⟨by rfl, ?_⟩) ⟨R_136, C_134, QA_137.here, (h.below hB_133)⟩ ?_
            rotate_left
            · intro w hSw; obtain ⟨s1, s2, s3, s4⟩ := hSw; have e1 := c1_of s1; have e2 := c1_of s2; obtain ⟨x0, x1, x2, x3, x4, x5, x6⟩ := (s3.at hq1).1; obtain ⟨v0, v1, v2, v3, v4, v5, v6⟩ := (s4.at hq2).1; simp only [Nat.zero_add] at x0 x1 x2 x3 x4 x5 x6; clear s1 s2 s3 s4; go_simp; with_reducible rfl
            try simp only [Act.put, List.getElem_toArray, List.getElem_cons_succ, List.getElem_cons_zero, List.setIfInBounds_toArray, List.set_cons_zero, List.set_cons_succ]
            refine wpAnyE.take (i := 27) (v := ?_) rfl (by kernel_rfl) (by kernel_rfl) (by kernel_rfl) (by kernel_rfl) (fun _ _ _ h => h) (Or.inl ⟨by rfl, ?_⟩) ⟨R_136, C_134, QA_137.here, (h.below hB_133)⟩ ?_
            rotate_left
            · intro w hSw; obtain ⟨s1, s2, s3, s4⟩ := hSw; have e1 := c1_of s1; have e2 := c1_of s2; obtain ⟨x0, x1, x2, x3, x4, x5, x6⟩ := (s3.at hq1).1; obtain ⟨v0, v1, v2, v3, v4, v5, v6⟩ := (s4.at hq2).1; simp only [Nat.zero_add] at x0 x1 x2 x3 x4 x5 x6; clear s1 s2 s3 s4; go_simp; with_reducible rfl
            try simp only [Act.put, List.getElem_toArray, List.getElem_cons_succ, List.getElem_cons_zero, List.setIfInBounds_toArray, List.set_cons_zero, List.set_cons_succ]
            refine wpAnyE.take (i := 23) (v := ?_) rfl (by kernel_rfl) (by kernel_rfl) (by kernel_rfl) (by kernel_rfl) (fun _ _ _ h => h) (Or.inl ⟨by rfl, ?_⟩) ⟨R_136, C_134, QA_137.here, (h.below hB_133)⟩ ?_
            rotate_left
            · intro w hSw; obtain ⟨s1, s2, s3, s4⟩ := hSw; have e1 := c1_of s1; have e2 := c1_of s2; obtain ⟨x0, x1, x2, x3, x4, x5, x6⟩ := (s3.at hq1).1; obtain ⟨v0, v1, v2, v3, v4, v5, v6⟩ := (s4.at hq2).1; simp only [Nat.zero_add] at x0 x1 x2 x3 x4 x5 x6; clear s1 s2 s3 s4; go_simp; with_reducible rfl
            try simp only [Act.put, List.getElem_toArray, List.getElem_cons_succ, List.getElem_cons_zero, List.setIfInBounds_toArray, List.set_cons_zero, List.set_cons_succ]
            refine wpAnyE.take (i := 28) (v := ?_) rfl (by kernel_rfl) (by kernel_rfl) (by kernel_rfl) (by kernel_rfl) (fun _ _ _ h => h) (Or.inl ⟨by rfl, ?_⟩) ⟨R_136, C_134, QA_137.here, (h.below hB_133)⟩ ?_
            rotate_left
            · intro w hSw; obtain ⟨s1, s2, s3, s4⟩ := hSw; have e1 := c1_of s1; have e2 := c1_of s2; obtain ⟨x0, x1, x2, x3, x4, x5, x6⟩ := (s3.at hq1).1; obtain ⟨v0, v1, v2, v3, v4, v5, v6⟩ := (s4.at hq2).1; simp only [Nat.zero_add] at x0 x1 x2 x3 x4 x5 x6; clear s1 s2 s3 s4; go_simp; with_reducible rfl
            try simp only [Act.put, List.getElem_toArray, List.getElem_cons_succ, List.getElem_cons_zero, List.setIfInBounds_toArray, List.set_cons_zero, List.set_cons_succ]
            refine wpAnyE.one (i := 29) (by kernel_rfl) rfl (fun K hK => ?_)
            have hc_140 := sameRq_any qa[k] l[k] W_132 (QA_137.here.at hq1).2 ((h.below hB_133).at hq2).2
            go_simp
            refine hc_140.mono ?_
            clear hc_140
            rintro e W_141 ⟨r, rfl, hr, h⟩
            have hB_142 := hB_133.trans (h.mono hB_133.size)
            have C_143 := (h.block _ (heap_lt C_134)).trans C_134
            have P_144 := (h.block _ (heap_lt P_135)).trans P_135
            have R_145 := (h.block _ (heap_lt R_136)).trans R_136
            have QA_146 := QA_137.below h
            have hb_147 := hb_138.trans (h.mono hb_138.size)
            have hs_148 := h.size
            clear C_134 P_135 R_136 QA_137 hb_138 h hB_133
            obtain rfl : r = true := hr.2 ((HX.out k hq1).trans ((HO.out (.inr (.inr HW.out))).trans (HY.out k hq2).symm))
            clear hr
            refine hK _ _ (fun _ => ⟨R_145, C_143, QA_146.here, (h.below hB_142)⟩) ?_
            clear hK K
            try simp only [Act.put, List.getElem_toArray, List.getElem_cons_succ, List.getElem_cons_zero, List.setIfInBounds_toArray, List.set_cons_zero, List.set_cons_succ]
            refine wpAnyE.take (i := 30) (v := ?_) rfl (by kernel_rfl) (by kernel_rfl) (by kernel_rfl) (by kernel_rfl) (fun _ _ _ h => h) (Or.inl ⟨by rfl, ?_⟩) ⟨R_145, C_143, QA_146.here, (h.below hB_142)⟩ ?_
            rotate_left
            · intro w hSw; obtain ⟨s1, s2, s3, s4⟩ := hSw; have e1 := c1_of s1; have e2 := c1_of s2; obtain ⟨x0, x1, x2, x3, x4, x5, x6⟩ := (s3.at hq1).1; obtain ⟨v0, v1, v2, v3, v4, v5, v6⟩ := (s4.at hq2).1; simp only [Nat.zero_add] at x0 x1 x2 x3 x4 x5 x6; clear s1 s2 s3 s4; go_simp; with_reducible rfl
            try simp only [Act.put, List.getElem_toArray, List.getElem_cons_succ, List.getElem_cons_zero, List.setIfInBounds_toArray, List.set_cons_zero, List.set_cons_succ]
            refine wpAnyE.take (i := 31) (v := ?_) rfl (by kernel_rfl) (by kernel_rfl) (by kernel_rfl) (by kernel_rfl) (fun _ _ _ h => h) (Or.inl ⟨by rfl, ?_⟩) ⟨R_145, C_143, QA_146.here, (h.below hB_142)⟩ ?_
            rotate_left
            · intro w hSw; obtain ⟨s1, s2, s3, s4⟩ := hSw; have e1 := c1_of s1; have e2 := c1_of s2; obtain ⟨x0, x1, x2, x3, x4, x5, x6⟩ := (s3.at hq1).1; obtain ⟨v0, v1, v2, v3, v4, v5, v6⟩ := (s4.at hq2).1; simp only [Nat.zero_add] at x0 x1 x2 x3 x4 x5 x6; clear s1 s2 s3 s4; go_simp; with_reducible rfl
            try simp only [Act.put, List.getElem_toArray, List.getElem_cons_succ, List.getElem_cons_zero, List.setIfInBounds_toArray, List.set_cons_zero, List.set_cons_succ]
            refine wpAnyE.done (by kernel_rfl) ?_
            have HB := hb_147
            go_wp2
            go_roundw
            case rel => exact ⟨k + 1, by go_num, by omega, HB⟩
            case measure => simp [intOf]; omega
    · skip
      have Cc0 := c1_of C_18
      have hkn : ¬ (k : Int) < 3 := by omega
      go_wp2_with fail
      go_loopw [13, 14] (fun z i wx => ∃ j : Nat, i = .int .i64 j ∧ z = .int .i64 (othTo up late j) ∧ j ≤ 3 ∧ Below wr.heap.size wr wx) (fun _ i _ => 3 - (intOf i).toNat)
      case atStart => exact ⟨0, rfl, rfl, Nat.zero_le _, Below.refl _ _⟩
      case round =>
        clear Cc0
        skip
        obtain ⟨j, rfl, rfl, hj, hbj⟩ := hrel
        have hB_149 := hB_17.trans (hbj.mono hB_17.size)
        have C_150 := (hbj.block _ (heap_lt C_18)).trans C_18
        have P_151 := (hbj.block _ (heap_lt P_19)).trans P_19
        have R_152 := (hbj.block _ (heap_lt R_20)).trans R_20
        have QA_153 := QA_21.below hbj
        have hs_154 := hbj.size
        clear C_18 P_19 R_20 QA_21 hB_17
        obtain ⟨ho0, ho1, HOB⟩ := oth_ok ⟨hu0, hu1⟩ ⟨hl0, hl1⟩ hj
        have HOB : Hid _ := HOB
        by_cases hjl : j < 3
        · skip
          have hjl' : (j : Int) < 3 := by omega
          have hiu := fun W => isSet_any up j W hu0 hu1 hjl
          have hio := fun W => isSet_any (othTo up late j) j W ho0 ho1 hjl
          have hst : othTo up late (j + 1) = if (!bitB up j && !bitB (othTo up late j) j) = true then othTo up late j + (2 ^ j : Nat) else othTo up late j := rfl
          have HST : Hid _ := hst
          clear hst
          have ho3 := (oth_ok ⟨hu0, hu1⟩ ⟨hl0, hl1⟩ (show j + 1 ≤ 3 by omega)).2.1
          have hA := below_alloc wr (.cells #[.int .i64 1, .int .i64 2, .int .i64 4] 3)
          have kA := heap_alloc_new wr (.cells #[.int .i64 1, .int .i64 2, .int .i64 4] 3)
          obtain ⟨yA0, yA1, yA2⟩ := c3_of kA
          have hbit : (wr.alloc (.cells #[.int .i64 1, .int .i64 2, .int .i64 4] 3)).cell? ⟨wr.heap.size, j, none⟩ = some (.int .i64 (2 ^ j : Nat)) := by
            have : j = 0 ∨ j = 1 ∨ j = 2 := by omega
            rcases this with rfl | rfl | rfl
            · exact yA0
            · exact yA1
            · exact yA2
          clear yA0 yA1 yA2 kA
          have Cw0 := c1_of C_150
          have hB_155 := hB_149.trans (hA.mono hB_149.size)
          have C_156 := (hA.block _ (heap_lt C_150)).trans C_150
          have P_157 := (hA.block _ (heap_lt P_151)).trans P_151
          have R_158 := (hA.block _ (heap_lt R_152)).trans R_152
          have QA_159 := QA_153.below hA
          have hb_160 := hbj.trans (hA.mono hbj.size)
          have hs_161 := hA.size
          clear C_150 P_151 R_152 QA_153 hbj hA hB_149
          generalize ((2 ^ j : Nat) : Int) = bt at *
          have hc_162 := hiu (wr.alloc (.cells #[.int .i64 1, .int .i64 2, .int .i64 4] 3))
          go_wp2_with fail
          generalize wr.alloc (.cells #[.int .i64 1, .int .i64 2, .int .i64 4] 3) = W4 at *
          refine hc_162.mono ?_
          clear hc_162
          rintro e W5 ⟨rfl, h5⟩
          have hB_163 := hB_155.trans (h5.mono hB_155.size)
          have C_164 := (h5.block _ (heap_lt C_156)).trans C_156
          have P_165 := (h5.block _ (heap_lt P_157)).trans P_157
          have R_166 := (h5.block _ (heap_lt R_158)).trans R_158
          have QA_167 := QA_159.below h5
          have hb_168 := hb_160.trans (h5.mono hb_160.size)
          have hs_169 := h5.size
          clear C_156 P_157 R_158 QA_159 hb_160 h5 hB_155
          clear Cw0
          cases hbu : bitB up j with
          | true =>
            have HV : Hid (othTo up late (j + 1) = othTo up late j) := by unfold Hid; rw [HST.out, hbu]; rfl
            clear hbu ho3
            have Cc0 := c1_of C_164
            go_wp2
            go_roundw
            case rel => exact ⟨j + 1, by go_num, by rw [HV.out], by omega, hb_168⟩
            case measure => simp [intOf]; omega
          | false =>
            have hc_170 := hio W5
            go_wp2_with fail
            refine hc_170.mono ?_
            clear hc_170
            rintro e W6 ⟨rfl, h6⟩
            have hB_171 := hB_163.trans (h6.mono hB_163.size)
            have C_172 := (h6.block _ (heap_lt C_164)).trans C_164
            have P_173 := (h6.block _ (heap_lt P_165)).trans P_165
            have R_174 := (h6.block _ (heap_lt R_166)).trans R_166
            have QA_175 := QA_167.below h6
            have hb_176 := hb_168.trans (h6.mono hb_168.size)
            have hs_177 := h6.size
            clear C_164 P_165 R_166 QA_167 hb_168 h6 hB_163
            cases hbo : bitB (othTo up late j) j with
            | true =>
              have HV : Hid (othTo up late (j + 1) = othTo up late j) := by unfold Hid; rw [HST.out, hbu, hbo]; rfl
              clear hbu hbo ho3
              have Cc0 := c1_of C_172
              go_wp2
              go_roundw
              case rel => exact ⟨j + 1, by go_num, by rw [HV.out], by omega, hb_176⟩
              case measure => simp [intOf]; omega
            | false =>
              have HV : Hid (othTo up late (j + 1) = othTo up late j + bt) := by unfold Hid; rw [HST.out, hbu, hbo]; rfl
              rw [HV.out] at ho3
              have hw1 : IntKind.i64.wrap (othTo up late j + bt) = othTo up late j + bt := by have := (oth_ok ⟨hu0, hu1⟩ ⟨hl0, hl1⟩ (show j + 1 ≤ 3 by omega)).1; rw [HV.out] at this; simp [IntKind.wrap, IntKind.bits, IntKind.signed]; omega
              clear hbu hbo ho3
              have Cc0 := c1_of C_172
              go_wp2
              go_roundw
              case rel => exact ⟨j + 1, by go_num, by rw [HV.out], by omega, hb_176⟩
              case measure => simp [intOf]; omega
        · skip
          have hj3 : j = 3 := by omega
          subst hj3
          obtain ⟨hp2, hd2, he2⟩ := push_bits (m := m) (us := us) (f := f) HOB.out ⟨ho0, ho1⟩ HPZ.out
          have HD2 : Hid _ := hd2
          have HE2 : Hid _ := he2
          have HP2 : Hid _ := hp2
          clear hd2 he2 hp2
          have Cc0 := c1_of C_150
          obtain ⟨Pc0, Pc1, Pc2⟩ := c3_of P_151
          have hc_178 := push_any (some ⟨al, ol, none⟩) c l am cm m au cu us f up (othTo up late 3) wr (hg.below hB_149) (ht.below hB_149) (h.below hB_149) (by omega) hcm (hm.below hB_149) hml (hu.below hB_149) hul
          rw [hl3] at hc_178
          go_wp2_with fail
          refine hc_178.mono ?_
          clear hc_178
          rintro e W9 ⟨hb9, hpost⟩
          have hB_179 := hB_149.trans (hb9.mono hB_149.size)
          have C_180 := (hb9.block _ (heap_lt C_150)).trans C_150
          have P_181 := (hb9.block _ (heap_lt P_151)).trans P_151
          have R_182 := (hb9.block _ (heap_lt R_152)).trans R_152
          have QA_183 := QA_153.below hb9
          have hb_184 := hbj.trans (hb9.mono hbj.size)
          have hs_185 := hb9.size
          clear C_150 P_151 R_152 QA_153 hbj hb9 hB_149 Cc0 Pc0 Pc1 Pc2
          rcases hpost with ⟨hne, -⟩ | ⟨-, BB, capB, qb, rfl, hMB, hDB, hcc, hcd⟩
          · exact absurd HP2.out hne
          rw [HD2.out, HDN.out]
          have hqb : qb.length = 3 := rOf_len hMB rfl
          have HMB : Hid (qb.map Rq.r = eL (l.map Rq.r) m us f up late) := hMB.trans HE2.out
          clear hMB
          have hA_186 := below_alloc W9 (.cells #[.slice (some ⟨BB, 0, none⟩) 3 capB] 24)
          have R2_187 := heap_alloc_new W9 (.cells #[.slice (some ⟨BB, 0, none⟩) 3 capB] 24)
          obtain ⟨p_188, p_188e⟩ : ∃ p, p = W9.heap.size := ⟨_, rfl⟩
          rw [← p_188e] at R2_187
          have hB_189 := hB_179.trans (hA_186.mono hB_179.size)
          have C_190 := (hA_186.block _ (heap_lt C_180)).trans C_180
          have P_191 := (hA_186.block _ (heap_lt P_181)).trans P_181
          have R_192 := (hA_186.block _ (heap_lt R_182)).trans R_182
          have QA_193 := QA_183.below hA_186
          have QB_194 := hDB.below hA_186
          have hb_195 := hb_184.trans (hA_186.mono hb_184.size)
          have hs_196 := hA_186.size
          clear C_180 P_181 R_182 QA_183 hDB hb_184 hA_186 hB_179
          have Rc0 := c1_of R_192
          have R2c0 := c1_of R2_187
          have hdd : (dn == dn) = true := by simp
          have hc_198 := sameCluster_any (some ⟨B, 0, none⟩) cap qa (some ⟨BB, 0, none⟩) capB qb _ QA_193.here QB_194.here (by omega)
          rw [hqa, hqb] at hc_198
          go_wp2_with fail
          rw [← p_188e]
          clear p_188e
          generalize W9.alloc (.cells #[.slice (some ⟨BB, 0, none⟩) 3 capB] 24) = W10 at *
          have hl_197 := heap_lt R2_187
          refine hc_198.mono ?_
          clear hc_198
          rintro e W11 ⟨r, rfl, hr, h11⟩
          have hB_199 := hB_189.trans (h11.mono hB_189.size)
          have C_200 := (h11.block _ (heap_lt C_190)).trans C_190
          have P_201 := (h11.block _ (heap_lt P_191)).trans P_191
          have R_202 := (h11.block _ (heap_lt R_192)).trans R_192
          have R2_203 := (h11.block _ (heap_lt R2_187)).trans R2_187
          have QA_204 := QA_193.below h11
          have QB_205 := QB_194.below h11
          have hb_206 := hb_195.trans (h11.mono hb_195.size)
          have hs_207 := h11.size
          clear C_190 P_191 R_192 R2_187 QA_193 QB_194 hb_195 h11 hB_189 Rc0 R2c0
          obtain rfl : r = true := hr.2 (HMA.out.trans HMB.out.symm)
          clear hr
          go_wp2
          go_ret
          exact ⟨rfl, hB_199⟩
end Go.Proofs.YtehmlpkapjdhkaaGreatDoor
