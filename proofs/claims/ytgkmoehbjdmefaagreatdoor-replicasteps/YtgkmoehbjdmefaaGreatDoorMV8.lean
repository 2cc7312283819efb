import Derived.Test.YtgkmoehbjdmefaaGreatDoorMK3
namespace Go.Proofs.YtgkmoehbjdmefaaGreatDoor
open Go.RowKit
set_option maxRecDepth 100000

theorem rep_next {s : List Ob} {l : List Rf} {g : Int} {m : List Ob} {us : List Up} {f : Bool} (h : refsE l s = 0) (hg : 0 ≤ g ∧ g ≤ 999) (hp : pushE m us = 0) (n : Int) (h1 : 0 < n) (h2 : n ≤ 2) : repE s l g n m us f = 0 := repE_iff.2 ⟨h, hg, ⟨by omega, h2⟩, fun _ => hp, fun e => by omega⟩
theorem rep_idle {s : List Ob} {l : List Rf} {g : Int} (h : refsE l s = 0) (hg : 0 ≤ g ∧ g ≤ 999) : repE s l g 0 [] [] false = 0 := repE_iff.2 ⟨h, hg, by omega, fun e => absurd rfl e, fun _ => rfl⟩
theorem without_nil {m : List Ob} {us : List Up} {f : Bool} (h : withoutB m us f = true) : m = [] ∧ us = [] ∧ f = false := by
  simp only [withoutB, Bool.and_eq_true, decide_eq_true_eq] at h
  exact ⟨List.eq_nil_of_length_eq_zero h.1.1, List.eq_nil_of_length_eq_zero h.1.2, by simpa using h.2⟩
theorem vote_some {s : List Ob} {l : List Rf} {g : Int} {m : List Ob} {us : List Up} {f : Bool} (hv : voteE g m us = 0) : 3 ≤ (voteS s l g m us f).size := by
  unfold voteS voteT
  rw [if_neg (fun e => e hv)]
  split
  · rw [size_app]; show 3 ≤ 3 + _; omega
  · rw [size_app, size_app, size_app]; show 3 ≤ 4 + _ + _ + _; omega
theorem itoa_digit : ∀ n : Nat, n ≤ 7 → (itoaS (n : Int)).size = 1 := by decide +kernel
theorem vote_no {s : List Ob} {l : List Rf} {g : Int} {m : List Ob} {us : List Up} {f : Bool} (hv : voteE g m us = 0) (h : tryE s l m us f ≠ 0) : (voteS s l g m us f).size = 4 := by
  unfold voteS voteT
  rw [if_neg (fun e => e hv), if_pos h, size_app]
  have hr := r7_try s l m us f
  have := itoa_digit (tryE s l m us f).toNat (by have := hr.1; have := hr.2; omega)
  rw [Int.toNat_of_nonneg hr.1] at this
  rw [this]
  rfl
theorem vote_yes {s : List Ob} {l : List Rf} {g : Int} {m : List Ob} {us : List Up} {f : Bool} (hv : voteE g m us = 0) (h : tryE s l m us f = 0) : voteS s l g m us f = sYesB ++ (itoaS g ++ sBl ++ textS us) := by
  unfold voteS voteT
  rw [if_neg (fun e => e hv), if_neg (fun e => e h)]
  apply ByteArray.ext
  simp [ByteArray.data_append]
theorem yes_size (x : ByteArray) (g : Int) (t : ByteArray) (h : x = sYesB ++ (itoaS g ++ sBl ++ t)) : 5 ≤ x.size := by
  rw [h, size_app, size_app, size_app]
  have : sYesB.size = 4 := rfl
  have : sBl.size = 1 := rfl
  omega
theorem yes_pre (x y : ByteArray) (h : x = sYesB ++ y) : ((x.extract 0 4).toList == [121, 101, 115, 32]) = true := by
  rw [show ([121, 101, 115, 32] : List UInt8) = sYesB.toList by decide +kernel]
  refine name_eq.2 ?_
  rw [h]
  apply ByteArray.ext
  rw [ByteArray.data_extract, ByteArray.data_append, Array.extract_append]
  simp
theorem no_pre {s : List Ob} {l : List Rf} {g : Int} {m : List Ob} {us : List Up} {f : Bool} (hv : voteE g m us = 0) (h : tryE s l m us f ≠ 0) : (((voteS s l g m us f).extract 0 3).toList == [110, 111, 32]) = true := by
  rw [show ([110, 111, 32] : List UInt8) = sNoB.toList by decide +kernel]
  refine name_eq.2 ?_
  unfold voteS voteT
  rw [if_neg (fun e => e hv), if_pos h]
  apply ByteArray.ext
  rw [ByteArray.data_extract, ByteArray.data_append, Array.extract_append]
  simp

set_option maxHeartbeats 16000000 in
theorem replicaSteps_any (aS : Option Addr) (cs : Nat) (s : List Ob) (al : Option Addr) (cl : Nat) (l : List Rf) (g ph : Int) (a1 : Option Addr) (c1 : Nat) (m0 : List Ob) (a2 : Option Addr) (c2 : Nat) (us0 : List Up) (f0 : Bool) (am : Option Addr) (cm : Nat) (m : List Ob) (au : Option Addr) (cu : Nat) (us : List Up) (f : Bool) (w : World) (hg : Glob w) (ht : Tab w) (H : RepH w aS s al l a1 m0 a2 us0) (hm : HoldsS w am m) (hml : m.length ≤ 9223372036854775807) (hu : HoldsU w au us) (hul : us.length ≤ 9223372036854775807) :
    Calls Tryz.prog 8 #[RV aS cs s al cl l g ph a1 c1 m0 a2 c2 us0 f0, pushV am m.length cm au us.length cu f] w fun e w' => e = .returned (.bool true) ∧ Below w.heap.size w w' := by
  have hB := below_alloc2 w (RB aS cs s al cl l g ph a1 c1 m0 a2 c2 us0 f0) (.cells #[.slice am m.length cm, .slice au us.length cu, .bool f] 26)
  obtain ⟨kr, kp⟩ := two_blocks w (RB aS cs s al cl l g ph a1 c1 m0 a2 c2 us0 f0) (.cells #[.slice am m.length cm, .slice au us.length cu, .bool f] 26)
  obtain ⟨y0, y1, y2, y3, y4, y5, y6⟩ := c7_of kr
  obtain ⟨z0, z1, z2⟩ := c3_of kp
  have hpr := prepare_any aS cs s al cl l g ph a1 c1 m0 a2 c2 us0 f0 am cm m au cu us f _ (hg.below hB) (H.below hB) (hm.below hB) hml (hu.below hB) hul
  go_enter Tryz.func8, Tryz.ntmps8
  go_wp2_with fail
  generalize (w.alloc (RB aS cs s al cl l g ph a1 c1 m0 a2 c2 us0 f0)).alloc (.cells #[.slice am m.length cm, .slice au us.length cu, .bool f] 26) = W0 at *
  refine hpr.mono ?_
  clear hpr
  rintro e W1 ⟨hb1, hpost⟩
  have hB1 := hB.trans (hb1.mono hB.size)
  have kr1 := (hb1.block _ (heap_lt kr)).trans kr
  have kp1 := (hb1.block _ (heap_lt kp)).trans kp
  clear hb1 hB kr kp y0 y1 y2 y3 y4 y5 y6 z0 z1 z2
  rcases hpost with ⟨hne, rfl⟩ | ⟨hz, b0, d0, b1, d1, b2, d2, b3, d3, rfl, RA⟩
  · have hA := below_alloc W1 zero28
    have ka := heap_alloc_new W1 zero28
    have q1 : (prepE s l g ph m0 us0 f0 m us != 0) = true := by simpa using hne
    clear hne kr1 kp1
    go_wp2_with fail
    have hB2 := hB1.trans (hA.mono hB1.size)
    clear hA hB1
    obtain ⟨A, hAe⟩ : ∃ A, A = W1.heap.size := ⟨_, rfl⟩
    rw [← hAe] at ka ⊢
    clear hAe
    generalize W1.alloc zero28 = W2 at *
    refine (replicaBegun_any W2 (hg.below hB2) (ht.below hB2)).mono ?_
    rintro e W3 ⟨rfl, hb3⟩
    have hB3 := hB2.trans (hb3.mono hB2.size)
    have ka3 := (hb3.block _ (heap_lt ka)).trans ka
    clear hb3 hB2 ka
    go_wp2_with fail
    refine (pushBegun_any W3 (hg.below hB3)).mono ?_
    rintro e W4 ⟨rfl, hb4⟩
    have hB4 := hB3.trans (hb4.mono hB3.size)
    have ka4 := (hb4.block _ (heap_lt ka3)).trans ka3
    clear hb4 hB3 ka3
    obtain ⟨y0, y1, y2, y3, y4, y5, y6⟩ := c7_of ka4
    go_wp2
    go_ret
    exact ⟨rfl, hB4⟩
  have HD : Hid (repE s l g ph m0 us0 f0 = 0 ∧ ph = 0) := duE_iff.1 (prep_pos hz).1
  have HP : Hid (pushE m us = 0) := (prep_pos hz).2
  have HRf : Hid (refsE l s = 0 ∧ (0 ≤ g ∧ g ≤ 999)) := ⟨(repE_iff.1 HD.out.1).1, (repE_iff.1 HD.out.1).2.1⟩
  have HV : Hid (voteE g m us = 0) := voteE_iff.2 ⟨HP.out, HRf.out.2⟩

  clear hz
  have hA := below_alloc W1 (.cells #[.slice b0 s.length d0, .slice b1 l.length d1, .int .i64 g, .int .i64 1, .slice b2 m.length d2, .slice b3 us.length d3, .bool f] 28)
  have ka := heap_alloc_new W1 (.cells #[.slice b0 s.length d0, .slice b1 l.length d1, .int .i64 g, .int .i64 1, .slice b2 m.length d2, .slice b3 us.length d3, .bool f] 28)
  obtain ⟨Xa, hXe⟩ : ∃ X, X = W1.heap.size := ⟨_, rfl⟩
  rw [← hXe] at ka
  have hB2 := hB1.trans (hA.mono hB1.size)
  have kr_1 := (hA.block _ (heap_lt kr1)).trans kr1
  have kp_1 := (hA.block _ (heap_lt kp1)).trans kp1
  have RA_1 := RA.below hA
  clear kr1 kp1 RA hA hB1
  go_wp2_with fail
  rw [← hXe]
  clear hXe
  generalize W1.alloc (.cells #[.slice b0 s.length d0, .slice b1 l.length d1, .int .i64 g, .int .i64 1, .slice b2 m.length d2, .slice b3 us.length d3, .bool f] 28) = W2 at *
  refine (replicaBegun_any W2 (hg.below hB2) (ht.below hB2)).mono ?_
  rintro e W3 ⟨rfl, hb3⟩
  have hB3 := hB2.trans (hb3.mono hB2.size)
  have kr_2 := (hb3.block _ (heap_lt kr_1)).trans kr_1
  have kp_2 := (hb3.block _ (heap_lt kp_1)).trans kp_1
  have ka_2 := (hb3.block _ (heap_lt ka)).trans ka
  have RA_2 := RA_1.below hb3
  clear kr_1 kp_1 ka RA_1 hb3 hB2
  go_wp2_with fail
  refine (pushBegun_any W3 (hg.below hB3)).mono ?_
  rintro e W4 ⟨rfl, hb4⟩
  have hB4 := hB3.trans (hb4.mono hB3.size)
  have kr_3 := (hb4.block _ (heap_lt kr_2)).trans kr_2
  have kp_3 := (hb4.block _ (heap_lt kp_2)).trans kp_2
  have ka_3 := (hb4.block _ (heap_lt ka_2)).trans ka_2
  have RA_3 := RA_2.below hb4
  clear kr_2 kp_2 ka_2 RA_2 hb4 hB3
  obtain ⟨kac0, kac1, kac2, kac3, kac4, kac5, kac6⟩ := c7_of ka_3
  have hvo := vote_any b0 d0 s b1 d1 l g 1 b2 d2 m b3 d3 us f W4 (hg.below hB4) (ht.below hB4) RA_3
  rw [duE_iff.2 ⟨rep_next HRf.out.1 HRf.out.2 HP.out 1 (by decide) (by decide), rfl⟩] at hvo
  obtain ⟨T, hT⟩ : ∃ T, T = voteS s l g m us f := ⟨_, rfl⟩
  have HT : Hid (T = voteS s l g m us f) := hT
  rw [← hT] at hvo
  clear hT
  go_wp2_with fail
  refine hvo.mono ?_
  clear hvo
  rintro e W5 ⟨hb5, ⟨hno, -⟩ | ⟨-, e0, ed0, e1, ed1, e2, ed2, e3, ed3, rfl, RB⟩⟩
  case inl => exact absurd rfl hno
  have hB5 := hB4.trans (hb5.mono hB4.size)
  have kr_4 := (hb5.block _ (heap_lt kr_3)).trans kr_3
  have kp_4 := (hb5.block _ (heap_lt kp_3)).trans kp_3
  have ka_4 := (hb5.block _ (heap_lt ka_3)).trans ka_3
  have RA_4 := RA_3.below hb5
  clear kr_3 kp_3 ka_3 RA_3 hb5 hB4 kac0 kac1 kac2 kac3 kac4 kac5 kac6
  have hA := below_alloc W5 (.cells #[.slice e0 s.length ed0, .slice e1 l.length ed1, .int .i64 g, .int .i64 2, .slice e2 m.length ed2, .slice e3 us.length ed3, .bool f] 28)
  have kb := heap_alloc_new W5 (.cells #[.slice e0 s.length ed0, .slice e1 l.length ed1, .int .i64 g, .int .i64 2, .slice e2 m.length ed2, .slice e3 us.length ed3, .bool f] 28)
  obtain ⟨Xb, hXe⟩ : ∃ X, X = W5.heap.size := ⟨_, rfl⟩
  rw [← hXe] at kb
  have hB6 := hB5.trans (hA.mono hB5.size)
  have kr_5 := (hA.block _ (heap_lt kr_4)).trans kr_4
  have kp_5 := (hA.block _ (heap_lt kp_4)).trans kp_4
  have ka_5 := (hA.block _ (heap_lt ka_4)).trans ka_4
  have RA_5 := RA_4.below hA
  have RB_5 := RB.below hA
  clear kr_4 kp_4 ka_4 RA_4 RB hA hB5
  obtain ⟨kbc0, kbc1, kbc2, kbc3, kbc4, kbc5, kbc6⟩ := c7_of kb
  have hfi := finish_any e0 ed0 s e1 ed1 l g 2 e2 ed2 m e3 ed3 us f true _ (hg.below hB6) RB_5
  have HF1 : Hid (finE s l g 2 m us f true = if tryE s l m us f ≠ 0 then tryE s l m us f else if g = 999 then 2 else 0) := by unfold Hid finE; rw [if_neg (fun e => e (duE_iff.2 ⟨rep_next HRf.out.1 HRf.out.2 HP.out 2 (by decide) (by decide), rfl⟩)), if_neg (by decide)]
  obtain ⟨FE, hFE⟩ : ∃ FE, FE = finE s l g 2 m us f true := ⟨_, rfl⟩
  rw [← hFE] at hfi HF1
  clear hFE
  go_wp2_with fail
  rw [← hXe]
  clear hXe
  generalize W5.alloc (.cells #[.slice e0 s.length ed0, .slice e1 l.length ed1, .int .i64 g, .int .i64 2, .slice e2 m.length ed2, .slice e3 us.length ed3, .bool f] 28) = W6 at *
  refine hfi.mono ?_
  clear hfi
  rintro e W7 ⟨hb7, hpost⟩
  have hB7 := hB6.trans (hb7.mono hB6.size)
  have kr_6 := (hb7.block _ (heap_lt kr_5)).trans kr_5
  have kp_6 := (hb7.block _ (heap_lt kp_5)).trans kp_5
  have ka_6 := (hb7.block _ (heap_lt ka_5)).trans ka_5
  have kb_6 := (hb7.block _ (heap_lt kb)).trans kb
  have RA_6 := RA_5.below hb7
  have RB_6 := RB_5.below hb7
  clear kr_5 kp_5 ka_5 kb RA_5 RB_5 hb7 hB6 kbc0 kbc1 kbc2 kbc3 kbc4 kbc5 kbc6
  rcases hpost with ⟨hfne, rfl⟩ | ⟨hfz, h0, hd0, h1, hd1, h2, hd2, h3, hd3, rfl, RC⟩
  · skip
    have hA := below_alloc W7 (.cells #[.slice none 0 0, .slice none 0 0, .int .i64 0, .int .i64 0, .slice none 0 0, .slice none 0 0, .bool false] 28)
    have kc := heap_alloc_new W7 (.cells #[.slice none 0 0, .slice none 0 0, .int .i64 0, .int .i64 0, .slice none 0 0, .slice none 0 0, .bool false] 28)
    obtain ⟨Xc, hXe⟩ : ∃ X, X = W7.heap.size := ⟨_, rfl⟩
    rw [← hXe] at kc
    have hB8 := hB7.trans (hA.mono hB7.size)
    have kr_101 := (hA.block _ (heap_lt kr_6)).trans kr_6
    have kp_101 := (hA.block _ (heap_lt kp_6)).trans kp_6
    have ka_101 := (hA.block _ (heap_lt ka_6)).trans ka_6
    have kb_101 := (hA.block _ (heap_lt kb_6)).trans kb_6
    have RA_101 := RA_6.below hA
    have RB_101 := RB_6.below hA
    clear kr_6 kp_6 ka_6 kb_6 RA_6 RB_6 hA hB7
    obtain ⟨krc0, krc1, krc2, krc3, krc4, krc5, krc6⟩ := c7_of kr_101
    obtain ⟨kpc0, kpc1, kpc2⟩ := c3_of kp_101
    have htr := try_any aS cs s al cl l g ph a1 m0.length c1 a2 us0.length c2 f0 am cm m au cu us f _ (hg.below hB8) (H.hs.below hB8) H.ns (H.hl.below hB8) H.nl (hm.below hB8) hml (hu.below hB8) hul
    go_wp2_with fail
    rw [← hXe]
    clear hXe
    generalize W7.alloc (.cells #[.slice none 0 0, .slice none 0 0, .int .i64 0, .int .i64 0, .slice none 0 0, .slice none 0 0, .bool false] 28) = W8 at *
    refine htr.mono ?_
    clear htr
    rintro e W9 ⟨hb9, hpost⟩
    have hB9 := hB8.trans (hb9.mono hB8.size)
    have kr_102 := (hb9.block _ (heap_lt kr_101)).trans kr_101
    have kp_102 := (hb9.block _ (heap_lt kp_101)).trans kp_101
    have ka_102 := (hb9.block _ (heap_lt ka_101)).trans ka_101
    have kb_102 := (hb9.block _ (heap_lt kb_101)).trans kb_101
    have kc_102 := (hb9.block _ (heap_lt kc)).trans kc
    have RA_102 := RA_101.below hb9
    have RB_102 := RB_101.below hb9
    clear kr_101 kp_101 ka_101 kb_101 kc RA_101 RB_101 hb9 hB8 krc0 krc1 krc2 krc3 krc4 krc5 krc6 kpc0 kpc1 kpc2
    obtain ⟨krc0, krc1, krc2, krc3, krc4, krc5, krc6⟩ := c7_of kr_102
    rcases hpost with ⟨hne2, rfl⟩ | ⟨hz2, t0, td0, t1, td1, rfl, -, -, -⟩
    · have HFE : Hid (FE = tryE s l m us f) := by unfold Hid; rw [HF1.out, if_pos hne2]
      have hsz : T.size = 4 := by rw [HT.out]; exact vote_no HV.out hne2
      have hle : (3 : Int) < (T.size : Int) := by omega
      have hle2 : (3 : Int) ≤ (T.size : Int) := by omega
      have hpre : ((T.extract 0 3).toList == [110, 111, 32]) = true := by rw [HT.out]; exact no_pre HV.out hne2
      rw [HFE.out]
      have q2 : (tryE s l m us f != 0) = true := by simpa using hne2
      have q3 : (tryE s l m us f == tryE s l m us f) = true := by simp
      clear hne2 hfne hsz
      go_wp2
      go_ret
      exact ⟨rfl, hB9⟩
    · have hg9 : g = 999 := by
        refine Classical.byContradiction fun c => hfne ?_
        rw [HF1.out, if_neg (fun e => e hz2), if_neg c]
      have HFE : Hid (FE = 2) := by unfold Hid; rw [HF1.out, if_neg (fun e => e hz2), if_pos hg9]
      rw [HFE.out]
      have q4 : (g == 999) = true := by simpa using hg9
      clear hz2 hfne hg9
      go_wp2
      go_ret
      exact ⟨rfl, hB9⟩
  · skip
    have hT0 : tryE s l m us f = 0 ∧ g ≠ 999 := by
      have q := HF1.out
      rw [hfz] at q
      by_cases c1 : tryE s l m us f = 0
      · refine ⟨c1, fun c2 => ?_⟩
        rw [if_neg (fun e => e c1), if_pos c2] at q; cases q
      · rw [if_pos c1] at q; exact absurd q.symm c1
    clear hfz
    skip
    have hA := below_alloc W7 (.cells #[.slice h0 (finS s m true).length hd0, .slice h1 (finL l us true).length hd1, .int .i64 (finG g true), .int .i64 0, .slice h2 0 hd2, .slice h3 0 hd3, .bool false] 28)
    have kc := heap_alloc_new W7 (.cells #[.slice h0 (finS s m true).length hd0, .slice h1 (finL l us true).length hd1, .int .i64 (finG g true), .int .i64 0, .slice h2 0 hd2, .slice h3 0 hd3, .bool false] 28)
    obtain ⟨Xc, hXe⟩ : ∃ X, X = W7.heap.size := ⟨_, rfl⟩
    rw [← hXe] at kc
    have hB8 := hB7.trans (hA.mono hB7.size)
    have kr_201 := (hA.block _ (heap_lt kr_6)).trans kr_6
    have kp_201 := (hA.block _ (heap_lt kp_6)).trans kp_6
    have ka_201 := (hA.block _ (heap_lt ka_6)).trans ka_6
    have kb_201 := (hA.block _ (heap_lt kb_6)).trans kb_6
    have RA_201 := RA_6.below hA
    have RB_201 := RB_6.below hA
    have RC_201 := RC.below hA
    clear kr_6 kp_6 ka_6 kb_6 RA_6 RB_6 RC hA hB7
    obtain ⟨krc0, krc1, krc2, krc3, krc4, krc5, krc6⟩ := c7_of kr_201
    obtain ⟨kpc0, kpc1, kpc2⟩ := c3_of kp_201
    have htr := try_any aS cs s al cl l g ph a1 m0.length c1 a2 us0.length c2 f0 am cm m au cu us f _ (hg.below hB8) (H.hs.below hB8) H.ns (H.hl.below hB8) H.nl (hm.below hB8) hml (hu.below hB8) hul
    go_wp2_with fail
    rw [← hXe]
    clear hXe
    generalize W7.alloc (.cells #[.slice h0 (finS s m true).length hd0, .slice h1 (finL l us true).length hd1, .int .i64 (finG g true), .int .i64 0, .slice h2 0 hd2, .slice h3 0 hd3, .bool false] 28) = W8 at *
    refine htr.mono ?_
    clear htr
    rintro e W9 ⟨hb9, ⟨hno, -⟩ | ⟨-, t0, td0, t1, td1, rfl, hTS, -, hTL⟩⟩
    case inl => exact absurd hT0.1 hno
    have hB9 := hB8.trans (hb9.mono hB8.size)
    have kr_202 := (hb9.block _ (heap_lt kr_201)).trans kr_201
    have kp_202 := (hb9.block _ (heap_lt kp_201)).trans kp_201
    have ka_202 := (hb9.block _ (heap_lt ka_201)).trans ka_201
    have kb_202 := (hb9.block _ (heap_lt kb_201)).trans kb_201
    have kc_202 := (hb9.block _ (heap_lt kc)).trans kc
    have RA_202 := RA_201.below hb9
    have RB_202 := RB_201.below hb9
    have RC_202 := RC_201.below hb9
    clear kr_201 kp_201 ka_201 kb_201 kc RA_201 RB_201 RC_201 hb9 hB8 krc0 krc1 krc2 krc3 krc4 krc5 krc6 kpc0 kpc1 kpc2
    obtain ⟨krc0, krc1, krc2, krc3, krc4, krc5, krc6⟩ := c7_of kr_202
    obtain ⟨kcc0, kcc1, kcc2, kcc3, kcc4, kcc5, kcc6⟩ := c7_of kc_202
    have hck := repCheck_any h0 hd0 (finS s m true) h1 hd1 (finL l us true) (finG g true) 0 h2 hd2 [] h3 hd3 [] false W9 (hg.below hB9) RC_202
    have HRC : Hid (repE (finS s m true) (finL l us true) (finG g true) 0 [] [] false = 0) := rep_idle (applyE_iff.1 (tryE_iff.1 hT0.1).2.2).2.2.2 (by show 0 ≤ g + 1 ∧ g + 1 ≤ 999; have := HRf.out.2; have := hT0.2; omega)
    rw [HRC.out] at hck
    have HY : Hid (T = sYesB ++ (itoaS g ++ sBl ++ textS us)) := by unfold Hid; rw [HT.out]; exact vote_yes HV.out hT0.1
    have hsz := yes_size T g (textS us) HY.out
    have hle : (4 : Int) < (T.size : Int) := by omega
    have hle2 : (4 : Int) ≤ (T.size : Int) := by omega
    have hpre := yes_pre T _ HY.out
    have q4 : (g == 999) = false := by simpa using hT0.2
    have hw1 : IntKind.i64.wrap (g + 1) = g + 1 := by have := HRf.out.2; simp [IntKind.wrap, IntKind.bits, IntKind.signed]; omega
    have q5 : (g + 1 == g + 1) = true := by simp
    have q6 : (finG g true == g + 1) = true := q5
    have hl40 : (takeRes s m).length ≤ 9223372036854775807 := RC_202.ns
    have hl8 : (runL l us).length ≤ 9223372036854775807 := RC_202.nl
    clear hT0 hsz
    go_wp2_with fail
    refine hck.mono ?_
    clear hck
    rintro e W10 ⟨rfl, hb10⟩
    have hTS10 := hTS.below hb10
    have hTL10 := hTL.below hb10
    clear hTS hTL
    have hB10 := hB9.trans (hb10.mono hB9.size)
    have kr_203 := (hb10.block _ (heap_lt kr_202)).trans kr_202
    have kp_203 := (hb10.block _ (heap_lt kp_202)).trans kp_202
    have ka_203 := (hb10.block _ (heap_lt ka_202)).trans ka_202
    have kb_203 := (hb10.block _ (heap_lt kb_202)).trans kb_202
    have kc_203 := (hb10.block _ (heap_lt kc_202)).trans kc_202
    have RA_203 := RA_202.below hb10
    have RB_203 := RB_202.below hb10
    have RC_203 := RC_202.below hb10
    clear kr_202 kp_202 ka_202 kb_202 kc_202 RA_202 RB_202 RC_202 hb10 hB9 krc0 krc1 krc2 krc3 krc4 krc5 krc6 kcc0 kcc1 kcc2 kcc3 kcc4 kcc5 kcc6
    obtain ⟨krc0, krc1, krc2, krc3, krc4, krc5, krc6⟩ := c7_of kr_203
    obtain ⟨kcc0, kcc1, kcc2, kcc3, kcc4, kcc5, kcc6⟩ := c7_of kc_203
    go_wp2_with fail
    refine (sameStore_refl h0 hd0 t0 td0 (takeRes s m) W10 RC_203.hs hTS10 hl40).mono ?_
    rintro e W11 ⟨rfl, hb11⟩
    have hTL11 := hTL10.below hb11
    clear hTL10 hTS10
    have hB11 := hB10.trans (hb11.mono hB10.size)
    have kr_204 := (hb11.block _ (heap_lt kr_203)).trans kr_203
    have kp_204 := (hb11.block _ (heap_lt kp_203)).trans kp_203
    have ka_204 := (hb11.block _ (heap_lt ka_203)).trans ka_203
    have kb_204 := (hb11.block _ (heap_lt kb_203)).trans kb_203
    have kc_204 := (hb11.block _ (heap_lt kc_203)).trans kc_203
    have RA_204 := RA_203.below hb11
    have RB_204 := RB_203.below hb11
    have RC_204 := RC_203.below hb11
    clear kr_203 kp_203 ka_203 kb_203 kc_203 RA_203 RB_203 RC_203 hb11 hB10 krc0 krc1 krc2 krc3 krc4 krc5 krc6 kcc0 kcc1 kcc2 kcc3 kcc4 kcc5 kcc6
    obtain ⟨krc0, krc1, krc2, krc3, krc4, krc5, krc6⟩ := c7_of kr_204
    obtain ⟨kcc0, kcc1, kcc2, kcc3, kcc4, kcc5, kcc6⟩ := c7_of kc_204
    go_wp2_with fail
    refine (sameRefs_eq h1 hd1 t1 td1 (runL l us) W11 RC_204.hl hTL11 hl8).mono ?_
    rintro e W12 ⟨rfl, hb12⟩
    clear hTL11
    have hB12 := hB11.trans (hb12.mono hB11.size)
    have kr_205 := (hb12.block _ (heap_lt kr_204)).trans kr_204
    have kp_205 := (hb12.block _ (heap_lt kp_204)).trans kp_204
    have ka_205 := (hb12.block _ (heap_lt ka_204)).trans ka_204
    have kb_205 := (hb12.block _ (heap_lt kb_204)).trans kb_204
    have kc_205 := (hb12.block _ (heap_lt kc_204)).trans kc_204
    have RA_205 := RA_204.below hb12
    have RB_205 := RB_204.below hb12
    have RC_205 := RC_204.below hb12
    clear kr_204 kp_204 ka_204 kb_204 kc_204 RA_204 RB_204 RC_204 hb12 hB11 krc0 krc1 krc2 krc3 krc4 krc5 krc6 kcc0 kcc1 kcc2 kcc3 kcc4 kcc5 kcc6
    go_wp2
    go_ret
    exact ⟨rfl, hB12⟩
end Go.Proofs.YtgkmoehbjdmefaaGreatDoor
