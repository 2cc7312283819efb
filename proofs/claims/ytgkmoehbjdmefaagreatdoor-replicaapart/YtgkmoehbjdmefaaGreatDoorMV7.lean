import Derived.Test.YtgkmoehbjdmefaaGreatDoorMK3
namespace Go.Proofs.YtgkmoehbjdmefaaGreatDoor
open Go.RowKit
set_option maxRecDepth 100000

theorem rep_next {s : List Ob} {l : List Rf} {g : Int} {m : List Ob} {us : List Up} {f : Bool} (h : refsE l s = 0) (hg : 0 ≤ g ∧ g ≤ 999) (hp : pushE m us = 0) (n : Int) (h1 : 0 < n) (h2 : n ≤ 2) : repE s l g n m us f = 0 := repE_iff.2 ⟨h, hg, ⟨by omega, h2⟩, fun _ => hp, fun e => by omega⟩
theorem rep_idle {s : List Ob} {l : List Rf} {g : Int} (h : refsE l s = 0) (hg : 0 ≤ g ∧ g ≤ 999) : repE s l g 0 [] [] false = 0 := repE_iff.2 ⟨h, hg, by omega, fun e => absurd rfl e, fun _ => rfl⟩
theorem without_nil {m : List Ob} {us : List Up} {f : Bool} (h : withoutB m us f = true) : m = [] ∧ us = [] ∧ f = false := by
  simp only [withoutB, Bool.and_eq_true, decide_eq_true_eq] at h
  exact ⟨List.eq_nil_of_length_eq_zero h.1.1, List.eq_nil_of_length_eq_zero h.1.2, by simpa using h.2⟩
theorem vote_some {s : List Ob} {l : List Rf} {g : Int} {m : List Ob} {us : List Up} {f : Bool} (hv : voteE g m us = 0) : 3 ≤ (voteS s l g m us f).size := by
  unfold voteS voteT
  rw [if_neg (fun e => e hv)]
  split
  · rw [size_app]; show 3 ≤ 3 + _; omega
  · rw [size_app, size_app, size_app]; show 3 ≤ 4 + _ + _ + _; omega
theorem text_some {x : ByteArray} (h : 3 ≤ x.size) : (x.toList == []) = false := by
  cases hq : (x.toList == []) with
  | false => rfl
  | true =>
    have e : x = sNil := name_eq.1 (by rw [show sNil.toList = [] by decide +kernel]; exact hq)
    rw [e] at h
    exact absurd h (by decide)

set_option maxHeartbeats 16000000 in
theorem replicaApart_any (aS : Option Addr) (cs : Nat) (s : List Ob) (al : Option Addr) (cl : Nat) (l : List Rf) (g ph : Int) (a1 : Option Addr) (c1 : Nat) (m0 : List Ob) (a2 : Option Addr) (c2 : Nat) (us0 : List Up) (f0 : Bool) (am : Option Addr) (cm : Nat) (m : List Ob) (au : Option Addr) (cu : Nat) (us : List Up) (f : Bool) (w : World) (hg : Glob w) (ht : Tab w) (H : RepH w aS s al l a1 m0 a2 us0) (hm : HoldsS w am m) (hml : m.length ≤ 9223372036854775807) (hu : HoldsU w au us) (hul : us.length ≤ 9223372036854775807) :
    Calls Tryz.prog 7 #[RV aS cs s al cl l g ph a1 c1 m0 a2 c2 us0 f0, pushV am m.length cm au us.length cu f] w fun e w' => e = .returned (.bool true) ∧ Below w.heap.size w w' := by
  have hB := below_alloc2 w (RB aS cs s al cl l g ph a1 c1 m0 a2 c2 us0 f0) (.cells #[.slice am m.length cm, .slice au us.length cu, .bool f] 26)
  obtain ⟨kr, kp⟩ := two_blocks w (RB aS cs s al cl l g ph a1 c1 m0 a2 c2 us0 f0) (.cells #[.slice am m.length cm, .slice au us.length cu, .bool f] 26)
  obtain ⟨y0, y1, y2, y3, y4, y5, y6⟩ := c7_of kr
  obtain ⟨z0, z1, z2⟩ := c3_of kp
  have hpr := prepare_any aS cs s al cl l g ph a1 c1 m0 a2 c2 us0 f0 am cm m au cu us f _ (hg.below hB) (H.below hB) (hm.below hB) hml (hu.below hB) hul
  go_enter Tryz.func7, Tryz.ntmps7
  go_wp2_with fail
  generalize (w.alloc (RB aS cs s al cl l g ph a1 c1 m0 a2 c2 us0 f0)).alloc (.cells #[.slice am m.length cm, .slice au us.length cu, .bool f] 26) = W0 at *
  refine hpr.mono ?_
  clear hpr
  rintro e W1 ⟨hb1, hpost⟩
  have hB1 := hB.trans (hb1.mono hB.size)
  have kr1 := (hb1.block _ (heap_lt kr)).trans kr
  have kp1 := (hb1.block _ (heap_lt kp)).trans kp
  clear hb1 hB kr kp y0 y1 y2 y3 y4 y5 y6 z0 z1 z2
  rcases hpost with ⟨hne, rfl⟩ | ⟨hz, b0, d0, b1, d1, b2, d2, b3, d3, rfl, RA⟩
  · have hA := below_alloc W1 zero28
    have ka := heap_alloc_new W1 zero28
    have q1 : (prepE s l g ph m0 us0 f0 m us != 0) = true := by simpa using hne
    clear hne kr1 kp1
    go_wp2_with fail
    have hB2 := hB1.trans (hA.mono hB1.size)
    clear hA hB1
    obtain ⟨A, hAe⟩ : ∃ A, A = W1.heap.size := ⟨_, rfl⟩
    rw [← hAe] at ka ⊢
    clear hAe
    generalize W1.alloc zero28 = W2 at *
    refine (replicaBegun_any W2 (hg.below hB2) (ht.below hB2)).mono ?_
    rintro e W3 ⟨rfl, hb3⟩
    have hB3 := hB2.trans (hb3.mono hB2.size)
    have ka3 := (hb3.block _ (heap_lt ka)).trans ka
    clear hb3 hB2 ka
    obtain ⟨y0, y1, y2, y3, y4, y5, y6⟩ := c7_of ka3
    go_wp2
    go_ret
    exact ⟨rfl, hB3⟩
  have HD : Hid (repE s l g ph m0 us0 f0 = 0 ∧ ph = 0) := duE_iff.1 (prep_pos hz).1
  have HP : Hid (pushE m us = 0) := (prep_pos hz).2
  have HRf : Hid (refsE l s = 0 ∧ (0 ≤ g ∧ g ≤ 999)) := ⟨(repE_iff.1 HD.out.1).1, (repE_iff.1 HD.out.1).2.1⟩
  have HV : Hid (voteE g m us = 0) := voteE_iff.2 ⟨HP.out, HRf.out.2⟩

  clear hz
  have HR1 : Hid (repE s l g 1 m us f = 0) := rep_next HRf.out.1 HRf.out.2 HP.out 1 (by decide) (by decide)
  have HR2 : Hid (repE s l g 2 m us f = 0) := rep_next HRf.out.1 HRf.out.2 HP.out 2 (by decide) (by decide)
  obtain ⟨hr1, rfl⟩ := HD.out
  obtain ⟨rfl, rfl, rfl⟩ := without_nil ((repE_iff.1 hr1).2.2.2.2 rfl)
  clear hr1 HD
  have hA := below_alloc W1 (.cells #[.slice b0 s.length d0, .slice b1 l.length d1, .int .i64 g, .int .i64 1, .slice b2 m.length d2, .slice b3 us.length d3, .bool f] 28)
  have ka := heap_alloc_new W1 (.cells #[.slice b0 s.length d0, .slice b1 l.length d1, .int .i64 g, .int .i64 1, .slice b2 m.length d2, .slice b3 us.length d3, .bool f] 28)
  obtain ⟨Xa, hXe⟩ : ∃ X, X = W1.heap.size := ⟨_, rfl⟩
  rw [← hXe] at ka
  have hB2 := hB1.trans (hA.mono hB1.size)
  have kr_1 := (hA.block _ (heap_lt kr1)).trans kr1
  have kp_1 := (hA.block _ (heap_lt kp1)).trans kp1
  have RA_1 := RA.below hA
  clear kr1 kp1 RA hA hB1
  go_wp2_with fail
  rw [← hXe]
  clear hXe
  generalize W1.alloc (.cells #[.slice b0 s.length d0, .slice b1 l.length d1, .int .i64 g, .int .i64 1, .slice b2 m.length d2, .slice b3 us.length d3, .bool f] 28) = W2 at *
  refine (replicaBegun_any W2 (hg.below hB2) (ht.below hB2)).mono ?_
  rintro e W3 ⟨rfl, hb3⟩
  have hB3 := hB2.trans (hb3.mono hB2.size)
  have kr_2 := (hb3.block _ (heap_lt kr_1)).trans kr_1
  have kp_2 := (hb3.block _ (heap_lt kp_1)).trans kp_1
  have ka_2 := (hb3.block _ (heap_lt ka)).trans ka
  have RA_2 := RA_1.below hb3
  clear kr_1 kp_1 ka RA_1 hb3 hB2
  obtain ⟨kac0, kac1, kac2, kac3, kac4, kac5, kac6⟩ := c7_of ka_2
  have hvo := vote_any b0 d0 s b1 d1 l g 1 b2 d2 m b3 d3 us f W3 (hg.below hB3) (ht.below hB3) RA_2
  rw [duE_iff.2 ⟨HR1.out, rfl⟩] at hvo
  obtain ⟨T, hT⟩ : ∃ T, T = voteS s l g m us f := ⟨_, rfl⟩
  have HT3 : 3 ≤ T.size := by rw [hT]; exact vote_some HV.out
  rw [← hT] at hvo
  clear hT
  have hTn : (T.toList == []) = false := text_some HT3
  clear HT3
  go_wp2_with fail
  refine hvo.mono ?_
  clear hvo
  rintro e W5 ⟨hb5, ⟨hno, -⟩ | ⟨-, e0, ed0, e1, ed1, e2, ed2, e3, ed3, rfl, RB⟩⟩
  case inl => exact absurd rfl hno
  have hB5 := hB3.trans (hb5.mono hB3.size)
  have kr_3 := (hb5.block _ (heap_lt kr_2)).trans kr_2
  have kp_3 := (hb5.block _ (heap_lt kp_2)).trans kp_2
  have ka_3 := (hb5.block _ (heap_lt ka_2)).trans ka_2
  have RA_3 := RA_2.below hb5
  clear kr_2 kp_2 ka_2 RA_2 hb5 hB3 kac0 kac1 kac2 kac3 kac4 kac5 kac6
  have hA := below_alloc W5 (.cells #[.slice e0 s.length ed0, .slice e1 l.length ed1, .int .i64 g, .int .i64 2, .slice e2 m.length ed2, .slice e3 us.length ed3, .bool f] 28)
  have kb := heap_alloc_new W5 (.cells #[.slice e0 s.length ed0, .slice e1 l.length ed1, .int .i64 g, .int .i64 2, .slice e2 m.length ed2, .slice e3 us.length ed3, .bool f] 28)
  obtain ⟨Xb, hXe⟩ : ∃ X, X = W5.heap.size := ⟨_, rfl⟩
  rw [← hXe] at kb
  have hB6 := hB5.trans (hA.mono hB5.size)
  have kr_4 := (hA.block _ (heap_lt kr_3)).trans kr_3
  have kp_4 := (hA.block _ (heap_lt kp_3)).trans kp_3
  have ka_4 := (hA.block _ (heap_lt ka_3)).trans ka_3
  have RA_4 := RA_3.below hA
  have RB_4 := RB.below hA
  clear kr_3 kp_3 ka_3 RA_3 RB hA hB5
  obtain ⟨kac0, kac1, kac2, kac3, kac4, kac5, kac6⟩ := c7_of ka_4
  have hcr := crash_any b0 d0 s b1 d1 l g 1 b2 d2 m b3 d3 us f _ (hg.below hB6) RA_4
  rw [HR1.out] at hcr
  go_wp2_with fail
  rw [← hXe]
  clear hXe
  generalize W5.alloc (.cells #[.slice e0 s.length ed0, .slice e1 l.length ed1, .int .i64 g, .int .i64 2, .slice e2 m.length ed2, .slice e3 us.length ed3, .bool f] 28) = W6 at *
  refine hcr.mono ?_
  clear hcr
  rintro e W7 ⟨hb7, ⟨hno, -⟩ | ⟨-, h0, hd0, h1, hd1, h2, hd2, h3, hd3, rfl, RC⟩⟩
  case inl => exact absurd rfl hno
  have hB7 := hB6.trans (hb7.mono hB6.size)
  have kr_5 := (hb7.block _ (heap_lt kr_4)).trans kr_4
  have kp_5 := (hb7.block _ (heap_lt kp_4)).trans kp_4
  have ka_5 := (hb7.block _ (heap_lt ka_4)).trans ka_4
  have kb_5 := (hb7.block _ (heap_lt kb)).trans kb
  have RA_5 := RA_4.below hb7
  have RB_5 := RB_4.below hb7
  clear kr_4 kp_4 ka_4 kb RA_4 RB_4 hb7 hB6 kac0 kac1 kac2 kac3 kac4 kac5 kac6
  have hA := below_alloc W7 (.cells #[.slice h0 s.length hd0, .slice h1 l.length hd1, .int .i64 g, .int .i64 0, .slice h2 0 hd2, .slice h3 0 hd3, .bool false] 28)
  have kc := heap_alloc_new W7 (.cells #[.slice h0 s.length hd0, .slice h1 l.length hd1, .int .i64 g, .int .i64 0, .slice h2 0 hd2, .slice h3 0 hd3, .bool false] 28)
  obtain ⟨Xc, hXe⟩ : ∃ X, X = W7.heap.size := ⟨_, rfl⟩
  rw [← hXe] at kc
  have hB8 := hB7.trans (hA.mono hB7.size)
  have kr_6 := (hA.block _ (heap_lt kr_5)).trans kr_5
  have kp_6 := (hA.block _ (heap_lt kp_5)).trans kp_5
  have ka_6 := (hA.block _ (heap_lt ka_5)).trans ka_5
  have kb_6 := (hA.block _ (heap_lt kb_5)).trans kb_5
  have RA_6 := RA_5.below hA
  have RB_6 := RB_5.below hA
  have RC_6 := RC.below hA
  clear kr_5 kp_5 ka_5 kb_5 RA_5 RB_5 RC hA hB7
  obtain ⟨kbc0, kbc1, kbc2, kbc3, kbc4, kbc5, kbc6⟩ := c7_of kb_6
  have hcr := crash_any e0 ed0 s e1 ed1 l g 2 e2 ed2 m e3 ed3 us f _ (hg.below hB8) RB_6
  rw [HR2.out] at hcr
  go_wp2_with fail
  rw [← hXe]
  clear hXe
  generalize W7.alloc (.cells #[.slice h0 s.length hd0, .slice h1 l.length hd1, .int .i64 g, .int .i64 0, .slice h2 0 hd2, .slice h3 0 hd3, .bool false] 28) = W8 at *
  refine hcr.mono ?_
  clear hcr
  rintro e W9 ⟨hb9, ⟨hno, -⟩ | ⟨-, i0, id0, i1, id1, i2, id2, i3, id3, rfl, RD⟩⟩
  case inl => exact absurd rfl hno
  have hB9 := hB8.trans (hb9.mono hB8.size)
  have kr_7 := (hb9.block _ (heap_lt kr_6)).trans kr_6
  have kp_7 := (hb9.block _ (heap_lt kp_6)).trans kp_6
  have ka_7 := (hb9.block _ (heap_lt ka_6)).trans ka_6
  have kb_7 := (hb9.block _ (heap_lt kb_6)).trans kb_6
  have kc_7 := (hb9.block _ (heap_lt kc)).trans kc
  have RA_7 := RA_6.below hb9
  have RB_7 := RB_6.below hb9
  have RC_7 := RC_6.below hb9
  clear kr_6 kp_6 ka_6 kb_6 kc RA_6 RB_6 RC_6 hb9 hB8 kbc0 kbc1 kbc2 kbc3 kbc4 kbc5 kbc6
  have hA := below_alloc W9 (.cells #[.slice i0 s.length id0, .slice i1 l.length id1, .int .i64 g, .int .i64 0, .slice i2 0 id2, .slice i3 0 id3, .bool false] 28)
  have kd := heap_alloc_new W9 (.cells #[.slice i0 s.length id0, .slice i1 l.length id1, .int .i64 g, .int .i64 0, .slice i2 0 id2, .slice i3 0 id3, .bool false] 28)
  obtain ⟨Xd, hXe⟩ : ∃ X, X = W9.heap.size := ⟨_, rfl⟩
  rw [← hXe] at kd
  have hB10 := hB9.trans (hA.mono hB9.size)
  have kr_8 := (hA.block _ (heap_lt kr_7)).trans kr_7
  have kp_8 := (hA.block _ (heap_lt kp_7)).trans kp_7
  have ka_8 := (hA.block _ (heap_lt ka_7)).trans ka_7
  have kb_8 := (hA.block _ (heap_lt kb_7)).trans kb_7
  have kc_8 := (hA.block _ (heap_lt kc_7)).trans kc_7
  have RA_8 := RA_7.below hA
  have RB_8 := RB_7.below hA
  have RC_8 := RC_7.below hA
  have RD_8 := RD.below hA
  clear kr_7 kp_7 ka_7 kb_7 kc_7 RA_7 RB_7 RC_7 RD hA hB9
  obtain ⟨kbc0, kbc1, kbc2, kbc3, kbc4, kbc5, kbc6⟩ := c7_of kb_8
  have hfi := finish_any e0 ed0 s e1 ed1 l g 2 e2 ed2 m e3 ed3 us f false _ (hg.below hB10) RB_8
  rw [show finE s l g 2 m us f false = 0 by unfold finE; rw [if_neg (fun e => e (duE_iff.2 ⟨HR2.out, rfl⟩)), if_pos rfl]] at hfi
  rw [show finS s m false = s from rfl, show finL l us false = l from rfl, show finG g false = g from rfl] at hfi
  go_wp2_with fail
  rw [← hXe]
  clear hXe
  generalize W9.alloc (.cells #[.slice i0 s.length id0, .slice i1 l.length id1, .int .i64 g, .int .i64 0, .slice i2 0 id2, .slice i3 0 id3, .bool false] 28) = W10 at *
  refine hfi.mono ?_
  clear hfi
  rintro e W11 ⟨hb11, ⟨hno, -⟩ | ⟨-, j0, jd0, j1, jd1, j2, jd2, j3, jd3, rfl, RN⟩⟩
  case inl => exact absurd rfl hno
  have hB11 := hB10.trans (hb11.mono hB10.size)
  have kr_9 := (hb11.block _ (heap_lt kr_8)).trans kr_8
  have kp_9 := (hb11.block _ (heap_lt kp_8)).trans kp_8
  have ka_9 := (hb11.block _ (heap_lt ka_8)).trans ka_8
  have kb_9 := (hb11.block _ (heap_lt kb_8)).trans kb_8
  have kc_9 := (hb11.block _ (heap_lt kc_8)).trans kc_8
  have kd_9 := (hb11.block _ (heap_lt kd)).trans kd
  have RA_9 := RA_8.below hb11
  have RB_9 := RB_8.below hb11
  have RC_9 := RC_8.below hb11
  have RD_9 := RD_8.below hb11
  clear kr_8 kp_8 ka_8 kb_8 kc_8 kd RA_8 RB_8 RC_8 RD_8 hb11 hB10 kbc0 kbc1 kbc2 kbc3 kbc4 kbc5 kbc6
  have hA := below_alloc W11 (.cells #[.slice j0 s.length jd0, .slice j1 l.length jd1, .int .i64 g, .int .i64 0, .slice j2 0 jd2, .slice j3 0 jd3, .bool false] 28)
  have kn := heap_alloc_new W11 (.cells #[.slice j0 s.length jd0, .slice j1 l.length jd1, .int .i64 g, .int .i64 0, .slice j2 0 jd2, .slice j3 0 jd3, .bool false] 28)
  obtain ⟨Xn, hXe⟩ : ∃ X, X = W11.heap.size := ⟨_, rfl⟩
  rw [← hXe] at kn
  have hB12 := hB11.trans (hA.mono hB11.size)
  have kr_10 := (hA.block _ (heap_lt kr_9)).trans kr_9
  have kp_10 := (hA.block _ (heap_lt kp_9)).trans kp_9
  have ka_10 := (hA.block _ (heap_lt ka_9)).trans ka_9
  have kb_10 := (hA.block _ (heap_lt kb_9)).trans kb_9
  have kc_10 := (hA.block _ (heap_lt kc_9)).trans kc_9
  have kd_10 := (hA.block _ (heap_lt kd_9)).trans kd_9
  have RA_10 := RA_9.below hA
  have RB_10 := RB_9.below hA
  have RC_10 := RC_9.below hA
  have RD_10 := RD_9.below hA
  have RN_10 := RN.below hA
  clear kr_9 kp_9 ka_9 kb_9 kc_9 kd_9 RA_9 RB_9 RC_9 RD_9 RN hA hB11
  obtain ⟨kcc0, kcc1, kcc2, kcc3, kcc4, kcc5, kcc6⟩ := c7_of kc_10
  obtain ⟨krc0, krc1, krc2, krc3, krc4, krc5, krc6⟩ := c7_of kr_10
  have hsr := sameRep_any h0 hd0 aS cs s h1 hd1 al cl l g h2 hd2 h3 hd3 a1 c1 a2 c2 _ RC_10.hs (H.hs.below hB12) H.ns RC_10.hl (H.hl.below hB12) H.nl
  go_wp2_with fail
  rw [← hXe]
  clear hXe
  generalize W11.alloc (.cells #[.slice j0 s.length jd0, .slice j1 l.length jd1, .int .i64 g, .int .i64 0, .slice j2 0 jd2, .slice j3 0 jd3, .bool false] 28) = W12 at *
  refine hsr.mono ?_
  clear hsr
  rintro e W13 ⟨rfl, hbx⟩
  have hB13 := hB12.trans (hbx.mono hB12.size)
  have kr_11 := (hbx.block _ (heap_lt kr_10)).trans kr_10
  have kp_11 := (hbx.block _ (heap_lt kp_10)).trans kp_10
  have ka_11 := (hbx.block _ (heap_lt ka_10)).trans ka_10
  have kb_11 := (hbx.block _ (heap_lt kb_10)).trans kb_10
  have kc_11 := (hbx.block _ (heap_lt kc_10)).trans kc_10
  have kd_11 := (hbx.block _ (heap_lt kd_10)).trans kd_10
  have kn_11 := (hbx.block _ (heap_lt kn)).trans kn
  have RA_11 := RA_10.below hbx
  have RB_11 := RB_10.below hbx
  have RC_11 := RC_10.below hbx
  have RD_11 := RD_10.below hbx
  have RN_11 := RN_10.below hbx
  clear kr_10 kp_10 ka_10 kb_10 kc_10 kd_10 kn RA_10 RB_10 RC_10 RD_10 RN_10 hbx hB12 kcc0 kcc1 kcc2 kcc3 kcc4 kcc5 kcc6 krc0 krc1 krc2 krc3 krc4 krc5 krc6
  obtain ⟨kdc0, kdc1, kdc2, kdc3, kdc4, kdc5, kdc6⟩ := c7_of kd_11
  obtain ⟨krc0, krc1, krc2, krc3, krc4, krc5, krc6⟩ := c7_of kr_11
  have hsr := sameRep_any i0 id0 aS cs s i1 id1 al cl l g i2 id2 i3 id3 a1 c1 a2 c2 W13 RD_11.hs (H.hs.below hB13) H.ns RD_11.hl (H.hl.below hB13) H.nl
  go_wp2_with fail
  refine hsr.mono ?_
  clear hsr
  rintro e W14 ⟨rfl, hbx⟩
  have hB14 := hB13.trans (hbx.mono hB13.size)
  have kr_12 := (hbx.block _ (heap_lt kr_11)).trans kr_11
  have kp_12 := (hbx.block _ (heap_lt kp_11)).trans kp_11
  have ka_12 := (hbx.block _ (heap_lt ka_11)).trans ka_11
  have kb_12 := (hbx.block _ (heap_lt kb_11)).trans kb_11
  have kc_12 := (hbx.block _ (heap_lt kc_11)).trans kc_11
  have kd_12 := (hbx.block _ (heap_lt kd_11)).trans kd_11
  have kn_12 := (hbx.block _ (heap_lt kn_11)).trans kn_11
  have RA_12 := RA_11.below hbx
  have RB_12 := RB_11.below hbx
  have RC_12 := RC_11.below hbx
  have RD_12 := RD_11.below hbx
  have RN_12 := RN_11.below hbx
  clear kr_11 kp_11 ka_11 kb_11 kc_11 kd_11 kn_11 RA_11 RB_11 RC_11 RD_11 RN_11 hbx hB13 kdc0 kdc1 kdc2 kdc3 kdc4 kdc5 kdc6 krc0 krc1 krc2 krc3 krc4 krc5 krc6
  obtain ⟨knc0, knc1, knc2, knc3, knc4, knc5, knc6⟩ := c7_of kn_12
  obtain ⟨krc0, krc1, krc2, krc3, krc4, krc5, krc6⟩ := c7_of kr_12
  have hsr := sameRep_any j0 jd0 aS cs s j1 jd1 al cl l g j2 jd2 j3 jd3 a1 c1 a2 c2 W14 RN_12.hs (H.hs.below hB14) H.ns RN_12.hl (H.hl.below hB14) H.nl
  go_wp2_with fail
  refine hsr.mono ?_
  clear hsr
  rintro e W15 ⟨rfl, hbx⟩
  have hB15 := hB14.trans (hbx.mono hB14.size)
  have kr_13 := (hbx.block _ (heap_lt kr_12)).trans kr_12
  have kp_13 := (hbx.block _ (heap_lt kp_12)).trans kp_12
  have ka_13 := (hbx.block _ (heap_lt ka_12)).trans ka_12
  have kb_13 := (hbx.block _ (heap_lt kb_12)).trans kb_12
  have kc_13 := (hbx.block _ (heap_lt kc_12)).trans kc_12
  have kd_13 := (hbx.block _ (heap_lt kd_12)).trans kd_12
  have kn_13 := (hbx.block _ (heap_lt kn_12)).trans kn_12
  have RA_13 := RA_12.below hbx
  have RB_13 := RB_12.below hbx
  have RC_13 := RC_12.below hbx
  have RD_13 := RD_12.below hbx
  have RN_13 := RN_12.below hbx
  clear kr_12 kp_12 ka_12 kb_12 kc_12 kd_12 kn_12 RA_12 RB_12 RC_12 RD_12 RN_12 hbx hB14 knc0 knc1 knc2 knc3 knc4 knc5 knc6 krc0 krc1 krc2 krc3 krc4 krc5 krc6
  obtain ⟨kac0, kac1, kac2, kac3, kac4, kac5, kac6⟩ := c7_of ka_13
  have hck := repCheck_any b0 d0 s b1 d1 l g 1 b2 d2 m b3 d3 us f W15 (hg.below hB15) RA_13
  rw [HR1.out] at hck
  go_wp2_with fail
  refine hck.mono ?_
  clear hck
  rintro e W16 ⟨rfl, hbx⟩
  have hB16 := hB15.trans (hbx.mono hB15.size)
  have kr_14 := (hbx.block _ (heap_lt kr_13)).trans kr_13
  have kp_14 := (hbx.block _ (heap_lt kp_13)).trans kp_13
  have ka_14 := (hbx.block _ (heap_lt ka_13)).trans ka_13
  have kb_14 := (hbx.block _ (heap_lt kb_13)).trans kb_13
  have kc_14 := (hbx.block _ (heap_lt kc_13)).trans kc_13
  have kd_14 := (hbx.block _ (heap_lt kd_13)).trans kd_13
  have kn_14 := (hbx.block _ (heap_lt kn_13)).trans kn_13
  have RA_14 := RA_13.below hbx
  have RB_14 := RB_13.below hbx
  have RC_14 := RC_13.below hbx
  have RD_14 := RD_13.below hbx
  have RN_14 := RN_13.below hbx
  clear kr_13 kp_13 ka_13 kb_13 kc_13 kd_13 kn_13 RA_13 RB_13 RC_13 RD_13 RN_13 hbx hB15 kac0 kac1 kac2 kac3 kac4 kac5 kac6
  obtain ⟨kbc0, kbc1, kbc2, kbc3, kbc4, kbc5, kbc6⟩ := c7_of kb_14
  have hck := repCheck_any e0 ed0 s e1 ed1 l g 2 e2 ed2 m e3 ed3 us f W16 (hg.below hB16) RB_14
  rw [HR2.out] at hck
  go_wp2_with fail
  refine hck.mono ?_
  clear hck
  rintro e W17 ⟨rfl, hbx⟩
  have hB17 := hB16.trans (hbx.mono hB16.size)
  have kr_15 := (hbx.block _ (heap_lt kr_14)).trans kr_14
  have kp_15 := (hbx.block _ (heap_lt kp_14)).trans kp_14
  have ka_15 := (hbx.block _ (heap_lt ka_14)).trans ka_14
  have kb_15 := (hbx.block _ (heap_lt kb_14)).trans kb_14
  have kc_15 := (hbx.block _ (heap_lt kc_14)).trans kc_14
  have kd_15 := (hbx.block _ (heap_lt kd_14)).trans kd_14
  have kn_15 := (hbx.block _ (heap_lt kn_14)).trans kn_14
  have RA_15 := RA_14.below hbx
  have RB_15 := RB_14.below hbx
  have RC_15 := RC_14.below hbx
  have RD_15 := RD_14.below hbx
  have RN_15 := RN_14.below hbx
  clear kr_14 kp_14 ka_14 kb_14 kc_14 kd_14 kn_14 RA_14 RB_14 RC_14 RD_14 RN_14 hbx hB16 kbc0 kbc1 kbc2 kbc3 kbc4 kbc5 kbc6
  obtain ⟨kac0, kac1, kac2, kac3, kac4, kac5, kac6⟩ := c7_of ka_15
  obtain ⟨kbc0, kbc1, kbc2, kbc3, kbc4, kbc5, kbc6⟩ := c7_of kb_15
  obtain ⟨krc0, krc1, krc2, krc3, krc4, krc5, krc6⟩ := c7_of kr_15
  have hsr := sameStore_refl b0 d0 aS cs s W17 RA_15.hs (H.hs.below hB17) H.ns
  go_wp2_with fail
  refine hsr.mono ?_
  clear hsr
  rintro e W18 ⟨rfl, hbx⟩
  have hB18 := hB17.trans (hbx.mono hB17.size)
  have kr_16 := (hbx.block _ (heap_lt kr_15)).trans kr_15
  have kp_16 := (hbx.block _ (heap_lt kp_15)).trans kp_15
  have ka_16 := (hbx.block _ (heap_lt ka_15)).trans ka_15
  have kb_16 := (hbx.block _ (heap_lt kb_15)).trans kb_15
  have kc_16 := (hbx.block _ (heap_lt kc_15)).trans kc_15
  have kd_16 := (hbx.block _ (heap_lt kd_15)).trans kd_15
  have kn_16 := (hbx.block _ (heap_lt kn_15)).trans kn_15
  have RA_16 := RA_15.below hbx
  have RB_16 := RB_15.below hbx
  have RC_16 := RC_15.below hbx
  have RD_16 := RD_15.below hbx
  have RN_16 := RN_15.below hbx
  clear kr_15 kp_15 ka_15 kb_15 kc_15 kd_15 kn_15 RA_15 RB_15 RC_15 RD_15 RN_15 hbx hB17 kac0 kac1 kac2 kac3 kac4 kac5 kac6 kbc0 kbc1 kbc2 kbc3 kbc4 kbc5 kbc6 krc0 krc1 krc2 krc3 krc4 krc5 krc6
  obtain ⟨kac0, kac1, kac2, kac3, kac4, kac5, kac6⟩ := c7_of ka_16
  obtain ⟨kbc0, kbc1, kbc2, kbc3, kbc4, kbc5, kbc6⟩ := c7_of kb_16
  obtain ⟨krc0, krc1, krc2, krc3, krc4, krc5, krc6⟩ := c7_of kr_16
  have hsr := sameRefs_eq b1 d1 al cl l W18 RA_16.hl (H.hl.below hB18) H.nl
  go_wp2_with fail
  refine hsr.mono ?_
  clear hsr
  rintro e W19 ⟨rfl, hbx⟩
  have hB19 := hB18.trans (hbx.mono hB18.size)
  have kr_17 := (hbx.block _ (heap_lt kr_16)).trans kr_16
  have kp_17 := (hbx.block _ (heap_lt kp_16)).trans kp_16
  have ka_17 := (hbx.block _ (heap_lt ka_16)).trans ka_16
  have kb_17 := (hbx.block _ (heap_lt kb_16)).trans kb_16
  have kc_17 := (hbx.block _ (heap_lt kc_16)).trans kc_16
  have kd_17 := (hbx.block _ (heap_lt kd_16)).trans kd_16
  have kn_17 := (hbx.block _ (heap_lt kn_16)).trans kn_16
  have RA_17 := RA_16.below hbx
  have RB_17 := RB_16.below hbx
  have RC_17 := RC_16.below hbx
  have RD_17 := RD_16.below hbx
  have RN_17 := RN_16.below hbx
  clear kr_16 kp_16 ka_16 kb_16 kc_16 kd_16 kn_16 RA_16 RB_16 RC_16 RD_16 RN_16 hbx hB18 kac0 kac1 kac2 kac3 kac4 kac5 kac6 kbc0 kbc1 kbc2 kbc3 kbc4 kbc5 kbc6 krc0 krc1 krc2 krc3 krc4 krc5 krc6
  obtain ⟨kac0, kac1, kac2, kac3, kac4, kac5, kac6⟩ := c7_of ka_17
  obtain ⟨kbc0, kbc1, kbc2, kbc3, kbc4, kbc5, kbc6⟩ := c7_of kb_17
  obtain ⟨krc0, krc1, krc2, krc3, krc4, krc5, krc6⟩ := c7_of kr_17
  have hsr := sameStore_refl e0 ed0 aS cs s W19 RB_17.hs (H.hs.below hB19) H.ns
  go_wp2_with fail
  refine hsr.mono ?_
  clear hsr
  rintro e W20 ⟨rfl, hbx⟩
  have hB20 := hB19.trans (hbx.mono hB19.size)
  have kr_18 := (hbx.block _ (heap_lt kr_17)).trans kr_17
  have kp_18 := (hbx.block _ (heap_lt kp_17)).trans kp_17
  have ka_18 := (hbx.block _ (heap_lt ka_17)).trans ka_17
  have kb_18 := (hbx.block _ (heap_lt kb_17)).trans kb_17
  have kc_18 := (hbx.block _ (heap_lt kc_17)).trans kc_17
  have kd_18 := (hbx.block _ (heap_lt kd_17)).trans kd_17
  have kn_18 := (hbx.block _ (heap_lt kn_17)).trans kn_17
  have RA_18 := RA_17.below hbx
  have RB_18 := RB_17.below hbx
  have RC_18 := RC_17.below hbx
  have RD_18 := RD_17.below hbx
  have RN_18 := RN_17.below hbx
  clear kr_17 kp_17 ka_17 kb_17 kc_17 kd_17 kn_17 RA_17 RB_17 RC_17 RD_17 RN_17 hbx hB19 kac0 kac1 kac2 kac3 kac4 kac5 kac6 kbc0 kbc1 kbc2 kbc3 kbc4 kbc5 kbc6 krc0 krc1 krc2 krc3 krc4 krc5 krc6
  obtain ⟨kac0, kac1, kac2, kac3, kac4, kac5, kac6⟩ := c7_of ka_18
  obtain ⟨kbc0, kbc1, kbc2, kbc3, kbc4, kbc5, kbc6⟩ := c7_of kb_18
  obtain ⟨krc0, krc1, krc2, krc3, krc4, krc5, krc6⟩ := c7_of kr_18
  have hsr := sameRefs_eq e1 ed1 al cl l W20 RB_18.hl (H.hl.below hB20) H.nl
  go_wp2_with fail
  refine hsr.mono ?_
  clear hsr
  rintro e W21 ⟨rfl, hbx⟩
  have hB21 := hB20.trans (hbx.mono hB20.size)
  have kr_19 := (hbx.block _ (heap_lt kr_18)).trans kr_18
  have kp_19 := (hbx.block _ (heap_lt kp_18)).trans kp_18
  have ka_19 := (hbx.block _ (heap_lt ka_18)).trans ka_18
  have kb_19 := (hbx.block _ (heap_lt kb_18)).trans kb_18
  have kc_19 := (hbx.block _ (heap_lt kc_18)).trans kc_18
  have kd_19 := (hbx.block _ (heap_lt kd_18)).trans kd_18
  have kn_19 := (hbx.block _ (heap_lt kn_18)).trans kn_18
  have RA_19 := RA_18.below hbx
  have RB_19 := RB_18.below hbx
  have RC_19 := RC_18.below hbx
  have RD_19 := RD_18.below hbx
  have RN_19 := RN_18.below hbx
  clear kr_18 kp_18 ka_18 kb_18 kc_18 kd_18 kn_18 RA_18 RB_18 RC_18 RD_18 RN_18 hbx hB20 kac0 kac1 kac2 kac3 kac4 kac5 kac6 kbc0 kbc1 kbc2 kbc3 kbc4 kbc5 kbc6 krc0 krc1 krc2 krc3 krc4 krc5 krc6
  go_wp2
  go_ret
  exact ⟨rfl, hB21⟩
end Go.Proofs.YtgkmoehbjdmefaaGreatDoor
