import Derived.Test.YtehmlpkapjdhkaaGreatDoorMX26
import Derived.Test.YtehmlpkapjdhkaaGreatDoorMX9
import Derived.Test.YtehmlpkapjdhkaaGreatDoorMX11
import Derived.Test.YtehmlpkapjdhkaaGreatDoorMY4
namespace Go.Proofs.YtehmlpkapjdhkaaGreatDoor
open Go.RowKit
set_option maxRecDepth 100000
set_option maxHeartbeats 16000000 in
theorem repairAll_any (a : Option Addr) (c : Nat) (l : List Rq) (w : World) (hg : Glob w) (ht : Tab w) (h : HoldsQ w a l) (hlc : l.length ≤ c) (hcm : c ≤ 9223372036854775807) :
    Calls Tryz.prog 7 #[.agg #[.slice a l.length c]] w fun e w'=>e = .returned (.bool true) ∧ Below w.heap.size w w':=by
  have hA:=below_alloc w (.cells #[.slice a l.length c] 24)
  have k1:=heap_alloc_new w (.cells #[.slice a l.length c] 24)
  have y1:=c1_of k1
  have hc:=all_any a c l _ (hg.below hA) (h.below hA) hlc hcm
  go_enter Tryz.func7,Tryz.ntmps7
  go_wp2_with fail
  generalize w.alloc (.cells #[.slice a l.length c] 24) = W0 at *
  refine hc.mono ?_
  clear hc y1
  rintro e W1 ⟨hb1,⟨hne,rfl⟩ | ⟨hz,B,cap,qs,rfl,hM,hD,hca,hcb⟩⟩
  · have hB1 := hA.trans (hb1.mono hA.size)
    have hA2:=below_alloc W1 (.cells #[.slice none 0 0] 24)
    have ka:=heap_alloc_new W1 (.cells #[.slice none 0 0] 24)
    have hB2:=hB1.trans (hA2.mono hB1.size)
    have q1 : (allE (l.map Rq.r) != 0) = true:=by simpa using hne
    obtain ⟨p,hp⟩ : ∃ p,p = W1.heap.size:=⟨_,rfl⟩
    rw [← hp] at ka
    clear hne k1 hA2 hB1 hb1 hA
    generalize allE (l.map Rq.r) = E at *
    have hc:=repairBegun_any (W1.alloc (.cells #[.slice none 0 0] 24)) (hg.below hB2)
    go_wp2_with fail
    rw [← hp]
    clear hp
    generalize W1.alloc (.cells #[.slice none 0 0] 24) = W2 at *
    refine hc.mono ?_
    clear hc
    rintro e W3 ⟨rfl,hb3⟩
    have hB3:=hB2.trans (hb3.mono hB2.size)
    have kb:=(hb3.block _ (heap_lt ka)).trans ka
    clear hb3 hB2 ka
    have hc:=clusterBegun_any W3 (hg.below hB3) (ht.below hB3)
    go_wp2_with fail
    refine hc.mono ?_
    clear hc
    rintro e W4 ⟨rfl,hb4⟩
    have hB4:=hB3.trans (hb4.mono hB3.size)
    have ka:=(hb4.block _ (heap_lt kb)).trans kb
    clear hb4 hB3 kb
    have hc:=walkBegun_any W4
    go_wp2_with fail
    refine hc.mono ?_
    clear hc
    rintro e W5 ⟨rfl,hb5⟩
    have hB5:=hB4.trans (hb5.mono hB4.size)
    have kb:=(hb5.block _ (heap_lt ka)).trans ka
    have y1:=c1_of kb
    clear hb5 hB4 ka kb
    go_wp2
    go_ret
    exact ⟨rfl,hB5⟩
  have HZ : Hid (allE (l.map Rq.r) = 0):=hz
  have HM : Hid (qs.map Rq.r = allL (l.map Rq.r)):=hM
  have hl3 : l.length = 3:=by
    have:=(checkC_iff.1 (allE_zero hz).1).1;simpa using this
  have hqa : qs.length = 3:=rOf_len hM rfl
  obtain ⟨N0,hN0⟩ : ∃ N : Nat,N = cntTo (menB (l.map Rq.r)) 3:=⟨_,rfl⟩
  rw [← hN0]
  obtain ⟨al,ol,rfl⟩:=h.some (by omega)
  rw [hl3] at k1 ⊢
  clear hz hM hN0
  have hB1:=hA.trans (hb1.mono hA.size)
  have k11:=(hb1.block _ (heap_lt k1)).trans k1
  have hL1:=(h.below hA).below hb1
  have hA2:=below_alloc W1 (.cells #[.slice (some ⟨B,0,none⟩) 3 cap] 24)
  have ka:=heap_alloc_new W1 (.cells #[.slice (some ⟨B,0,none⟩) 3 cap] 24)
  have hB2:=hB1.trans (hA2.mono hB1.size)
  have kc:=(hA2.block _ (heap_lt k11)).trans k11
  have hL2:=hL1.below hA2
  have hQ2:=hD.below hA2
  obtain ⟨p,hp⟩ : ∃ p,p = W1.heap.size:=⟨_,rfl⟩
  rw [← hp] at ka
  clear k1 k11 hL1 hD hb1 hA hA2 hB1
  have hc:=repairBegun_any (W1.alloc (.cells #[.slice (some ⟨B,0,none⟩) 3 cap] 24)) (hg.below hB2)
  go_wp2_with fail
  rw [← hp]
  clear hp
  generalize W1.alloc (.cells #[.slice (some ⟨B,0,none⟩) 3 cap] 24) = W2 at *
  refine hc.mono ?_
  clear hc
  rintro e W3 ⟨rfl,hb3⟩
  have hB3:=hB2.trans (hb3.mono hB2.size)
  have kb:=(hb3.block _ (heap_lt ka)).trans ka
  have kd:=(hb3.block _ (heap_lt kc)).trans kc
  have hL3:=hL2.below hb3
  have hQ3:=hQ2.below hb3
  clear hb3 hB2 ka kc hL2 hQ2
  have hc:=clusterBegun_any W3 (hg.below hB3) (ht.below hB3)
  go_wp2_with fail
  refine hc.mono ?_
  clear hc
  rintro e W4 ⟨rfl,hb4⟩
  have hB4:=hB3.trans (hb4.mono hB3.size)
  have ka:=(hb4.block _ (heap_lt kb)).trans kb
  have kc:=(hb4.block _ (heap_lt kd)).trans kd
  have hL4:=hL3.below hb4
  have hQ4:=hQ3.below hb4
  clear hb4 hB3 kb kd hL3 hQ3
  have hc:=walkBegun_any W4
  go_wp2_with fail
  refine hc.mono ?_
  clear hc
  rintro e W5 ⟨rfl,hb5⟩
  have hB5:=hB4.trans (hb5.mono hB4.size)
  have kb:=(hb5.block _ (heap_lt ka)).trans ka
  have kd:=(hb5.block _ (heap_lt kc)).trans kc
  have hL5:=hL4.below hb5
  have hQ5:=hQ4.below hb5
  clear hb5 hB4 ka kc hL4 hQ4
  have y1:=c1_of kb
  have hc:=all_any (some ⟨B,0,none⟩) cap qs W5 (hg.below hB5) hQ5.here (by omega) hcb
  rw [hqa,HM.out] at hc
  go_wp2_with fail
  refine hc.mono ?_
  clear hc y1
  rintro e W6 ⟨hb6,⟨hne,-⟩ | ⟨-,B2,cap2,q2,rfl,hM2,hD2,hca2,hcb2⟩⟩
  · exact absurd (all_again HZ.out).1 hne
  rw [(all_again HZ.out).2.2]
  have HM2 : Hid (q2.map Rq.r = qs.map Rq.r):=by unfold Hid;rw [hM2,(all_again HZ.out).2.1,HM.out]
  have hq2 : q2.length = 3:=rOf_len hM2 rfl
  clear hM2
  have hB6:=hB5.trans (hb6.mono hB5.size)
  have ka:=(hb6.block _ (heap_lt kb)).trans kb
  have kc:=(hb6.block _ (heap_lt kd)).trans kd
  have hL6:=hL5.below hb6
  have hQ6:=hQ5.below hb6
  have hA2:=below_alloc W6 (.cells #[.slice (some ⟨B2,0,none⟩) 3 cap2] 24)
  have k6:=heap_alloc_new W6 (.cells #[.slice (some ⟨B2,0,none⟩) 3 cap2] 24)
  have hB7:=hB6.trans (hA2.mono hB6.size)
  have kb:=(hA2.block _ (heap_lt ka)).trans ka
  have kd:=(hA2.block _ (heap_lt kc)).trans kc
  have hL7:=hL6.below hA2
  have hQ7:=hQ6.below hA2
  have hR7:=hD2.below hA2
  obtain ⟨p6,hp⟩ : ∃ p,p = W6.heap.size:=⟨_,rfl⟩
  rw [← hp] at k6
  clear hb6 hA2 ka kc hL6 hQ6 hD2 hB5 hB6 hL5 hQ5
  have y1:=c1_of kb
  have HCC : Hid (checkC (qs.map Rq.r) = 0):=by unfold Hid;rw [HM.out];exact (all_right HZ.out).1
  have hc:=newestC_any (some ⟨B,0,none⟩) cap qs (W6.alloc (.cells #[.slice (some ⟨B2,0,none⟩) 3 cap2] 24)) (hg.below hB7) hQ7.here (by omega) hcb
  rw [hqa,HCC.out] at hc
  go_wp2_with fail
  rw [← hp]
  clear hp
  generalize W6.alloc (.cells #[.slice (some ⟨B2,0,none⟩) 3 cap2] 24) = W7 at *
  refine hc.mono ?_
  clear hc y1
  rintro e W8 ⟨n0,rfl,hn0,hb8⟩
  obtain rfl : n0 = 0:=by
    have e1:=hn0.out (by trivial)
    have e2 : bestI (qs.map Rq.r) = 0:=by rw [HM.out];exact all_best
    have e3:=best_map qs
    rw [hqa] at e3
    omega
  clear hn0
  have hB8:=hB7.trans (hb8.mono hB7.size)
  have ka:=(hb8.block _ (heap_lt kb)).trans kb
  have kc:=(hb8.block _ (heap_lt kd)).trans kd
  have k8:=(hb8.block _ (heap_lt k6)).trans k6
  have hL8:=hL7.below hb8
  have hQ8:=hQ7.below hb8
  have hR8:=hR7.below hb8
  clear hb8 hB7 kb kd k6 hL7 hQ7 hR7
  have y1:=c1_of ka
  have y2:=c1_of k8
  have hc:=sameCluster_any (some ⟨B,0,none⟩) cap qs (some ⟨B2,0,none⟩) cap2 q2 W8 hQ8.here hR8.here (by omega)
  rw [hqa,hq2] at hc
  go_wp2_with fail
  refine hc.mono ?_
  clear hc y1 y2
  rintro e W9 ⟨r,rfl,hr,hb9⟩
  obtain rfl : r = true:=hr.2 HM2.out.symm
  have hB9:=hB8.trans (hb9.mono hB8.size)
  have kb:=(hb9.block _ (heap_lt ka)).trans ka
  have kd:=(hb9.block _ (heap_lt kc)).trans kc
  have hL9:=hL8.below hb9
  have hQ9:=hQ8.below hb9
  clear hb9 hB8 ka kc k8 hL8 hQ8 hR8 hr
  have y1:=c1_of kb
  have hc:=checkC_any (some ⟨B,0,none⟩) cap qs W9 (hg.below hB9) hQ9.here (by omega) hcb
  rw [hqa,HCC.out] at hc
  go_wp2_with fail
  refine hc.mono ?_
  clear hc y1
  rintro e W10 ⟨rfl,hb10⟩
  have hB10:=hB9.trans (hb10.mono hB9.size)
  have ka:=(hb10.block _ (heap_lt kb)).trans kb
  have kc:=(hb10.block _ (heap_lt kd)).trans kd
  have hL10:=hL9.below hb10
  have hQ10:=hQ9.below hb10
  clear hb10 hB9 kb kd hL9 hQ9
  have y1:=c1_of ka
  have y2:=c1_of kc
  obtain ⟨b0,o0,e0,hBl,hq⟩:=hQ10.here 0 (by omega)
  cases e0
  obtain ⟨hq0,hH0⟩:=hq 0 (by omega)
  have z0:=hq0.x0
  have z1:=hq0.x1
  have z2:=hq0.x2
  have z3:=hq0.x3
  have z4:=hq0.x4
  have z5:=hq0.x5
  have z6:=hq0.x6
  simp only [Nat.zero_mul,Nat.zero_add] at z0 z1 z2 z3 z4 z5 z6
  clear hq hq0
  have hA2:=below_alloc W10 qs[0].blk
  have k7:=heap_alloc_new W10 qs[0].blk
  have hB11:=hB10.trans (hA2.mono hB10.size)
  have kb:=(hA2.block _ (heap_lt ka)).trans ka
  have kd:=(hA2.block _ (heap_lt kc)).trans kc
  have hL11:=hL10.below hA2
  have hQ11:=hQ10.below hA2
  have hH11:=hH0.below hA2
  obtain ⟨p7,hp⟩ : ∃ p,p = W10.heap.size:=⟨_,rfl⟩
  rw [← hp] at k7
  clear hA2 hL10 hQ10 hH0 hB10
  go_wp2_with fail
  rw [← hp]
  clear hp z0 z1 z2 z3 z4 z5 z6 y1 y2 ka kc
  generalize W10.alloc qs[0].blk = W11 at *
  have hl8 : qs[0].r.l.length ≤ 8:=by
    have e:=(checkC_iff.1 HCC.out).2.1 0 (by omega)
    rw [← rOf_q rfl (by omega)] at e
    exact (rep_small e).2.2.1
  obtain ⟨m,hm⟩ : ∃ m,m = qs[0].r.l:=⟨_,rfl⟩
  have HMR : Hid (m = qs[0].r.l):=hm
  have h6:=hH11.hl
  have y7:=(c7_of k7).2.1
  rw [← hm] at h6 hl8
  rw [← hm] at y7
  clear hm
  go_loopw [12,13] (fun v i wr=>∃ k : Nat,i = .int .i64 k ∧ k ≤ m.length ∧ wr.ownsRow W11.heap.size 3 1 v k (((m.take k).map Rf.id).map (Value.int .i64)) ∧ Below W11.heap.size W11 wr) (fun _ i _=>m.length - (intOf i).toNat)
  case atStart=>exact ⟨0,rfl,Nat.zero_le _,World.ownsRow_nil _ _ _ _,Below.refl _ _⟩
  case round =>
    obtain ⟨k,rfl,hk,HO,hB⟩:=hrel
    have y7:=(hB.cell (p:=⟨p7,1,none⟩) (heap_lt k7)).trans y7
    by_cases hlt : k < m.length
    · obtain ⟨b, off, e7, hb, hcc⟩ := h6 k hlt
      have x1:=(hcc k hlt).2
      have hlt' : (k : Int) < (m.length : Int):=by omega
      rw [e7] at y7
      have y0:=(hB.cell (p:=⟨b,off + k * 2 + 1,none⟩) hb).trans x1
      clear hcc x1
      obtain ⟨g',cap',w',hr,HN,hgr⟩:=ids_next HO (by omega) hB.size m[k].id 45
      have hB2 : Below W11.heap.size W11 w':=hB.grown hgr hB.size (fun g e=>(HO.lt g e).1)
      have HF : Hid (w'.ownsRow W11.heap.size 3 1 (.slice g' (k + 1) cap') (k + 1) (((m.take (k + 1)).map Rf.id).map (Value.int .i64))):=by
        unfold Hid
        rw [List.take_succ_eq_append_getElem hlt,List.map_append]
        exact HN
      clear HN hgr hB HO
      go_wp2_with (show wpList _ _ _ ({dst:=some 117,op:=_,type:=_,pos:=_,after:=_,guard:=_} :: _) _ _;refine id ?roundEnd)
      refine wpList_append27 rfl (.tmp 109) (.tmp 116) rfl _ _ (by rfl) (by rfl) hr ?go
      simp only [Act.put,List.setIfInBounds_toArray,List.set_cons_zero,List.set_cons_succ]
      clear hr y0 y7
      go_wp2
      go_roundw
      case rel=>exact ⟨k + 1,by go_num,by omega,HF.out,hB2⟩
      case measure=>simp [intOf];omega
    · obtain rfl : k = m.length := by omega
      rw [List.take_length] at HO
      obtain ⟨g',cap',e',hh,_⟩:=own_shape (L:=m.map Rf.id) HO (by simp)
      subst e'
      have HMEN : Hid (∀ i (hi : i < qs.length),qs[i].r = menR (l.map Rq.r) i):=fun i hi=>by
        rw [rOf_q HM.out hi];exact rOf_l3 _ (by omega)
      have HTIPS : Hid (m.map Rf.id = tipsOf (l.map Rq.r)):=by
        unfold Hid tipsOf
        rw [HMR.out,HMEN.out 0 (by omega),men_l (allE_zero HZ.out).1 (by decide)]
      have hE0 : reachE qs[0].r.s (m.map Rf.id) = 0:=by
        rw [HTIPS.out,HMEN.out 0 (by omega)];exact (all_part HZ.out (by decide)).1
      have hB12:=hB11.trans (hB.mono hB11.size)
      have ka:=(hB.block _ (heap_lt kb)).trans kb
      have kc:=(hB.block _ (heap_lt kd)).trans kd
      have k8:=(hB.block _ (heap_lt k7)).trans k7
      have hL12:=hL11.below hB
      have hQ12:=hQ11.below hB
      have hH12:=hH11.below hB
      have z0:=(c7_of k8).1
      have hc:=part_any qs[0].aS qs[0].cs qs[0].r.s g' cap' (m.map Rf.id) wr hH12.hs hH12.ns hh (by rw [List.length_map];omega)
      rw [List.length_map] at hc
      have hlt' : ¬ ((m.length : Int) < (m.length : Int)):=by omega
      clear HO hB kb kd k7 hL11 hQ11 hH11 hB11 h6
      go_wp2_with fail
      refine hc.mono ?_
      clear hc z0 y7
      rintro e W12 ⟨hb12,⟨hne,-⟩ | ⟨-,aP,cP,rfl,hP⟩⟩
      · exact absurd hE0 hne
      have HWANT : Hid (∀ i (hi : i < qs.length),reachE qs[i].r.s (m.map Rf.id) = 0 ∧ (menB (l.map Rq.r) i = true → partL qs[i].r.s (m.map Rf.id) = partL qs[0].r.s (m.map Rf.id))):=fun i hi=>by
        rw [HTIPS.out,HMEN.out 0 (by omega),HMEN.out i hi];exact all_part HZ.out (by omega)
      have hB13:=hB12.trans (hb12.mono hB12.size)
      have kb:=(hb12.block _ (heap_lt ka)).trans ka
      have kd:=(hb12.block _ (heap_lt kc)).trans kc
      have k7:=(hb12.block _ (heap_lt k8)).trans k8
      have hL13:=hL12.below hb12
      have hQ13:=hQ12.below hb12
      have hH13:=hH12.below hb12
      have hh13:=hh.below hb12
      obtain ⟨PL,hPL⟩ : ∃ PL,PL = partL qs[0].r.s (m.map Rf.id):=⟨_,rfl⟩
      have HPL : Hid (PL = partL qs[0].r.s (m.map Rf.id)):=hPL
      rw [← hPL] at hP ⊢
      clear hPL hE0 hb12 hB12 ka kc k8 hL12 hQ12 hH12 hh
      go_wp2_with fail
      go_loopw [15] (fun i wr=>∃ k : Nat,i = .int .i64 k ∧ k ≤ 3 ∧ Below W12.heap.size W12 wr) (fun i _=>3 - (intOf i).toNat)
      case atStart=>exact ⟨0,rfl,Nat.zero_le _,Below.refl _ _⟩
      case round =>
        obtain ⟨k,rfl,hk,hB⟩:=hrel
        have hBr:=hB13.trans (hB.mono hB13.size)
        have ka:=(hB.block _ (heap_lt kb)).trans kb
        have kc:=(hB.block _ (heap_lt kd)).trans kd
        have k8:=(hB.block _ (heap_lt k7)).trans k7
        have hLr:=hL13.below hB
        have hQr:=hQ13.below hB
        have hHr:=hH13.below hB
        have hhr:=hh13.below hB
        have hPr:=hP.below hB
        have y1:=c1_of ka
        by_cases hlt : k < 3
        · have hlt' : (k : Int) < 3 := by omega
          have hq1 : k < qs.length:=by omega
          have hq2 : k < l.length:=by omega
          obtain ⟨b1,o1,e1,hBl1,hq⟩:=hQr.here k hq1
          cases e1
          obtain ⟨hqk,hHk⟩:=hq k hq1
          have z0:=hqk.x0
          have z1:=hqk.x1
          have z2:=hqk.x2
          have z3:=hqk.x3
          have z4:=hqk.x4
          have z5:=hqk.x5
          have z6:=hqk.x6
          simp only [Nat.zero_add] at z0 z1 z2 z3 z4 z5 z6
          have hA2:=below_alloc wr qs[k].blk
          have kq:=heap_alloc_new wr qs[k].blk
          have hB14:=hBr.trans (hA2.mono hBr.size)
          have kb':=(hA2.block _ (heap_lt ka)).trans ka
          have kd':=(hA2.block _ (heap_lt kc)).trans kc
          have k7':=(hA2.block _ (heap_lt k8)).trans k8
          have hLs:=hLr.below hA2
          have hHs:=hHr.below hA2
          have hHks:=hHk.below hA2
          have hhs:=hhr.below hA2
          have hPs:=hPr.below hA2
          have hBs:=hB.trans (hA2.mono hB.size)
          obtain ⟨pq,hp⟩ : ∃ p,p = wr.heap.size:=⟨_,rfl⟩
          rw [← hp] at kq
          have HW:=HWANT.out k hq1
          have HW1 : Hid (menB (l.map Rq.r) k = true → partL qs[k].r.s (m.map Rf.id) = partL qs[0].r.s (m.map Rf.id)):=HW.2
          have hc:=part_any qs[k].aS qs[k].cs qs[k].r.s g' cap' (m.map Rf.id) _ hHks.hs hHks.ns hhs (by rw [List.length_map];omega)
          rw [List.length_map] at hc
          have HW2 : Hid (reachE qs[k].r.s (m.map Rf.id) = 0):=HW.1
          clear HW hA2 hq hqk ka kc k8 hLr hQr hHr hHk hhr hPr hB hBr
          go_wp2_with fail
          rw [← hp]
          clear hp z0 z1 z2 z3 z4 z5 z6 y1
          generalize wr.alloc qs[k].blk = W13 at *
          refine hc.mono ?_
          clear hc
          rintro e W14 ⟨hb14,⟨hne,-⟩ | ⟨-,aK,cK,rfl,hK⟩⟩
          · exact absurd HW2.out hne
          have hB15:=hB14.trans (hb14.mono hB14.size)
          have kd2:=(hb14.block _ (heap_lt kd')).trans kd'
          have k72:=(hb14.block _ (heap_lt k7')).trans k7'
          have kq2:=(hb14.block _ (heap_lt kq)).trans kq
          have hLt:=hLs.below hb14
          have hPt:=hPs.below hb14
          have hKt:=hK
          have hR0:=hHs.hl.below hb14
          have hRk:=hHks.hl.below hb14
          have hnk:=hHks.nl
          have hBs2:=hBs.trans (hb14.mono hBs.size)
          have hgg : (qs[k].r.g != qs[0].r.g) = false:=by
            rw [HMEN.out k hq1,HMEN.out 0 (by omega),men_g,men_g];simp
          have HSL : Hid (qs[k].r.l = qs[0].r.l):=by
            unfold Hid
            rw [HMEN.out k hq1,HMEN.out 0 (by omega),men_l (allE_zero HZ.out).1 (by omega),men_l (allE_zero HZ.out).1 (by decide)]
          have HLT : Hid (l[k].r.g < qs[0].r.g → partL qs[k].r.s (m.map Rf.id) = PL):=fun q=>by
            rw [HPL.out]
            refine HW1.out ?_
            rw [HMEN.out 0 (by omega),men_g,rOf_q rfl hq2] at q
            unfold menB
            simp only [Bool.not_eq_eq_eq_not,Bool.not_true,beq_eq_false_iff_ne]
            omega
          have hnp : (partL qs[k].r.s (m.map Rf.id)).length ≤ 9223372036854775807:=Nat.le_trans (partL_length _ _) hHks.ns
          clear hb14 hB14 kd' k7' kq kb' hLs hHs hHks hhs hPs hBs hK hB13 kb kd k7 hL13 hQ13 hH13 hh13 hP hBl1
          by_cases hlt2 : l[k].r.g < qs[0].r.g
          · have HEQ : Hid (partL qs[k].r.s (m.map Rf.id) = PL) := HLT.out hlt2
            clear HLT
            go_wp2_with fail
            have hd_1:=below_refl_drew W14
            have hB_2:=hB15.trans (hd_1.mono hB15.size)
            have C_3:=(hd_1.block _ (heap_lt kd2)).trans kd2
            have B_4:=(hd_1.block _ (heap_lt k72)).trans k72
            have Q_5:=(hd_1.block _ (heap_lt kq2)).trans kq2
            have HL_6:=hLt.below hd_1
            have HK_7:=hKt.below hd_1
            have HP_8:=hPt.below hd_1
            have R0_9:=hR0.below hd_1
            have RK_10:=hRk.below hd_1
            have hb_11:=hBs2.trans (hd_1.mono hBs2.size)
            have hs_12:=hd_1.size
            clear kd2 k72 kq2 hLt hKt hPt hR0 hRk hBs2 hd_1 hB15
            refine wp_region_E (fun W=>(W.heap[w.heap.size]? = some ((.cells #[.slice (some ⟨al,ol,none⟩) 3 c] 24))) ∧ (W.heap[p7]? = some ((Rq.blk qs[0]))) ∧ (W.heap[pq]? = some ((Rq.blk qs[k]))) ∧ (HoldsQ W (some ⟨al,ol,none⟩) l)) (fun _=>false) (by kernel_rfl) ⟨C_3,B_4,Q_5,HL_6⟩ (fun hS=>?_)
            clear hS
            generalize W14.drew = W_13 at *
            refine wpAnyE.take (i:=0) (v:=?_) rfl (by kernel_rfl) (by kernel_rfl) (by kernel_rfl) (by kernel_rfl) (fun _ _ _ h=>h) (Or.inl ⟨by rfl,?_⟩) ⟨C_3,B_4,Q_5,HL_6⟩ ?_
            rotate_left
            · intro w hSw;obtain ⟨f1,f2,f3,f4⟩:=hSw;have d0:=c1_of f1;obtain ⟨e0,e1,e2,e3,e4,e5,e6⟩:=c7_of f3;obtain ⟨g0,g1,g2,g3,g4,g5,g6⟩:=c7_of f2;have x2:=(f4.at hq2).1.x2;clear f4;go_simp;with_reducible rfl
            try simp only [Act.put,uA,uC,uD,uE,uF]
            refine wpAnyE.take (i:=2) (v:=?_) rfl (by kernel_rfl) (by kernel_rfl) (by kernel_rfl) (by kernel_rfl) (fun _ _ _ h=>h) (Or.inl ⟨by rfl,?_⟩) ⟨C_3,B_4,Q_5,HL_6⟩ ?_
            rotate_left
            · intro w hSw;obtain ⟨f1,f2,f3,f4⟩:=hSw;have d0:=c1_of f1;obtain ⟨e0,e1,e2,e3,e4,e5,e6⟩:=c7_of f3;obtain ⟨g0,g1,g2,g3,g4,g5,g6⟩:=c7_of f2;have x2:=(f4.at hq2).1.x2;clear f4;go_simp;with_reducible rfl
            try simp only [Act.put,uA,uB,uC,uD,uE,uF]
            refine wpAnyE.take (i:=1) (v:=?_) rfl (by kernel_rfl) (by kernel_rfl) (by kernel_rfl) (by kernel_rfl) (fun _ _ _ h=>h) (Or.inl ⟨by rfl,?_⟩) ⟨C_3,B_4,Q_5,HL_6⟩ ?_
            rotate_left
            · intro w hSw;obtain ⟨f1,f2,f3,f4⟩:=hSw;have d0:=c1_of f1;obtain ⟨e0,e1,e2,e3,e4,e5,e6⟩:=c7_of f3;obtain ⟨g0,g1,g2,g3,g4,g5,g6⟩:=c7_of f2;have x2:=(f4.at hq2).1.x2;clear f4;go_simp;with_reducible rfl
            try simp only [Act.put,uA,uB,uC,uD,uE,uF]
            refine wpAnyE.take (i:=3) (v:=?_) rfl (by kernel_rfl) (by kernel_rfl) (by kernel_rfl) (by kernel_rfl) (fun _ _ _ h=>h) (Or.inl ⟨by rfl,?_⟩) ⟨C_3,B_4,Q_5,HL_6⟩ ?_
            rotate_left
            · intro w hSw;obtain ⟨f1,f2,f3,f4⟩:=hSw;have d0:=c1_of f1;obtain ⟨e0,e1,e2,e3,e4,e5,e6⟩:=c7_of f3;obtain ⟨g0,g1,g2,g3,g4,g5,g6⟩:=c7_of f2;have x2:=(f4.at hq2).1.x2;clear f4;go_simp;with_reducible rfl
            try simp only [Act.put,uA,uB,uC,uD,uE,uF]
            refine wpAnyE.take (i:=4) (v:=?_) rfl (by kernel_rfl) (by kernel_rfl) (by kernel_rfl) (by kernel_rfl) (fun _ _ _ h=>h) (Or.inl ⟨by rfl,?_⟩) ⟨C_3,B_4,Q_5,HL_6⟩ ?_
            rotate_left
            · intro w hSw;obtain ⟨f1,f2,f3,f4⟩:=hSw;have d0:=c1_of f1;obtain ⟨e0,e1,e2,e3,e4,e5,e6⟩:=c7_of f3;obtain ⟨g0,g1,g2,g3,g4,g5,g6⟩:=c7_of f2;have x2:=(f4.at hq2).1.x2;clear f4;go_simp;with_reducible rfl
            try simp only [Act.put,uA,uB,uC,uD,uE,uF]
            refine wpAnyE.take (i:=5) (v:=?_) rfl (by kernel_rfl) (by kernel_rfl) (by kernel_rfl) (by kernel_rfl) (fun _ _ _ h=>h) (Or.inl ⟨by rfl,?_⟩) ⟨C_3,B_4,Q_5,HL_6⟩ ?_
            rotate_left
            · intro w hSw;obtain ⟨f1,f2,f3,f4⟩:=hSw;have d0:=c1_of f1;obtain ⟨e0,e1,e2,e3,e4,e5,e6⟩:=c7_of f3;obtain ⟨g0,g1,g2,g3,g4,g5,g6⟩:=c7_of f2;have x2:=(f4.at hq2).1.x2;clear f4;go_simp;with_reducible rfl
            try simp only [Act.put,uA,uB,uC,uD,uE,uF]
            refine wpAnyE.take (i:=6) (v:=?_) rfl (by kernel_rfl) (by kernel_rfl) (by kernel_rfl) (by kernel_rfl) (fun _ _ _ h=>h) (Or.inl ⟨by rfl,?_⟩) ⟨C_3,B_4,Q_5,HL_6⟩ ?_
            rotate_left
            · intro w hSw;obtain ⟨f1,f2,f3,f4⟩:=hSw;have d0:=c1_of f1;obtain ⟨e0,e1,e2,e3,e4,e5,e6⟩:=c7_of f3;obtain ⟨g0,g1,g2,g3,g4,g5,g6⟩:=c7_of f2;have x2:=(f4.at hq2).1.x2;clear f4;go_simp;with_reducible rfl
            try simp only [Act.put,uA,uB,uC,uD,uE,uF]
            refine wpAnyE.take (i:=8) (v:=?_) rfl (by kernel_rfl) (by kernel_rfl) (by kernel_rfl) (by kernel_rfl) (fun _ _ _ h=>h) (Or.inl ⟨by rfl,?_⟩) ⟨C_3,B_4,Q_5,HL_6⟩ ?_
            rotate_left
            · intro w hSw;obtain ⟨f1,f2,f3,f4⟩:=hSw;have d0:=c1_of f1;obtain ⟨e0,e1,e2,e3,e4,e5,e6⟩:=c7_of f3;obtain ⟨g0,g1,g2,g3,g4,g5,g6⟩:=c7_of f2;have x2:=(f4.at hq2).1.x2;clear f4;go_simp;with_reducible rfl
            try simp only [Act.put,uA,uB,uC,uD,uE,uF]
            refine wpAnyE.take (i:=7) (v:=?_) rfl (by kernel_rfl) (by kernel_rfl) (by kernel_rfl) (by kernel_rfl) (fun _ _ _ h=>h) (Or.inl ⟨by rfl,?_⟩) ⟨C_3,B_4,Q_5,HL_6⟩ ?_
            rotate_left
            · intro w hSw;obtain ⟨f1,f2,f3,f4⟩:=hSw;have d0:=c1_of f1;obtain ⟨e0,e1,e2,e3,e4,e5,e6⟩:=c7_of f3;obtain ⟨g0,g1,g2,g3,g4,g5,g6⟩:=c7_of f2;have x2:=(f4.at hq2).1.x2;clear f4;go_simp;with_reducible rfl
            try simp only [Act.put,uA,uB,uC,uD,uE,uF]
            refine wpAnyE.take (i:=9) (v:=?_) rfl (by kernel_rfl) (by kernel_rfl) (by kernel_rfl) (by kernel_rfl) (fun _ _ _ h=>h) (Or.inl ⟨by rfl,?_⟩) ⟨C_3,B_4,Q_5,HL_6⟩ ?_
            rotate_left
            · intro w hSw;obtain ⟨f1,f2,f3,f4⟩:=hSw;have d0:=c1_of f1;obtain ⟨e0,e1,e2,e3,e4,e5,e6⟩:=c7_of f3;obtain ⟨g0,g1,g2,g3,g4,g5,g6⟩:=c7_of f2;have x2:=(f4.at hq2).1.x2;clear f4;go_simp;with_reducible rfl
            try simp only [Act.put,uA,uB,uC,uD,uE,uF]
            refine wpAnyE.one (i:=10) (by kernel_rfl) rfl (fun K hK=>?_)
            have hcs:=sameRefs_any qs[k].al qs[k].cl qs[k].r.l qs[0].al qs[0].cl qs[0].r.l W_13 RK_10 R0_9 hnk
            go_simp
            refine hcs.mono ?_
            clear hcs
            rintro e W_14 ⟨rr,rfl,hrr,h⟩
            obtain rfl : rr = true:=hrr.2 HSL.out
            clear hrr
            have hB_15:=hB_2.trans (h.mono hB_2.size)
            have C_16:=(h.block _ (heap_lt C_3)).trans C_3
            have B_17:=(h.block _ (heap_lt B_4)).trans B_4
            have Q_18:=(h.block _ (heap_lt Q_5)).trans Q_5
            have HL_19:=HL_6.below h
            have HK_20:=HK_7.below h
            have HP_21:=HP_8.below h
            have R0_22:=R0_9.below h
            have RK_23:=RK_10.below h
            have hb_24:=hb_11.trans (h.mono hb_11.size)
            have hs_25:=h.size
            clear C_3 B_4 Q_5 HL_6 HK_7 HP_8 R0_9 RK_10 hb_11 h hB_2
            refine hK _ _ (fun _=>⟨C_16,B_17,Q_18,HL_19⟩) ?_
            clear hK K
            try simp only [Act.put,uA,uB,uC,uD,uE,uF]
            refine wpAnyE.take (i:=11) (v:=?_) rfl (by kernel_rfl) (by kernel_rfl) (by kernel_rfl) (by kernel_rfl) (fun _ _ _ h=>h) (Or.inl ⟨by rfl,?_⟩) ⟨C_16,B_17,Q_18,HL_19⟩ ?_
            rotate_left
            · intro w hSw;obtain ⟨f1,f2,f3,f4⟩:=hSw;have d0:=c1_of f1;obtain ⟨e0,e1,e2,e3,e4,e5,e6⟩:=c7_of f3;obtain ⟨g0,g1,g2,g3,g4,g5,g6⟩:=c7_of f2;have x2:=(f4.at hq2).1.x2;clear f4;go_simp;with_reducible rfl
            try simp only [Act.put,uA,uB,uC,uD,uE,uF]
            refine wpAnyE.take (i:=12) (v:=?_) rfl (by kernel_rfl) (by kernel_rfl) (by kernel_rfl) (by kernel_rfl) (fun _ _ _ h=>h) (Or.inl ⟨by rfl,?_⟩) ⟨C_16,B_17,Q_18,HL_19⟩ ?_
            rotate_left
            · intro w hSw;obtain ⟨f1,f2,f3,f4⟩:=hSw;have d0:=c1_of f1;obtain ⟨e0,e1,e2,e3,e4,e5,e6⟩:=c7_of f3;obtain ⟨g0,g1,g2,g3,g4,g5,g6⟩:=c7_of f2;have x2:=(f4.at hq2).1.x2;clear f4;go_simp;with_reducible rfl
            try simp only [Act.put,uA,uB,uC,uD,uE,uF]
            refine wpAnyE.take (i:=13) (v:=?_) rfl (by kernel_rfl) (by kernel_rfl) (by kernel_rfl) (by kernel_rfl) (fun _ _ _ h=>h) (Or.inl ⟨by rfl,?_⟩) ⟨C_16,B_17,Q_18,HL_19⟩ ?_
            rotate_left
            · intro w hSw;obtain ⟨f1,f2,f3,f4⟩:=hSw;have d0:=c1_of f1;obtain ⟨e0,e1,e2,e3,e4,e5,e6⟩:=c7_of f3;obtain ⟨g0,g1,g2,g3,g4,g5,g6⟩:=c7_of f2;have x2:=(f4.at hq2).1.x2;clear f4;go_simp;with_reducible rfl
            try simp only [Act.put,uA,uB,uC,uD,uE,uF]
            refine wpAnyE.take (i:=14) (v:=?_) rfl (by kernel_rfl) (by kernel_rfl) (by kernel_rfl) (by kernel_rfl) (fun _ _ _ h=>h) (Or.inl ⟨by rfl,?_⟩) ⟨C_16,B_17,Q_18,HL_19⟩ ?_
            rotate_left
            · intro w hSw;obtain ⟨f1,f2,f3,f4⟩:=hSw;have d0:=c1_of f1;obtain ⟨e0,e1,e2,e3,e4,e5,e6⟩:=c7_of f3;obtain ⟨g0,g1,g2,g3,g4,g5,g6⟩:=c7_of f2;have x2:=(f4.at hq2).1.x2;clear f4;go_simp;with_reducible rfl
            try simp only [Act.put,uA,uB,uC,uD,uE,uF]
            refine wpAnyE.take (i:=15) (v:=?_) rfl (by kernel_rfl) (by kernel_rfl) (by kernel_rfl) (by kernel_rfl) (fun _ _ _ h=>h) (Or.inl ⟨by rfl,?_⟩) ⟨C_16,B_17,Q_18,HL_19⟩ ?_
            rotate_left
            · intro w hSw;obtain ⟨f1,f2,f3,f4⟩:=hSw;have d0:=c1_of f1;obtain ⟨e0,e1,e2,e3,e4,e5,e6⟩:=c7_of f3;obtain ⟨g0,g1,g2,g3,g4,g5,g6⟩:=c7_of f2;have x2:=(f4.at hq2).1.x2;clear f4;go_simp;with_reducible rfl
            try simp only [Act.put,uA,uB,uC,uD,uE,uF]
            refine wpAnyE.take (i:=16) (v:=?_) rfl (by kernel_rfl) (by kernel_rfl) (by kernel_rfl) (by kernel_rfl) (fun _ _ _ h=>h) (Or.inl ⟨by rfl,?_⟩) ⟨C_16,B_17,Q_18,HL_19⟩ ?_
            rotate_left
            · intro w hSw;obtain ⟨f1,f2,f3,f4⟩:=hSw;have d0:=c1_of f1;obtain ⟨e0,e1,e2,e3,e4,e5,e6⟩:=c7_of f3;obtain ⟨g0,g1,g2,g3,g4,g5,g6⟩:=c7_of f2;have x2:=(f4.at hq2).1.x2;clear f4;go_simp;with_reducible rfl
            try simp only [Act.put,uA,uB,uC,uD,uE,uF]
            refine wpAnyE.take (i:=17) (v:=?_) rfl (by kernel_rfl) (by kernel_rfl) (by kernel_rfl) (by kernel_rfl) (fun _ _ _ h=>h) (Or.inl ⟨by rfl,?_⟩) ⟨C_16,B_17,Q_18,HL_19⟩ ?_
            rotate_left
            · intro w hSw;obtain ⟨f1,f2,f3,f4⟩:=hSw;have d0:=c1_of f1;obtain ⟨e0,e1,e2,e3,e4,e5,e6⟩:=c7_of f3;obtain ⟨g0,g1,g2,g3,g4,g5,g6⟩:=c7_of f2;have x2:=(f4.at hq2).1.x2;clear f4;go_simp;with_reducible rfl
            try simp only [Act.put,uA,uB,uC,uD,uE,uF]
            refine wpAnyE.take (i:=18) (v:=?_) rfl (by kernel_rfl) (by kernel_rfl) (by kernel_rfl) (by kernel_rfl) (fun _ _ _ h=>h) (Or.inl ⟨by rfl,?_⟩) ⟨C_16,B_17,Q_18,HL_19⟩ ?_
            rotate_left
            · intro w hSw;obtain ⟨f1,f2,f3,f4⟩:=hSw;have d0:=c1_of f1;obtain ⟨e0,e1,e2,e3,e4,e5,e6⟩:=c7_of f3;obtain ⟨g0,g1,g2,g3,g4,g5,g6⟩:=c7_of f2;have x2:=(f4.at hq2).1.x2;clear f4;go_simp;with_reducible rfl
            try simp only [Act.put,uA,uB,uC,uD,uE,uF]
            refine wpAnyE.take (i:=20) (v:=?_) rfl (by kernel_rfl) (by kernel_rfl) (by kernel_rfl) (by kernel_rfl) (fun _ _ _ h=>h) (Or.inl ⟨by rfl,?_⟩) ⟨C_16,B_17,Q_18,HL_19⟩ ?_
            rotate_left
            · intro w hSw;obtain ⟨f1,f2,f3,f4⟩:=hSw;have d0:=c1_of f1;obtain ⟨e0,e1,e2,e3,e4,e5,e6⟩:=c7_of f3;obtain ⟨g0,g1,g2,g3,g4,g5,g6⟩:=c7_of f2;have x2:=(f4.at hq2).1.x2;clear f4;go_simp;with_reducible rfl
            try simp only [Act.put,uA,uB,uC,uD,uE,uF]
            refine wpAnyE.take (i:=24) (v:=?_) rfl (by kernel_rfl) (by kernel_rfl) (by kernel_rfl) (by kernel_rfl) (fun _ _ _ h=>h) (Or.inl ⟨by rfl,?_⟩) ⟨C_16,B_17,Q_18,HL_19⟩ ?_
            rotate_left
            · intro w hSw;obtain ⟨f1,f2,f3,f4⟩:=hSw;have d0:=c1_of f1;obtain ⟨e0,e1,e2,e3,e4,e5,e6⟩:=c7_of f3;obtain ⟨g0,g1,g2,g3,g4,g5,g6⟩:=c7_of f2;have x2:=(f4.at hq2).1.x2;clear f4;go_simp;with_reducible rfl
            try simp only [Act.put,uA,uB,uC,uD,uE,uF]
            refine wpAnyE.take (i:=19) (v:=?_) rfl (by kernel_rfl) (by kernel_rfl) (by kernel_rfl) (by kernel_rfl) (fun _ _ _ h=>h) (Or.inl ⟨by rfl,?_⟩) ⟨C_16,B_17,Q_18,HL_19⟩ ?_
            rotate_left
            · intro w hSw;obtain ⟨f1,f2,f3,f4⟩:=hSw;have d0:=c1_of f1;obtain ⟨e0,e1,e2,e3,e4,e5,e6⟩:=c7_of f3;obtain ⟨g0,g1,g2,g3,g4,g5,g6⟩:=c7_of f2;have x2:=(f4.at hq2).1.x2;clear f4;go_simp;with_reducible rfl
            try simp only [Act.put,uA,uB,uC,uD,uE,uF]
            refine wpAnyE.take (i:=25) (v:=?_) rfl (by kernel_rfl) (by kernel_rfl) (by kernel_rfl) (by kernel_rfl) (fun _ _ _ h=>h) (Or.inl ⟨by rfl,?_⟩) ⟨C_16,B_17,Q_18,HL_19⟩ ?_
            rotate_left
            · intro w hSw;obtain ⟨f1,f2,f3,f4⟩:=hSw;have d0:=c1_of f1;obtain ⟨e0,e1,e2,e3,e4,e5,e6⟩:=c7_of f3;obtain ⟨g0,g1,g2,g3,g4,g5,g6⟩:=c7_of f2;have x2:=(f4.at hq2).1.x2;clear f4;go_simp;with_reducible rfl
            try simp only [Act.put,uA,uB,uC,uD,uE,uF]
            refine wpAnyE.take (i:=21) (v:=?_) rfl (by kernel_rfl) (by kernel_rfl) (by kernel_rfl) (by kernel_rfl) (fun _ _ _ h=>h) (Or.inl ⟨by rfl,?_⟩) ⟨C_16,B_17,Q_18,HL_19⟩ ?_
            rotate_left
            · intro w hSw;obtain ⟨f1,f2,f3,f4⟩:=hSw;have d0:=c1_of f1;obtain ⟨e0,e1,e2,e3,e4,e5,e6⟩:=c7_of f3;obtain ⟨g0,g1,g2,g3,g4,g5,g6⟩:=c7_of f2;have x2:=(f4.at hq2).1.x2;clear f4;go_simp;with_reducible rfl
            try simp only [Act.put,uA,uB,uC,uD,uE,uF]
            refine wpAnyE.take (i:=22) (v:=?_) rfl (by kernel_rfl) (by kernel_rfl) (by kernel_rfl) (by kernel_rfl) (fun _ _ _ h=>h) (Or.inl ⟨by rfl,?_⟩) ⟨C_16,B_17,Q_18,HL_19⟩ ?_
            rotate_left
            · intro w hSw;obtain ⟨f1,f2,f3,f4⟩:=hSw;have d0:=c1_of f1;obtain ⟨e0,e1,e2,e3,e4,e5,e6⟩:=c7_of f3;obtain ⟨g0,g1,g2,g3,g4,g5,g6⟩:=c7_of f2;have x2:=(f4.at hq2).1.x2;clear f4;go_simp;with_reducible rfl
            try simp only [Act.put,uA,uB,uC,uD,uE,uF]
            refine wpAnyE.take (i:=23) (v:=?_) rfl (by kernel_rfl) (by kernel_rfl) (by kernel_rfl) (by kernel_rfl) (fun _ _ _ h=>h) (Or.inl ⟨by rfl,?_⟩) ⟨C_16,B_17,Q_18,HL_19⟩ ?_
            rotate_left
            · intro w hSw;obtain ⟨f1,f2,f3,f4⟩:=hSw;have d0:=c1_of f1;obtain ⟨e0,e1,e2,e3,e4,e5,e6⟩:=c7_of f3;obtain ⟨g0,g1,g2,g3,g4,g5,g6⟩:=c7_of f2;have x2:=(f4.at hq2).1.x2;clear f4;go_simp;with_reducible rfl
            try simp only [Act.put,uA,uB,uC,uD,uE,uF]
            refine wpAnyE.take (i:=26) (v:=?_) rfl (by kernel_rfl) (by kernel_rfl) (by kernel_rfl) (by kernel_rfl) (fun _ _ _ h=>h) (Or.inl ⟨by rfl,?_⟩) ⟨C_16,B_17,Q_18,HL_19⟩ ?_
            rotate_left
            · intro w hSw;obtain ⟨f1,f2,f3,f4⟩:=hSw;have d0:=c1_of f1;obtain ⟨e0,e1,e2,e3,e4,e5,e6⟩:=c7_of f3;obtain ⟨g0,g1,g2,g3,g4,g5,g6⟩:=c7_of f2;have x2:=(f4.at hq2).1.x2;clear f4;go_simp;with_reducible rfl
            try simp only [Act.put,uA,uB,uC,uD,uE,uF]
            refine wpAnyE.take (i:=27) (v:=?_) rfl (by kernel_rfl) (by kernel_rfl) (by kernel_rfl) (by kernel_rfl) (fun _ _ _ h=>h) (Or.inl ⟨by rfl,?_⟩) ⟨C_16,B_17,Q_18,HL_19⟩ ?_
            rotate_left
            · intro w hSw;obtain ⟨f1,f2,f3,f4⟩:=hSw;have d0:=c1_of f1;obtain ⟨e0,e1,e2,e3,e4,e5,e6⟩:=c7_of f3;obtain ⟨g0,g1,g2,g3,g4,g5,g6⟩:=c7_of f2;have x2:=(f4.at hq2).1.x2;clear f4;go_simp;with_reducible rfl
            try simp only [Act.put,uA,uB,uC,uD,uE,uF]
            refine wpAnyE.take (i:=28) (v:=?_) rfl (by kernel_rfl) (by kernel_rfl) (by kernel_rfl) (by kernel_rfl) (fun _ _ _ h=>h) (Or.inl ⟨by rfl,?_⟩) ⟨C_16,B_17,Q_18,HL_19⟩ ?_
            rotate_left
            · intro w hSw;obtain ⟨f1,f2,f3,f4⟩:=hSw;have d0:=c1_of f1;obtain ⟨e0,e1,e2,e3,e4,e5,e6⟩:=c7_of f3;obtain ⟨g0,g1,g2,g3,g4,g5,g6⟩:=c7_of f2;have x2:=(f4.at hq2).1.x2;clear f4;go_simp;with_reducible rfl
            try simp only [Act.put,uA,uB,uC,uD,uE,uF]
            refine wpAnyE.take (i:=29) (v:=?_) rfl (by kernel_rfl) (by kernel_rfl) (by kernel_rfl) (by kernel_rfl) (fun _ _ _ h=>h) (Or.inl ⟨by rfl,?_⟩) ⟨C_16,B_17,Q_18,HL_19⟩ ?_
            rotate_left
            · intro w hSw;obtain ⟨f1,f2,f3,f4⟩:=hSw;have d0:=c1_of f1;obtain ⟨e0,e1,e2,e3,e4,e5,e6⟩:=c7_of f3;obtain ⟨g0,g1,g2,g3,g4,g5,g6⟩:=c7_of f2;have x2:=(f4.at hq2).1.x2;clear f4;go_simp;with_reducible rfl
            try simp only [Act.put,uA,uB,uC,uD,uE,uF]
            refine wpAnyE.one (i:=30) (by kernel_rfl) rfl (fun K hK=>?_)
            have hcs:=sameStore_any aK cK (partL qs[k].r.s (m.map Rf.id)) aP cP PL W_14 HK_20 HP_21 hnp
            go_simp
            refine hcs.mono ?_
            clear hcs
            rintro e W_26 ⟨rr,rfl,hrr,h⟩
            obtain rfl : rr = true:=hrr.2 HEQ.out
            clear hrr
            have hB_27:=hB_15.trans (h.mono hB_15.size)
            have C_28:=(h.block _ (heap_lt C_16)).trans C_16
            have B_29:=(h.block _ (heap_lt B_17)).trans B_17
            have Q_30:=(h.block _ (heap_lt Q_18)).trans Q_18
            have HL_31:=HL_19.below h
            have HK_32:=HK_20.below h
            have HP_33:=HP_21.below h
            have R0_34:=R0_22.below h
            have RK_35:=RK_23.below h
            have hb_36:=hb_24.trans (h.mono hb_24.size)
            have hs_37:=h.size
            clear C_16 B_17 Q_18 HL_19 HK_20 HP_21 R0_22 RK_23 hb_24 h hB_15
            refine hK _ _ (fun _=>⟨C_28,B_29,Q_30,HL_31⟩) ?_
            clear hK K
            try simp only [Act.put,uA,uB,uC,uD,uE,uF]
            refine wpAnyE.take (i:=31) (v:=?_) rfl (by kernel_rfl) (by kernel_rfl) (by kernel_rfl) (by kernel_rfl) (fun _ _ _ h=>h) (Or.inl ⟨by rfl,?_⟩) ⟨C_28,B_29,Q_30,HL_31⟩ ?_
            rotate_left
            · intro w hSw;obtain ⟨f1,f2,f3,f4⟩:=hSw;have d0:=c1_of f1;obtain ⟨e0,e1,e2,e3,e4,e5,e6⟩:=c7_of f3;obtain ⟨g0,g1,g2,g3,g4,g5,g6⟩:=c7_of f2;have x2:=(f4.at hq2).1.x2;clear f4;go_simp;with_reducible rfl
            try simp only [Act.put,uA,uB,uC,uD,uE,uF]
            refine wpAnyE.take (i:=32) (v:=?_) rfl (by kernel_rfl) (by kernel_rfl) (by kernel_rfl) (by kernel_rfl) (fun _ _ _ h=>h) (Or.inl ⟨by rfl,?_⟩) ⟨C_28,B_29,Q_30,HL_31⟩ ?_
            rotate_left
            · intro w hSw;obtain ⟨f1,f2,f3,f4⟩:=hSw;have d0:=c1_of f1;obtain ⟨e0,e1,e2,e3,e4,e5,e6⟩:=c7_of f3;obtain ⟨g0,g1,g2,g3,g4,g5,g6⟩:=c7_of f2;have x2:=(f4.at hq2).1.x2;clear f4;go_simp;with_reducible rfl
            try simp only [Act.put,uA,uB,uC,uD,uE,uF]
            refine wpAnyE.take (i:=33) (v:=?_) rfl (by kernel_rfl) (by kernel_rfl) (by kernel_rfl) (by kernel_rfl) (fun _ _ _ h=>h) (Or.inl ⟨by rfl,?_⟩) ⟨C_28,B_29,Q_30,HL_31⟩ ?_
            rotate_left
            · intro w hSw;obtain ⟨f1,f2,f3,f4⟩:=hSw;have d0:=c1_of f1;obtain ⟨e0,e1,e2,e3,e4,e5,e6⟩:=c7_of f3;obtain ⟨g0,g1,g2,g3,g4,g5,g6⟩:=c7_of f2;have x2:=(f4.at hq2).1.x2;clear f4;go_simp;with_reducible rfl
            try simp only [Act.put,uA,uB,uC,uD,uE,uF]
            refine wpAnyE.done (by kernel_rfl) ?_
            go_wp2
            go_roundw
            case rel=>exact ⟨k + 1,by go_num,by omega,hb_36⟩
            case measure=>simp [intOf];omega
          · have hltF : decide (l[k].r.g < qs[0].r.g) = false := decide_eq_false hlt2
            clear HLT hlt2
            go_wp2_with fail
            have hd_1:=below_refl_drew W14
            have hB_2:=hB15.trans (hd_1.mono hB15.size)
            have C_3:=(hd_1.block _ (heap_lt kd2)).trans kd2
            have B_4:=(hd_1.block _ (heap_lt k72)).trans k72
            have Q_5:=(hd_1.block _ (heap_lt kq2)).trans kq2
            have HL_6:=hLt.below hd_1
            have HK_7:=hKt.below hd_1
            have HP_8:=hPt.below hd_1
            have R0_9:=hR0.below hd_1
            have RK_10:=hRk.below hd_1
            have hb_11:=hBs2.trans (hd_1.mono hBs2.size)
            have hs_12:=hd_1.size
            clear kd2 k72 kq2 hLt hKt hPt hR0 hRk hBs2 hd_1 hB15
            refine wp_region_E (fun W=>(W.heap[w.heap.size]? = some ((.cells #[.slice (some ⟨al,ol,none⟩) 3 c] 24))) ∧ (W.heap[p7]? = some ((Rq.blk qs[0]))) ∧ (W.heap[pq]? = some ((Rq.blk qs[k]))) ∧ (HoldsQ W (some ⟨al,ol,none⟩) l)) (fun _=>false) (by kernel_rfl) ⟨C_3,B_4,Q_5,HL_6⟩ (fun hS=>?_)
            clear hS
            generalize W14.drew = W_13 at *
            refine wpAnyE.take (i:=0) (v:=?_) rfl (by kernel_rfl) (by kernel_rfl) (by kernel_rfl) (by kernel_rfl) (fun _ _ _ h=>h) (Or.inl ⟨by rfl,?_⟩) ⟨C_3,B_4,Q_5,HL_6⟩ ?_
            rotate_left
            · intro w hSw;obtain ⟨f1,f2,f3,f4⟩:=hSw;have d0:=c1_of f1;obtain ⟨e0,e1,e2,e3,e4,e5,e6⟩:=c7_of f3;obtain ⟨g0,g1,g2,g3,g4,g5,g6⟩:=c7_of f2;have x2:=(f4.at hq2).1.x2;clear f4;go_simp;with_reducible rfl
            try simp only [Act.put,uA,uC,uD,uE,uF]
            refine wpAnyE.take (i:=2) (v:=?_) rfl (by kernel_rfl) (by kernel_rfl) (by kernel_rfl) (by kernel_rfl) (fun _ _ _ h=>h) (Or.inl ⟨by rfl,?_⟩) ⟨C_3,B_4,Q_5,HL_6⟩ ?_
            rotate_left
            · intro w hSw;obtain ⟨f1,f2,f3,f4⟩:=hSw;have d0:=c1_of f1;obtain ⟨e0,e1,e2,e3,e4,e5,e6⟩:=c7_of f3;obtain ⟨g0,g1,g2,g3,g4,g5,g6⟩:=c7_of f2;have x2:=(f4.at hq2).1.x2;clear f4;go_simp;with_reducible rfl
            try simp only [Act.put,uA,uB,uC,uD,uE,uF]
            refine wpAnyE.take (i:=1) (v:=?_) rfl (by kernel_rfl) (by kernel_rfl) (by kernel_rfl) (by kernel_rfl) (fun _ _ _ h=>h) (Or.inl ⟨by rfl,?_⟩) ⟨C_3,B_4,Q_5,HL_6⟩ ?_
            rotate_left
            · intro w hSw;obtain ⟨f1,f2,f3,f4⟩:=hSw;have d0:=c1_of f1;obtain ⟨e0,e1,e2,e3,e4,e5,e6⟩:=c7_of f3;obtain ⟨g0,g1,g2,g3,g4,g5,g6⟩:=c7_of f2;have x2:=(f4.at hq2).1.x2;clear f4;go_simp;with_reducible rfl
            try simp only [Act.put,uA,uB,uC,uD,uE,uF]
            refine wpAnyE.take (i:=3) (v:=?_) rfl (by kernel_rfl) (by kernel_rfl) (by kernel_rfl) (by kernel_rfl) (fun _ _ _ h=>h) (Or.inl ⟨by rfl,?_⟩) ⟨C_3,B_4,Q_5,HL_6⟩ ?_
            rotate_left
            · intro w hSw;obtain ⟨f1,f2,f3,f4⟩:=hSw;have d0:=c1_of f1;obtain ⟨e0,e1,e2,e3,e4,e5,e6⟩:=c7_of f3;obtain ⟨g0,g1,g2,g3,g4,g5,g6⟩:=c7_of f2;have x2:=(f4.at hq2).1.x2;clear f4;go_simp;with_reducible rfl
            try simp only [Act.put,uA,uB,uC,uD,uE,uF]
            refine wpAnyE.take (i:=4) (v:=?_) rfl (by kernel_rfl) (by kernel_rfl) (by kernel_rfl) (by kernel_rfl) (fun _ _ _ h=>h) (Or.inl ⟨by rfl,?_⟩) ⟨C_3,B_4,Q_5,HL_6⟩ ?_
            rotate_left
            · intro w hSw;obtain ⟨f1,f2,f3,f4⟩:=hSw;have d0:=c1_of f1;obtain ⟨e0,e1,e2,e3,e4,e5,e6⟩:=c7_of f3;obtain ⟨g0,g1,g2,g3,g4,g5,g6⟩:=c7_of f2;have x2:=(f4.at hq2).1.x2;clear f4;go_simp;with_reducible rfl
            try simp only [Act.put,uA,uB,uC,uD,uE,uF]
            refine wpAnyE.take (i:=5) (v:=?_) rfl (by kernel_rfl) (by kernel_rfl) (by kernel_rfl) (by kernel_rfl) (fun _ _ _ h=>h) (Or.inl ⟨by rfl,?_⟩) ⟨C_3,B_4,Q_5,HL_6⟩ ?_
            rotate_left
            · intro w hSw;obtain ⟨f1,f2,f3,f4⟩:=hSw;have d0:=c1_of f1;obtain ⟨e0,e1,e2,e3,e4,e5,e6⟩:=c7_of f3;obtain ⟨g0,g1,g2,g3,g4,g5,g6⟩:=c7_of f2;have x2:=(f4.at hq2).1.x2;clear f4;go_simp;with_reducible rfl
            try simp only [Act.put,uA,uB,uC,uD,uE,uF]
            refine wpAnyE.take (i:=6) (v:=?_) rfl (by kernel_rfl) (by kernel_rfl) (by kernel_rfl) (by kernel_rfl) (fun _ _ _ h=>h) (Or.inl ⟨by rfl,?_⟩) ⟨C_3,B_4,Q_5,HL_6⟩ ?_
            rotate_left
            · intro w hSw;obtain ⟨f1,f2,f3,f4⟩:=hSw;have d0:=c1_of f1;obtain ⟨e0,e1,e2,e3,e4,e5,e6⟩:=c7_of f3;obtain ⟨g0,g1,g2,g3,g4,g5,g6⟩:=c7_of f2;have x2:=(f4.at hq2).1.x2;clear f4;go_simp;with_reducible rfl
            try simp only [Act.put,uA,uB,uC,uD,uE,uF]
            refine wpAnyE.take (i:=8) (v:=?_) rfl (by kernel_rfl) (by kernel_rfl) (by kernel_rfl) (by kernel_rfl) (fun _ _ _ h=>h) (Or.inl ⟨by rfl,?_⟩) ⟨C_3,B_4,Q_5,HL_6⟩ ?_
            rotate_left
            · intro w hSw;obtain ⟨f1,f2,f3,f4⟩:=hSw;have d0:=c1_of f1;obtain ⟨e0,e1,e2,e3,e4,e5,e6⟩:=c7_of f3;obtain ⟨g0,g1,g2,g3,g4,g5,g6⟩:=c7_of f2;have x2:=(f4.at hq2).1.x2;clear f4;go_simp;with_reducible rfl
            try simp only [Act.put,uA,uB,uC,uD,uE,uF]
            refine wpAnyE.take (i:=7) (v:=?_) rfl (by kernel_rfl) (by kernel_rfl) (by kernel_rfl) (by kernel_rfl) (fun _ _ _ h=>h) (Or.inl ⟨by rfl,?_⟩) ⟨C_3,B_4,Q_5,HL_6⟩ ?_
            rotate_left
            · intro w hSw;obtain ⟨f1,f2,f3,f4⟩:=hSw;have d0:=c1_of f1;obtain ⟨e0,e1,e2,e3,e4,e5,e6⟩:=c7_of f3;obtain ⟨g0,g1,g2,g3,g4,g5,g6⟩:=c7_of f2;have x2:=(f4.at hq2).1.x2;clear f4;go_simp;with_reducible rfl
            try simp only [Act.put,uA,uB,uC,uD,uE,uF]
            refine wpAnyE.take (i:=9) (v:=?_) rfl (by kernel_rfl) (by kernel_rfl) (by kernel_rfl) (by kernel_rfl) (fun _ _ _ h=>h) (Or.inl ⟨by rfl,?_⟩) ⟨C_3,B_4,Q_5,HL_6⟩ ?_
            rotate_left
            · intro w hSw;obtain ⟨f1,f2,f3,f4⟩:=hSw;have d0:=c1_of f1;obtain ⟨e0,e1,e2,e3,e4,e5,e6⟩:=c7_of f3;obtain ⟨g0,g1,g2,g3,g4,g5,g6⟩:=c7_of f2;have x2:=(f4.at hq2).1.x2;clear f4;go_simp;with_reducible rfl
            try simp only [Act.put,uA,uB,uC,uD,uE,uF]
            refine wpAnyE.one (i:=10) (by kernel_rfl) rfl (fun K hK=>?_)
            have hcs:=sameRefs_any qs[k].al qs[k].cl qs[k].r.l qs[0].al qs[0].cl qs[0].r.l W_13 RK_10 R0_9 hnk
            go_simp
            refine hcs.mono ?_
            clear hcs
            rintro e W_14 ⟨rr,rfl,hrr,h⟩
            obtain rfl : rr = true:=hrr.2 HSL.out
            clear hrr
            have hB_15:=hB_2.trans (h.mono hB_2.size)
            have C_16:=(h.block _ (heap_lt C_3)).trans C_3
            have B_17:=(h.block _ (heap_lt B_4)).trans B_4
            have Q_18:=(h.block _ (heap_lt Q_5)).trans Q_5
            have HL_19:=HL_6.below h
            have HK_20:=HK_7.below h
            have HP_21:=HP_8.below h
            have R0_22:=R0_9.below h
            have RK_23:=RK_10.below h
            have hb_24:=hb_11.trans (h.mono hb_11.size)
            have hs_25:=h.size
            clear C_3 B_4 Q_5 HL_6 HK_7 HP_8 R0_9 RK_10 hb_11 h hB_2
            refine hK _ _ (fun _=>⟨C_16,B_17,Q_18,HL_19⟩) ?_
            clear hK K
            try simp only [Act.put,uA,uB,uC,uD,uE,uF]
            refine wpAnyE.take (i:=11) (v:=?_) rfl (by kernel_rfl) (by kernel_rfl) (by kernel_rfl) (by kernel_rfl) (fun _ _ _ h=>h) (Or.inl ⟨by rfl,?_⟩) ⟨C_16,B_17,Q_18,HL_19⟩ ?_
            rotate_left
            · intro w hSw;obtain ⟨f1,f2,f3,f4⟩:=hSw;have d0:=c1_of f1;obtain ⟨e0,e1,e2,e3,e4,e5,e6⟩:=c7_of f3;obtain ⟨g0,g1,g2,g3,g4,g5,g6⟩:=c7_of f2;have x2:=(f4.at hq2).1.x2;clear f4;go_simp;with_reducible rfl
            try simp only [Act.put,uA,uB,uC,uD,uE,uF]
            refine wpAnyE.take (i:=12) (v:=?_) rfl (by kernel_rfl) (by kernel_rfl) (by kernel_rfl) (by kernel_rfl) (fun _ _ _ h=>h) (Or.inl ⟨by rfl,?_⟩) ⟨C_16,B_17,Q_18,HL_19⟩ ?_
            rotate_left
            · intro w hSw;obtain ⟨f1,f2,f3,f4⟩:=hSw;have d0:=c1_of f1;obtain ⟨e0,e1,e2,e3,e4,e5,e6⟩:=c7_of f3;obtain ⟨g0,g1,g2,g3,g4,g5,g6⟩:=c7_of f2;have x2:=(f4.at hq2).1.x2;clear f4;go_simp;with_reducible rfl
            try simp only [Act.put,uA,uB,uC,uD,uE,uF]
            refine wpAnyE.take (i:=13) (v:=?_) rfl (by kernel_rfl) (by kernel_rfl) (by kernel_rfl) (by kernel_rfl) (fun _ _ _ h=>h) (Or.inl ⟨by rfl,?_⟩) ⟨C_16,B_17,Q_18,HL_19⟩ ?_
            rotate_left
            · intro w hSw;obtain ⟨f1,f2,f3,f4⟩:=hSw;have d0:=c1_of f1;obtain ⟨e0,e1,e2,e3,e4,e5,e6⟩:=c7_of f3;obtain ⟨g0,g1,g2,g3,g4,g5,g6⟩:=c7_of f2;have x2:=(f4.at hq2).1.x2;clear f4;go_simp;with_reducible rfl
            try simp only [Act.put,uA,uB,uC,uD,uE,uF]
            refine wpAnyE.take (i:=14) (v:=?_) rfl (by kernel_rfl) (by kernel_rfl) (by kernel_rfl) (by kernel_rfl) (fun _ _ _ h=>h) (Or.inl ⟨by rfl,?_⟩) ⟨C_16,B_17,Q_18,HL_19⟩ ?_
            rotate_left
            · intro w hSw;obtain ⟨f1,f2,f3,f4⟩:=hSw;have d0:=c1_of f1;obtain ⟨e0,e1,e2,e3,e4,e5,e6⟩:=c7_of f3;obtain ⟨g0,g1,g2,g3,g4,g5,g6⟩:=c7_of f2;have x2:=(f4.at hq2).1.x2;clear f4;go_simp;with_reducible rfl
            try simp only [Act.put,uA,uB,uC,uD,uE,uF]
            refine wpAnyE.take (i:=15) (v:=?_) rfl (by kernel_rfl) (by kernel_rfl) (by kernel_rfl) (by kernel_rfl) (fun _ _ _ h=>h) (Or.inl ⟨by rfl,?_⟩) ⟨C_16,B_17,Q_18,HL_19⟩ ?_
            rotate_left
            · intro w hSw;obtain ⟨f1,f2,f3,f4⟩:=hSw;have d0:=c1_of f1;obtain ⟨e0,e1,e2,e3,e4,e5,e6⟩:=c7_of f3;obtain ⟨g0,g1,g2,g3,g4,g5,g6⟩:=c7_of f2;have x2:=(f4.at hq2).1.x2;clear f4;go_simp;with_reducible rfl
            try simp only [Act.put,uA,uB,uC,uD,uE,uF]
            refine wpAnyE.take (i:=16) (v:=?_) rfl (by kernel_rfl) (by kernel_rfl) (by kernel_rfl) (by kernel_rfl) (fun _ _ _ h=>h) (Or.inl ⟨by rfl,?_⟩) ⟨C_16,B_17,Q_18,HL_19⟩ ?_
            rotate_left
            · intro w hSw;obtain ⟨f1,f2,f3,f4⟩:=hSw;have d0:=c1_of f1;obtain ⟨e0,e1,e2,e3,e4,e5,e6⟩:=c7_of f3;obtain ⟨g0,g1,g2,g3,g4,g5,g6⟩:=c7_of f2;have x2:=(f4.at hq2).1.x2;clear f4;go_simp;with_reducible rfl
            try simp only [Act.put,uA,uB,uC,uD,uE,uF]
            refine wpAnyE.take (i:=17) (v:=?_) rfl (by kernel_rfl) (by kernel_rfl) (by kernel_rfl) (by kernel_rfl) (fun _ _ _ h=>h) (Or.inl ⟨by rfl,?_⟩) ⟨C_16,B_17,Q_18,HL_19⟩ ?_
            rotate_left
            · intro w hSw;obtain ⟨f1,f2,f3,f4⟩:=hSw;have d0:=c1_of f1;obtain ⟨e0,e1,e2,e3,e4,e5,e6⟩:=c7_of f3;obtain ⟨g0,g1,g2,g3,g4,g5,g6⟩:=c7_of f2;have x2:=(f4.at hq2).1.x2;clear f4;go_simp;with_reducible rfl
            try simp only [Act.put,uA,uB,uC,uD,uE,uF]
            refine wpAnyE.take (i:=18) (v:=?_) rfl (by kernel_rfl) (by kernel_rfl) (by kernel_rfl) (by kernel_rfl) (fun _ _ _ h=>h) (Or.inl ⟨by rfl,?_⟩) ⟨C_16,B_17,Q_18,HL_19⟩ ?_
            rotate_left
            · intro w hSw;obtain ⟨f1,f2,f3,f4⟩:=hSw;have d0:=c1_of f1;obtain ⟨e0,e1,e2,e3,e4,e5,e6⟩:=c7_of f3;obtain ⟨g0,g1,g2,g3,g4,g5,g6⟩:=c7_of f2;have x2:=(f4.at hq2).1.x2;clear f4;go_simp;with_reducible rfl
            try simp only [Act.put,uA,uB,uC,uD,uE,uF]
            refine wpAnyE.take (i:=20) (v:=?_) rfl (by kernel_rfl) (by kernel_rfl) (by kernel_rfl) (by kernel_rfl) (fun _ _ _ h=>h) (Or.inl ⟨by rfl,?_⟩) ⟨C_16,B_17,Q_18,HL_19⟩ ?_
            rotate_left
            · intro w hSw;obtain ⟨f1,f2,f3,f4⟩:=hSw;have d0:=c1_of f1;obtain ⟨e0,e1,e2,e3,e4,e5,e6⟩:=c7_of f3;obtain ⟨g0,g1,g2,g3,g4,g5,g6⟩:=c7_of f2;have x2:=(f4.at hq2).1.x2;clear f4;go_simp;with_reducible rfl
            try simp only [Act.put,uA,uB,uC,uD,uE,uF]
            refine wpAnyE.take (i:=24) (v:=?_) rfl (by kernel_rfl) (by kernel_rfl) (by kernel_rfl) (by kernel_rfl) (fun _ _ _ h=>h) (Or.inl ⟨by rfl,?_⟩) ⟨C_16,B_17,Q_18,HL_19⟩ ?_
            rotate_left
            · intro w hSw;obtain ⟨f1,f2,f3,f4⟩:=hSw;have d0:=c1_of f1;obtain ⟨e0,e1,e2,e3,e4,e5,e6⟩:=c7_of f3;obtain ⟨g0,g1,g2,g3,g4,g5,g6⟩:=c7_of f2;have x2:=(f4.at hq2).1.x2;clear f4;go_simp;with_reducible rfl
            try simp only [Act.put,uA,uB,uC,uD,uE,uF]
            refine wpAnyE.take (i:=19) (v:=?_) rfl (by kernel_rfl) (by kernel_rfl) (by kernel_rfl) (by kernel_rfl) (fun _ _ _ h=>h) (Or.inl ⟨by rfl,?_⟩) ⟨C_16,B_17,Q_18,HL_19⟩ ?_
            rotate_left
            · intro w hSw;obtain ⟨f1,f2,f3,f4⟩:=hSw;have d0:=c1_of f1;obtain ⟨e0,e1,e2,e3,e4,e5,e6⟩:=c7_of f3;obtain ⟨g0,g1,g2,g3,g4,g5,g6⟩:=c7_of f2;have x2:=(f4.at hq2).1.x2;clear f4;go_simp;with_reducible rfl
            try simp only [Act.put,uA,uB,uC,uD,uE,uF]
            refine wpAnyE.take (i:=25) (v:=?_) rfl (by kernel_rfl) (by kernel_rfl) (by kernel_rfl) (by kernel_rfl) (fun _ _ _ h=>h) (Or.inl ⟨by rfl,?_⟩) ⟨C_16,B_17,Q_18,HL_19⟩ ?_
            rotate_left
            · intro w hSw;obtain ⟨f1,f2,f3,f4⟩:=hSw;have d0:=c1_of f1;obtain ⟨e0,e1,e2,e3,e4,e5,e6⟩:=c7_of f3;obtain ⟨g0,g1,g2,g3,g4,g5,g6⟩:=c7_of f2;have x2:=(f4.at hq2).1.x2;clear f4;go_simp;with_reducible rfl
            try simp only [Act.put,uA,uB,uC,uD,uE,uF]
            refine wpAnyE.take (i:=21) (v:=?_) rfl (by kernel_rfl) (by kernel_rfl) (by kernel_rfl) (by kernel_rfl) (fun _ _ _ h=>h) (Or.inl ⟨by rfl,?_⟩) ⟨C_16,B_17,Q_18,HL_19⟩ ?_
            rotate_left
            · intro w hSw;obtain ⟨f1,f2,f3,f4⟩:=hSw;have d0:=c1_of f1;obtain ⟨e0,e1,e2,e3,e4,e5,e6⟩:=c7_of f3;obtain ⟨g0,g1,g2,g3,g4,g5,g6⟩:=c7_of f2;have x2:=(f4.at hq2).1.x2;clear f4;go_simp;with_reducible rfl
            try simp only [Act.put,uA,uB,uC,uD,uE,uF]
            refine wpAnyE.take (i:=22) (v:=?_) rfl (by kernel_rfl) (by kernel_rfl) (by kernel_rfl) (by kernel_rfl) (fun _ _ _ h=>h) (Or.inl ⟨by rfl,?_⟩) ⟨C_16,B_17,Q_18,HL_19⟩ ?_
            rotate_left
            · intro w hSw;obtain ⟨f1,f2,f3,f4⟩:=hSw;have d0:=c1_of f1;obtain ⟨e0,e1,e2,e3,e4,e5,e6⟩:=c7_of f3;obtain ⟨g0,g1,g2,g3,g4,g5,g6⟩:=c7_of f2;have x2:=(f4.at hq2).1.x2;clear f4;go_simp;with_reducible rfl
            try simp only [Act.put,uA,uB,uC,uD,uE,uF]
            refine wpAnyE.take (i:=23) (v:=?_) rfl (by kernel_rfl) (by kernel_rfl) (by kernel_rfl) (by kernel_rfl) (fun _ _ _ h=>h) (Or.inl ⟨by rfl,?_⟩) ⟨C_16,B_17,Q_18,HL_19⟩ ?_
            rotate_left
            · intro w hSw;obtain ⟨f1,f2,f3,f4⟩:=hSw;have d0:=c1_of f1;obtain ⟨e0,e1,e2,e3,e4,e5,e6⟩:=c7_of f3;obtain ⟨g0,g1,g2,g3,g4,g5,g6⟩:=c7_of f2;have x2:=(f4.at hq2).1.x2;clear f4;go_simp;with_reducible rfl
            try simp only [Act.put,uA,uB,uC,uD,uE,uF]
            refine wpAnyE.take (i:=26) (v:=?_) rfl (by kernel_rfl) (by kernel_rfl) (by kernel_rfl) (by kernel_rfl) (fun _ _ _ h=>h) (Or.inl ⟨by rfl,?_⟩) ⟨C_16,B_17,Q_18,HL_19⟩ ?_
            rotate_left
            · intro w hSw;obtain ⟨f1,f2,f3,f4⟩:=hSw;have d0:=c1_of f1;obtain ⟨e0,e1,e2,e3,e4,e5,e6⟩:=c7_of f3;obtain ⟨g0,g1,g2,g3,g4,g5,g6⟩:=c7_of f2;have x2:=(f4.at hq2).1.x2;clear f4;go_simp;with_reducible rfl
            try simp only [Act.put,uA,uB,uC,uD,uE,uF]
            refine wpAnyE.take (i:=27) (v:=?_) rfl (by kernel_rfl) (by kernel_rfl) (by kernel_rfl) (by kernel_rfl) (fun _ _ _ h=>h) (Or.inl ⟨by rfl,?_⟩) ⟨C_16,B_17,Q_18,HL_19⟩ ?_
            rotate_left
            · intro w hSw;obtain ⟨f1,f2,f3,f4⟩:=hSw;have d0:=c1_of f1;obtain ⟨e0,e1,e2,e3,e4,e5,e6⟩:=c7_of f3;obtain ⟨g0,g1,g2,g3,g4,g5,g6⟩:=c7_of f2;have x2:=(f4.at hq2).1.x2;clear f4;go_simp;with_reducible rfl
            try simp only [Act.put,uA,uB,uC,uD,uE,uF]
            refine wpAnyE.take (i:=28) (v:=undef) rfl (by kernel_rfl) (by kernel_rfl) (by kernel_rfl) (by kernel_rfl) (fun _ _ _ h=>h) (Or.inr ⟨by rfl,rfl⟩) ⟨C_16,B_17,Q_18,HL_19⟩ ?_
            try simp only [Act.put,uA,uB,uC,uD,uE,uF]
            refine wpAnyE.take (i:=29) (v:=undef) rfl (by kernel_rfl) (by kernel_rfl) (by kernel_rfl) (by kernel_rfl) (fun _ _ _ h=>h) (Or.inr ⟨by rfl,rfl⟩) ⟨C_16,B_17,Q_18,HL_19⟩ ?_
            try simp only [Act.put,uA,uB,uC,uD,uE,uF]
            refine wpAnyE.take (i:=30) (v:=undef) rfl (by kernel_rfl) (by kernel_rfl) (by kernel_rfl) (by kernel_rfl) (fun _ _ _ h=>h) (Or.inr ⟨by rfl,rfl⟩) ⟨C_16,B_17,Q_18,HL_19⟩ ?_
            try simp only [Act.put,uA,uB,uC,uD,uE,uF]
            refine wpAnyE.take (i:=31) (v:=undef) rfl (by kernel_rfl) (by kernel_rfl) (by kernel_rfl) (by kernel_rfl) (fun _ _ _ h=>h) (Or.inr ⟨by rfl,rfl⟩) ⟨C_16,B_17,Q_18,HL_19⟩ ?_
            try simp only [Act.put,uA,uB,uC,uD,uE,uF]
            refine wpAnyE.take (i:=32) (v:=?_) rfl (by kernel_rfl) (by kernel_rfl) (by kernel_rfl) (by kernel_rfl) (fun _ _ _ h=>h) (Or.inl ⟨by rfl,?_⟩) ⟨C_16,B_17,Q_18,HL_19⟩ ?_
            rotate_left
            · intro w hSw;obtain ⟨f1,f2,f3,f4⟩:=hSw;have d0:=c1_of f1;obtain ⟨e0,e1,e2,e3,e4,e5,e6⟩:=c7_of f3;obtain ⟨g0,g1,g2,g3,g4,g5,g6⟩:=c7_of f2;have x2:=(f4.at hq2).1.x2;clear f4;go_simp;with_reducible rfl
            try simp only [Act.put,uA,uB,uC,uD,uE,uF]
            refine wpAnyE.take (i:=33) (v:=?_) rfl (by kernel_rfl) (by kernel_rfl) (by kernel_rfl) (by kernel_rfl) (fun _ _ _ h=>h) (Or.inl ⟨by rfl,?_⟩) ⟨C_16,B_17,Q_18,HL_19⟩ ?_
            rotate_left
            · intro w hSw;obtain ⟨f1,f2,f3,f4⟩:=hSw;have d0:=c1_of f1;obtain ⟨e0,e1,e2,e3,e4,e5,e6⟩:=c7_of f3;obtain ⟨g0,g1,g2,g3,g4,g5,g6⟩:=c7_of f2;have x2:=(f4.at hq2).1.x2;clear f4;go_simp;with_reducible rfl
            try simp only [Act.put,uA,uB,uC,uD,uE,uF]
            refine wpAnyE.done (by kernel_rfl) ?_
            go_wp2
            go_roundw
            case rel=>exact ⟨k + 1,by go_num,by omega,hb_24⟩
            case measure=>simp [intOf];omega
        · clear kb kd k7 hL13 hQ13 hH13 hh13 hP kc k8 hLr hQr hHr hhr hPr
          go_wp2
          go_ret
          exact ⟨rfl,hBr⟩
end Go.Proofs.YtehmlpkapjdhkaaGreatDoor
