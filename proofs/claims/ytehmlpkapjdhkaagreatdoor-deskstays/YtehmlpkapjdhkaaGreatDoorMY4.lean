import Derived.Test.YtehmlpkapjdhkaaGreatDoorML5
import Derived.Deep.CutRange
namespace Go.Proofs.YtehmlpkapjdhkaaGreatDoor
open Go.RowKit
set_option maxRecDepth 100000
def c0L : List Rp:=[rpD,rpD,rpD]
def c1L : List Rp:=eL c0L firstL firstU false 3 0
theorem beg_p1 : pE c0L firstL firstU false 3 0 = 0:=by decide +kernel
theorem beg_d1 : doI c0L firstL firstU false 3 0 = true:=by decide +kernel
theorem beg_g1 : (rOf c1L 1).g = 1:=by decide +kernel
theorem beg_g2 : (rOf c1L 2).g = 0:=by decide +kernel
theorem beg_p2 : pE c1L firstL firstU false 7 0 = 0:=by decide +kernel
theorem beg_d2 : doI c1L firstL firstU false 7 0 = false:=by decide +kernel
theorem beg_p3 : pE c0L firstL firstU false 7 3 = 0:=by decide +kernel
theorem beg_d3 : doI c0L firstL firstU false 7 3 = false:=by decide +kernel
theorem beg_c : checkC c1L = 0:=(pushed beg_p1).right
theorem beg_e2 : eL c1L firstL firstU false 7 0 = c1L:=(pushed beg_p2).same beg_d2
theorem beg_b : bestTo (gOf c1L) 3 = 0:=by decide +kernel
theorem rOf_len {qs : List Rq} {l : List Rp} (h : qs.map Rq.r = l) (hl : l.length = 3) : qs.length = 3:=by rw [← hl,← h,List.length_map]
theorem rOf_q {qs : List Rq} {l : List Rp} (h : qs.map Rq.r = l) {i : Nat} (hi : i < qs.length) : qs[i].r = rOf l i:=by
  rw [← h];simp [rOf,hi]
theorem begPush (a : Option Addr) (c : Nat) (l : List Rq) (L : List Rp) (up late : Int) (d : Bool) (g u : Nat) (w : World) (hg : Glob w) (ht : Tab w) (hL : l.map Rq.r = L) (h3 : L.length = 3) (h : HoldsQ w a l) (hlc : 3 ≤ c) (hcm : c ≤ 9223372036854775807) (hS : HoldsS w (some ⟨g,0,none⟩) firstL) (hU : HoldsU w (some ⟨u,0,none⟩) firstU)
    (hp : pE L firstL firstU false up late = 0) (hd : doI L firstL firstU false up late = d) : Calls Tryz.prog 11 #[.agg #[.slice a 3 c],pushV (some ⟨g,0,none⟩) 3 5 (some ⟨u,0,none⟩) 1 1 false,.int .i64 up,.int .i64 late] w fun e w'=>∃ B cap qs,e = .returned (.tuple #[.agg #[.slice (some ⟨B,0,none⟩) 3 cap],.bool d,.int .i64 0]) ∧ qs.map Rq.r = eL L firstL firstU false up late ∧ Dep w' w.heap.size w'.heap.size (fun W=>HoldsQ W (some ⟨B,0,none⟩) qs) ∧ (3 ≤ cap ∧ cap ≤ 9223372036854775807) ∧ Below w.heap.size w w':=by
  have hl : l.length = 3:=rOf_len hL h3
  have hc:=push_any a c l (some ⟨g,0,none⟩) 5 firstL (some ⟨u,0,none⟩) 1 firstU false up late w hg ht h (by omega) hcm hS (by decide) hU (by decide)
  rw [hl,hL] at hc
  refine hc.mono ?_
  rintro e w' ⟨hb,⟨hno,-⟩ | ⟨-,B,cap,qs,rfl,hM,hD,h1,h2⟩⟩
  · exact absurd hp hno
  · rw [hd];exact ⟨B,cap,qs,rfl,hM,hD,⟨h1,h2⟩,hb⟩
set_option maxHeartbeats 16000000 in
theorem clusterBegun_any (w : World) (hg : Glob w) (ht : Tab w) : Calls Tryz.prog 12 #[] w fun e w'=>e = .returned (.bool true) ∧ Below w.heap.size w w':=by
  have hB:=Below.refl w.heap.size w
  go_enter Tryz.func12,Tryz.ntmps12
  have hc_1:=new_any w
  go_wp2_with fail
  refine hc_1.mono ?_
  clear hc_1
  rintro e w1 ⟨b0,rfl,hq0,h⟩
  have hB_2:=hB.trans (h.mono hB.size)
  have hs_3:=h.size
  clear h hB
  have hc_4:=first_any w1
  go_wp2_with fail
  refine hc_4.mono ?_
  clear hc_4
  rintro e w2 ⟨g1,u1,rfl,hS1,hU1,h⟩
  have hB_5:=hB_2.trans (h.mono hB_2.size)
  have Q0_6:=hq0.below h
  have hs_7:=h.size
  clear hq0 h hB_2
  have hc_8:=begPush (some ⟨b0,0,none⟩) 3 [q0,q0,q0] c0L 3 0 true g1 u1 w2 (hg.below hB_5) (ht.below hB_5) rfl rfl Q0_6 (by decide) (by decide) hS1 hU1 beg_p1 beg_d1
  go_wp2_with fail
  refine hc_8.mono ?_
  clear hc_8
  rintro e w3 ⟨BA,capA,qa,rfl,hMA,hDA,⟨hca,hcb⟩,h⟩
  have hB_9:=hB_5.trans (h.mono hB_5.size)
  have Q0_10:=Q0_6.below h
  have S1_11:=hS1.below h
  have U1_12:=hU1.below h
  have hs_13:=h.size
  clear Q0_6 hS1 hU1 h hB_5
  clear Q0_10 S1_11 U1_12
  have hMA : qa.map Rq.r = c1L:=hMA
  have hA_14:=below_alloc w3 (.cells #[.slice (some ⟨BA,0,none⟩) 3 capA] 24)
  have A_15:=heap_alloc_new w3 (.cells #[.slice (some ⟨BA,0,none⟩) 3 capA] 24)
  obtain ⟨p_16,p_16e⟩ : ∃ p,p = w3.heap.size:=⟨_,rfl⟩
  rw [← p_16e] at A_15
  have hB_17:=hB_9.trans (hA_14.mono hB_9.size)
  have QA_18:=hDA.below hA_14
  have hs_19:=hA_14.size
  clear hDA hA_14 hB_9
  have Ac0:=c1_of A_15
  go_upto_region 2 with fail
  rw [← p_16e]
  clear p_16e
  generalize w3.alloc (.cells #[.slice (some ⟨BA,0,none⟩) 3 capA] 24) = w4 at *
  have hl_20:=heap_lt A_15
  clear Ac0
  go_cut [4,5,6] from 19 to 25 (fun s4 s5 s6 wx=>s5 = .bool false ∧ s6 = .int .i64 0 ∧ ∃ pB BB capB qb,s4 = .pointer (some ⟨pB,0,none⟩) ∧ wx.heap[pB]? = some (.cells #[.slice (some ⟨BB,0,none⟩) 3 capB] 24) ∧ Hid (qb.map Rq.r = c1L) ∧ HoldsQ wx (some ⟨BB,0,none⟩) qb ∧ Below w4.heap.size w4 wx)
  case first =>
    have hB4:=Below.refl w4.heap.size w4
    have hd_21:=below_refl_drew w4
    have hB_22:=hB4.trans (hd_21.mono hB4.size)
    have A_23:=(hd_21.block _ (heap_lt A_15)).trans A_15
    have QA_24:=QA_18.below hd_21
    have hs_25:=hd_21.size
    clear A_15 QA_18 hd_21 hB4
    refine wp_region_E (fun W=>(W.heap[p_16]? = some (.cells #[.slice (some ⟨BA,0,none⟩) 3 capA] 24))) (fun _=>false) (by kernel_rfl) A_23 (fun hS=>?_)
    clear hS
    generalize w4.drew = W_26 at *
    refine wpAnyE.take (i:=0) (v:=?_) rfl (by kernel_rfl) (by kernel_rfl) (by kernel_rfl) (by kernel_rfl) (fun _ _ _ h=>h) (Or.inl ⟨by rfl,?_⟩) A_23 ?_
    rotate_left
    · intro w hSw;have e1:=c1_of hSw;go_simp;with_reducible rfl
    try simp only [Act.put,uA,uC,uD,uE,uF]
    refine wpAnyE.two (i:=1) (j:=7) (by kernel_rfl) rfl rfl (fun K hK=>?_) (fun K hK=>?_)
    · skip
      have hc_27:=first_any W_26
      go_simp
      refine hc_27.mono ?_
      clear hc_27
      rintro e W_28 ⟨g2,u2,rfl,hS2,hU2,h⟩
      have hB_29:=hB_22.trans (h.mono hB_22.size)
      have A_30:=(h.block _ (heap_lt A_23)).trans A_23
      have QA_31:=QA_24.below h
      have hs_32:=h.size
      clear A_23 QA_24 h hB_22
      refine hK _ _ (fun _=>A_30) ?_
      clear hK K
      try simp only [Act.put,uA,uB,uC,uD,uE,uF]
      refine wpAnyE.two (i:=2) (j:=7) (by kernel_rfl) rfl rfl (fun K hK=>?_) (fun K hK=>?_)
      · skip
        have hc_33:=begPush (some ⟨BA,0,none⟩) capA qa c1L 7 0 false g2 u2 W_28 (hg.below (hB_17.trans (hB_29.mono hB_17.size))) (ht.below (hB_17.trans (hB_29.mono hB_17.size))) hMA rfl QA_31.here hca hcb hS2 hU2 beg_p2 beg_d2
        go_simp
        refine hc_33.mono ?_
        clear hc_33
        rintro e W_34 ⟨BB,capB,qb,rfl,hMB,hDB,-,h⟩
        have hB_35:=hB_29.trans (h.mono hB_29.size)
        have A_36:=(h.block _ (heap_lt A_30)).trans A_30
        have QA_37:=QA_31.below h
        have S2_38:=hS2.below h
        have U2_39:=hU2.below h
        have hs_40:=h.size
        clear A_30 QA_31 hS2 hU2 h hB_29
        clear S2_38 U2_39
        refine hK _ _ (fun _=>A_36) ?_
        clear hK K
        try simp only [Act.put,uA,uB,uC,uD,uE,uF]
        refine wpAnyE.take (i:=3) (v:=?_) rfl (by kernel_rfl) (by kernel_rfl) (by kernel_rfl) (by kernel_rfl) (fun _ _ _ h=>h) (Or.inl ⟨by rfl,?_⟩) A_36 ?_
        rotate_left
        · intro w hSw;have e1:=c1_of hSw;go_simp;with_reducible rfl
        try simp only [Act.put,uA,uB,uC,uD,uE,uF]
        refine wpAnyE.take (i:=4) (v:=?_) rfl (by kernel_rfl) (by kernel_rfl) (by kernel_rfl) (by kernel_rfl) (fun _ _ _ h=>h) (Or.inl ⟨by rfl,?_⟩) A_36 ?_
        rotate_left
        · intro w hSw;have e1:=c1_of hSw;go_simp;with_reducible rfl
        try simp only [Act.put,uA,uB,uC,uD,uE,uF]
        refine wpAnyE.take (i:=5) (v:=?_) rfl (by kernel_rfl) (by kernel_rfl) (by kernel_rfl) (by kernel_rfl) (fun _ _ _ h=>h) (Or.inl ⟨by rfl,?_⟩) A_36 ?_
        rotate_left
        · intro w hSw;have e1:=c1_of hSw;go_simp;with_reducible rfl
        try simp only [Act.put,uA,uB,uC,uD,uE,uF]
        refine wpAnyE.take (i:=6) (v:=?_) rfl (by kernel_rfl) (by kernel_rfl) (by kernel_rfl) (by kernel_rfl) (fun _ _ _ h=>h) (Or.inl ⟨by rfl,?_⟩) A_36 ?_
        rotate_left
        · intro w hSw;have e1:=c1_of hSw;go_simp;with_reducible rfl
        try simp only [Act.put,uA,uB,uC,uD,uE,uF]
        refine wpAnyE.one (i:=7) (by kernel_rfl) rfl (fun K hK=>?_)
        go_simp
        have hA_41:=below_alloc W_34 (.cells #[.slice none 0 0] 24)
        have B_42:=heap_alloc_new W_34 (.cells #[.slice none 0 0] 24)
        have hz_44 : (W_34.alloc (.cells #[.slice none 0 0] 24)).heap.size = W_34.heap.size + 1:=by simp
        generalize W_34.alloc (.cells #[.slice none 0 0] 24) = W_43 at *
        have hB_45:=hB_35.trans (hA_41.mono hB_35.size)
        have A_46:=(hA_41.block _ (heap_lt A_36)).trans A_36
        have QA_47:=QA_37.below hA_41
        have QB_48:=hDB.below hA_41
        have hs_49:=hA_41.size
        clear A_36 QA_37 hDB hA_41 hB_35
        refine hK _ _ (fun _=>A_46) ?_
        clear hK K
        try simp only [Act.put,uA,uB,uC,uD,uE,uF]
        refine wpAnyE.one (i:=8) (by kernel_rfl) rfl (fun K hK=>?_)
        have f_51:=f_of (o:=0) B_42
        have z_50:=c1_of B_42
        have s_52:=heap_setCell_same W_43 (W_34.heap.size) 0 _ _ (.slice (some ⟨BB,0,none⟩) 3 capB) B_42
        have hB_53 : Below _ _ (W_43.setCell ⟨W_34.heap.size,0,none⟩ (.slice (some ⟨BB,0,none⟩) 3 capB)):=hB_45.setCell (by have:=hB_45.size;show _ ≤ W_34.heap.size;omega) _
        have A_55:=(heap_setCell_other W_43 ⟨W_34.heap.size,0,none⟩ (p_16) (.slice (some ⟨BB,0,none⟩) 3 capB) (by show p_16 ≠ W_34.heap.size;omega)).trans A_46
        have QA_56:=QA_47.set (p:=W_34.heap.size) (o:=0) (v:=.slice (some ⟨BB,0,none⟩) 3 capB) (by omega)
        have QB_57:=QB_48.set (p:=W_34.heap.size) (o:=0) (v:=.slice (some ⟨BB,0,none⟩) 3 capB) (by omega)
        have hz_58 : (W_43.setCell ⟨W_34.heap.size,0,none⟩ (.slice (some ⟨BB,0,none⟩) 3 capB)).heap.size = W_43.heap.size:=World.size_setCell _ _ _
        go_simp
        generalize (W_43.setCell ⟨W_34.heap.size,0,none⟩ (.slice (some ⟨BB,0,none⟩) 3 capB)) = W_54 at *
        clear z_50 f_51 A_46 B_42 QA_47 QB_48 hB_45
        simp only [List.setIfInBounds_toArray,List.set_cons_zero] at s_52
        refine hK _ _ (fun _=>A_55) ?_
        clear hK K
        try simp only [Act.put,uA,uB,uC,uD,uE,uF]
        refine wpAnyE.one (i:=9) (by kernel_rfl) rfl (fun K hK=>?_)
        go_simp
        refine hK _ _ (fun _=>A_55) ?_
        clear hK K
        try simp only [Act.put,uA,uB,uC,uD,uE,uF]
        refine wpAnyE.one (i:=10) (by kernel_rfl) rfl (fun K hK=>?_)
        go_simp
        refine hK _ _ (fun _=>A_55) ?_
        clear hK K
        try simp only [Act.put,uA,uB,uC,uD,uE,uF]
        refine wpAnyE.done (by kernel_rfl) ?_
        rw [beg_e2] at hMB
        have HMB : Hid (qb.map Rq.r = c1L):=hMB
        clear hMB
        go_wp2
        go_meet
        case rel=>exact ⟨rfl,rfl,_,BB,capB,qb,rfl,s_52,HMB,QB_57.here,hB_53⟩
      · skip
        go_simp
        have hA_59:=below_alloc W_28 (.cells #[.slice none 0 0] 24)
        have B_60:=heap_alloc_new W_28 (.cells #[.slice none 0 0] 24)
        have hz_62 : (W_28.alloc (.cells #[.slice none 0 0] 24)).heap.size = W_28.heap.size + 1:=by simp
        generalize W_28.alloc (.cells #[.slice none 0 0] 24) = W_61 at *
        have hB_63:=hB_29.trans (hA_59.mono hB_29.size)
        have A_64:=(hA_59.block _ (heap_lt A_30)).trans A_30
        have QA_65:=QA_31.below hA_59
        have S2_66:=hS2.below hA_59
        have U2_67:=hU2.below hA_59
        have hs_68:=hA_59.size
        clear A_30 QA_31 hS2 hU2 hA_59 hB_29
        refine hK _ _ (fun _=>A_64) ?_
        clear hK K
        try simp only [Act.put,uA,uB,uC,uD,uE,uF]
        refine wpAnyE.one (i:=2) (by kernel_rfl) rfl (fun K hK=>?_)
        have hc_69:=begPush (some ⟨BA,0,none⟩) capA qa c1L 7 0 false g2 u2 W_61 (hg.below (hB_17.trans (hB_63.mono hB_17.size))) (ht.below (hB_17.trans (hB_63.mono hB_17.size))) hMA rfl QA_65.here hca hcb S2_66 U2_67 beg_p2 beg_d2
        go_simp
        refine hc_69.mono ?_
        clear hc_69
        rintro e W_70 ⟨BB,capB,qb,rfl,hMB,hDB,-,h⟩
        have hB_71:=hB_63.trans (h.mono hB_63.size)
        have A_72:=(h.block _ (heap_lt A_64)).trans A_64
        have B_73:=(h.block _ (heap_lt B_60)).trans B_60
        have QA_74:=QA_65.below h
        have S2_75:=S2_66.below h
        have U2_76:=U2_67.below h
        have hs_77:=h.size
        clear A_64 B_60 QA_65 S2_66 U2_67 h hB_63
        clear S2_75 U2_76
        refine hK _ _ (fun _=>A_72) ?_
        clear hK K
        try simp only [Act.put,uA,uB,uC,uD,uE,uF]
        refine wpAnyE.take (i:=3) (v:=?_) rfl (by kernel_rfl) (by kernel_rfl) (by kernel_rfl) (by kernel_rfl) (fun _ _ _ h=>h) (Or.inl ⟨by rfl,?_⟩) A_72 ?_
        rotate_left
        · intro w hSw;have e1:=c1_of hSw;go_simp;with_reducible rfl
        try simp only [Act.put,uA,uB,uC,uD,uE,uF]
        refine wpAnyE.take (i:=4) (v:=?_) rfl (by kernel_rfl) (by kernel_rfl) (by kernel_rfl) (by kernel_rfl) (fun _ _ _ h=>h) (Or.inl ⟨by rfl,?_⟩) A_72 ?_
        rotate_left
        · intro w hSw;have e1:=c1_of hSw;go_simp;with_reducible rfl
        try simp only [Act.put,uA,uB,uC,uD,uE,uF]
        refine wpAnyE.take (i:=5) (v:=?_) rfl (by kernel_rfl) (by kernel_rfl) (by kernel_rfl) (by kernel_rfl) (fun _ _ _ h=>h) (Or.inl ⟨by rfl,?_⟩) A_72 ?_
        rotate_left
        · intro w hSw;have e1:=c1_of hSw;go_simp;with_reducible rfl
        try simp only [Act.put,uA,uB,uC,uD,uE,uF]
        refine wpAnyE.take (i:=6) (v:=?_) rfl (by kernel_rfl) (by kernel_rfl) (by kernel_rfl) (by kernel_rfl) (fun _ _ _ h=>h) (Or.inl ⟨by rfl,?_⟩) A_72 ?_
        rotate_left
        · intro w hSw;have e1:=c1_of hSw;go_simp;with_reducible rfl
        try simp only [Act.put,uA,uB,uC,uD,uE,uF]
        refine wpAnyE.one (i:=8) (by kernel_rfl) rfl (fun K hK=>?_)
        have f_79:=f_of (o:=0) B_73
        have z_78:=c1_of B_73
        have s_80:=heap_setCell_same W_70 (W_28.heap.size) 0 _ _ (.slice (some ⟨BB,0,none⟩) 3 capB) B_73
        have hB_81 : Below _ _ (W_70.setCell ⟨W_28.heap.size,0,none⟩ (.slice (some ⟨BB,0,none⟩) 3 capB)):=hB_71.setCell (by have:=hB_71.size;show _ ≤ W_28.heap.size;omega) _
        have A_83:=(heap_setCell_other W_70 ⟨W_28.heap.size,0,none⟩ (p_16) (.slice (some ⟨BB,0,none⟩) 3 capB) (by show p_16 ≠ W_28.heap.size;omega)).trans A_72
        have QA_84:=QA_74.set (p:=W_28.heap.size) (o:=0) (v:=.slice (some ⟨BB,0,none⟩) 3 capB) (by omega)
        have QB_85:=hDB.set (p:=W_28.heap.size) (o:=0) (v:=.slice (some ⟨BB,0,none⟩) 3 capB) (by omega)
        have hz_86 : (W_70.setCell ⟨W_28.heap.size,0,none⟩ (.slice (some ⟨BB,0,none⟩) 3 capB)).heap.size = W_70.heap.size:=World.size_setCell _ _ _
        go_simp
        generalize (W_70.setCell ⟨W_28.heap.size,0,none⟩ (.slice (some ⟨BB,0,none⟩) 3 capB)) = W_82 at *
        clear z_78 f_79 A_72 B_73 QA_74 hDB hB_71
        simp only [List.setIfInBounds_toArray,List.set_cons_zero] at s_80
        refine hK _ _ (fun _=>A_83) ?_
        clear hK K
        try simp only [Act.put,uA,uB,uC,uD,uE,uF]
        refine wpAnyE.one (i:=9) (by kernel_rfl) rfl (fun K hK=>?_)
        go_simp
        refine hK _ _ (fun _=>A_83) ?_
        clear hK K
        try simp only [Act.put,uA,uB,uC,uD,uE,uF]
        refine wpAnyE.one (i:=10) (by kernel_rfl) rfl (fun K hK=>?_)
        go_simp
        refine hK _ _ (fun _=>A_83) ?_
        clear hK K
        try simp only [Act.put,uA,uB,uC,uD,uE,uF]
        refine wpAnyE.done (by kernel_rfl) ?_
        rw [beg_e2] at hMB
        have HMB : Hid (qb.map Rq.r = c1L):=hMB
        clear hMB
        go_wp2
        go_meet
        case rel=>exact ⟨rfl,rfl,_,BB,capB,qb,rfl,s_80,HMB,QB_85.here,hB_81⟩
    · skip
      go_simp
      have hA_87:=below_alloc W_26 (.cells #[.slice none 0 0] 24)
      have B_88:=heap_alloc_new W_26 (.cells #[.slice none 0 0] 24)
      have hz_90 : (W_26.alloc (.cells #[.slice none 0 0] 24)).heap.size = W_26.heap.size + 1:=by simp
      generalize W_26.alloc (.cells #[.slice none 0 0] 24) = W_89 at *
      have hB_91:=hB_22.trans (hA_87.mono hB_22.size)
      have A_92:=(hA_87.block _ (heap_lt A_23)).trans A_23
      have QA_93:=QA_24.below hA_87
      have hs_94:=hA_87.size
      clear A_23 QA_24 hA_87 hB_22
      refine hK _ _ (fun _=>A_92) ?_
      clear hK K
      try simp only [Act.put,uA,uB,uC,uD,uE,uF]
      refine wpAnyE.one (i:=1) (by kernel_rfl) rfl (fun K hK=>?_)
      have hc_95:=first_any W_89
      go_simp
      refine hc_95.mono ?_
      clear hc_95
      rintro e W_96 ⟨g2,u2,rfl,hS2,hU2,h⟩
      have hB_97:=hB_91.trans (h.mono hB_91.size)
      have A_98:=(h.block _ (heap_lt A_92)).trans A_92
      have B_99:=(h.block _ (heap_lt B_88)).trans B_88
      have QA_100:=QA_93.below h
      have hs_101:=h.size
      clear A_92 B_88 QA_93 h hB_91
      refine hK _ _ (fun _=>A_98) ?_
      clear hK K
      try simp only [Act.put,uA,uB,uC,uD,uE,uF]
      refine wpAnyE.one (i:=2) (by kernel_rfl) rfl (fun K hK=>?_)
      have hc_102:=begPush (some ⟨BA,0,none⟩) capA qa c1L 7 0 false g2 u2 W_96 (hg.below (hB_17.trans (hB_97.mono hB_17.size))) (ht.below (hB_17.trans (hB_97.mono hB_17.size))) hMA rfl QA_100.here hca hcb hS2 hU2 beg_p2 beg_d2
      go_simp
      refine hc_102.mono ?_
      clear hc_102
      rintro e W_103 ⟨BB,capB,qb,rfl,hMB,hDB,-,h⟩
      have hB_104:=hB_97.trans (h.mono hB_97.size)
      have A_105:=(h.block _ (heap_lt A_98)).trans A_98
      have B_106:=(h.block _ (heap_lt B_99)).trans B_99
      have QA_107:=QA_100.below h
      have S2_108:=hS2.below h
      have U2_109:=hU2.below h
      have hs_110:=h.size
      clear A_98 B_99 QA_100 hS2 hU2 h hB_97
      clear S2_108 U2_109
      refine hK _ _ (fun _=>A_105) ?_
      clear hK K
      try simp only [Act.put,uA,uB,uC,uD,uE,uF]
      refine wpAnyE.take (i:=3) (v:=?_) rfl (by kernel_rfl) (by kernel_rfl) (by kernel_rfl) (by kernel_rfl) (fun _ _ _ h=>h) (Or.inl ⟨by rfl,?_⟩) A_105 ?_
      rotate_left
      · intro w hSw;have e1:=c1_of hSw;go_simp;with_reducible rfl
      try simp only [Act.put,uA,uB,uC,uD,uE,uF]
      refine wpAnyE.take (i:=4) (v:=?_) rfl (by kernel_rfl) (by kernel_rfl) (by kernel_rfl) (by kernel_rfl) (fun _ _ _ h=>h) (Or.inl ⟨by rfl,?_⟩) A_105 ?_
      rotate_left
      · intro w hSw;have e1:=c1_of hSw;go_simp;with_reducible rfl
      try simp only [Act.put,uA,uB,uC,uD,uE,uF]
      refine wpAnyE.take (i:=5) (v:=?_) rfl (by kernel_rfl) (by kernel_rfl) (by kernel_rfl) (by kernel_rfl) (fun _ _ _ h=>h) (Or.inl ⟨by rfl,?_⟩) A_105 ?_
      rotate_left
      · intro w hSw;have e1:=c1_of hSw;go_simp;with_reducible rfl
      try simp only [Act.put,uA,uB,uC,uD,uE,uF]
      refine wpAnyE.take (i:=6) (v:=?_) rfl (by kernel_rfl) (by kernel_rfl) (by kernel_rfl) (by kernel_rfl) (fun _ _ _ h=>h) (Or.inl ⟨by rfl,?_⟩) A_105 ?_
      rotate_left
      · intro w hSw;have e1:=c1_of hSw;go_simp;with_reducible rfl
      try simp only [Act.put,uA,uB,uC,uD,uE,uF]
      refine wpAnyE.one (i:=8) (by kernel_rfl) rfl (fun K hK=>?_)
      have f_112:=f_of (o:=0) B_106
      have z_111:=c1_of B_106
      have s_113:=heap_setCell_same W_103 (W_26.heap.size) 0 _ _ (.slice (some ⟨BB,0,none⟩) 3 capB) B_106
      have hB_114 : Below _ _ (W_103.setCell ⟨W_26.heap.size,0,none⟩ (.slice (some ⟨BB,0,none⟩) 3 capB)):=hB_104.setCell (by have:=hB_104.size;show _ ≤ W_26.heap.size;omega) _
      have A_116:=(heap_setCell_other W_103 ⟨W_26.heap.size,0,none⟩ (p_16) (.slice (some ⟨BB,0,none⟩) 3 capB) (by show p_16 ≠ W_26.heap.size;omega)).trans A_105
      have QA_117:=QA_107.set (p:=W_26.heap.size) (o:=0) (v:=.slice (some ⟨BB,0,none⟩) 3 capB) (by omega)
      have QB_118:=hDB.set (p:=W_26.heap.size) (o:=0) (v:=.slice (some ⟨BB,0,none⟩) 3 capB) (by omega)
      have hz_119 : (W_103.setCell ⟨W_26.heap.size,0,none⟩ (.slice (some ⟨BB,0,none⟩) 3 capB)).heap.size = W_103.heap.size:=World.size_setCell _ _ _
      go_simp
      generalize (W_103.setCell ⟨W_26.heap.size,0,none⟩ (.slice (some ⟨BB,0,none⟩) 3 capB)) = W_115 at *
      clear z_111 f_112 A_105 B_106 QA_107 hDB hB_104
      simp only [List.setIfInBounds_toArray,List.set_cons_zero] at s_113
      refine hK _ _ (fun _=>A_116) ?_
      clear hK K
      try simp only [Act.put,uA,uB,uC,uD,uE,uF]
      refine wpAnyE.one (i:=9) (by kernel_rfl) rfl (fun K hK=>?_)
      go_simp
      refine hK _ _ (fun _=>A_116) ?_
      clear hK K
      try simp only [Act.put,uA,uB,uC,uD,uE,uF]
      refine wpAnyE.one (i:=10) (by kernel_rfl) rfl (fun K hK=>?_)
      go_simp
      refine hK _ _ (fun _=>A_116) ?_
      clear hK K
      try simp only [Act.put,uA,uB,uC,uD,uE,uF]
      refine wpAnyE.done (by kernel_rfl) ?_
      rw [beg_e2] at hMB
      have HMB : Hid (qb.map Rq.r = c1L):=hMB
      clear hMB
      go_wp2
      go_meet
      case rel=>exact ⟨rfl,rfl,_,BB,capB,qb,rfl,s_113,HMB,QB_118.here,hB_114⟩
  case rest =>
  obtain ⟨rfl,rfl,pB,BB,capB,qb,rfl,kB,HMB,hQB,h⟩:=hcut
  have hB_120:=hB_17.trans (h.mono hB_17.size)
  have A_121:=(h.block _ (heap_lt A_15)).trans A_15
  have QA_122:=QA_18.below h
  have hs_123:=h.size
  clear A_15 QA_18 h hB_17
  have hc_124:=new_any wc
  go_wp2_with fail
  refine hc_124.mono ?_
  clear hc_124
  rintro e w6 ⟨b3,rfl,hq3,h⟩
  have hB_125:=hB_120.trans (h.mono hB_120.size)
  have A_126:=(h.block _ (heap_lt A_121)).trans A_121
  have B_127:=(h.block _ (heap_lt kB)).trans kB
  have QA_128:=QA_122.below h
  have QB_129:=hQB.below h
  have hs_130:=h.size
  clear A_121 kB QA_122 hQB h hB_120
  have hc_131:=first_any w6
  go_wp2_with fail
  refine hc_131.mono ?_
  clear hc_131
  rintro e w7 ⟨g3,u3,rfl,hS3,hU3,h⟩
  have hB_132:=hB_125.trans (h.mono hB_125.size)
  have A_133:=(h.block _ (heap_lt A_126)).trans A_126
  have B_134:=(h.block _ (heap_lt B_127)).trans B_127
  have QA_135:=QA_128.below h
  have QB_136:=QB_129.below h
  have Q3_137:=hq3.below h
  have hs_138:=h.size
  clear A_126 B_127 QA_128 QB_129 hq3 h hB_125
  have hc_139:=begPush (some ⟨b3,0,none⟩) 3 [q0,q0,q0] c0L 7 3 false g3 u3 w7 (hg.below hB_132) (ht.below hB_132) rfl rfl Q3_137 (by decide) (by decide) hS3 hU3 beg_p3 beg_d3
  go_wp2_with fail
  refine hc_139.mono ?_
  clear hc_139
  rintro e w8 ⟨BC,capC,qc,rfl,-,-,-,h⟩
  have hB_140:=hB_132.trans (h.mono hB_132.size)
  have A_141:=(h.block _ (heap_lt A_133)).trans A_133
  have B_142:=(h.block _ (heap_lt B_134)).trans B_134
  have QA_143:=QA_135.below h
  have QB_144:=QB_136.below h
  have Q3_145:=Q3_137.below h
  have S3_146:=hS3.below h
  have U3_147:=hU3.below h
  have hs_148:=h.size
  clear A_133 B_134 QA_135 QB_136 Q3_137 hS3 hU3 h hB_132
  clear Q3_145 S3_146 U3_147
  have hA_149:=below_alloc w8 (.cells #[.slice (some ⟨BC,0,none⟩) 3 capC] 24)
  have C_150:=heap_alloc_new w8 (.cells #[.slice (some ⟨BC,0,none⟩) 3 capC] 24)
  obtain ⟨p_151,p_151e⟩ : ∃ p,p = w8.heap.size:=⟨_,rfl⟩
  rw [← p_151e] at C_150
  have hB_152:=hB_140.trans (hA_149.mono hB_140.size)
  have A_153:=(hA_149.block _ (heap_lt A_141)).trans A_141
  have B_154:=(hA_149.block _ (heap_lt B_142)).trans B_142
  have QA_155:=QA_143.below hA_149
  have QB_156:=QB_144.below hA_149
  have hs_157:=hA_149.size
  clear A_141 B_142 QA_143 QB_144 hA_149 hB_140
  have hqa : qa.length = 3:=rOf_len hMA rfl
  have hqb : qb.length = 3:=rOf_len HMB.out rfl
  have HMA : Hid (qa.map Rq.r = c1L):=hMA
  clear hMA
  have Ac0:=c1_of A_153
  have hc_159:=newestC_any (some ⟨BA,0,none⟩) capA qa _ (hg.below hB_152) QA_155.here (by omega) hcb
  rw [hqa,HMA.out,beg_c] at hc_159
  go_wp2_with fail
  rw [← p_151e]
  clear p_151e
  generalize w8.alloc (.cells #[.slice (some ⟨BC,0,none⟩) 3 capC] 24) = w9 at *
  have hl_158:=heap_lt C_150
  refine hc_159.mono ?_
  clear hc_159
  rintro e w10 ⟨n,rfl,hn,h⟩
  have hB_160:=hB_152.trans (h.mono hB_152.size)
  have A_161:=(h.block _ (heap_lt A_153)).trans A_153
  have B_162:=(h.block _ (heap_lt B_154)).trans B_154
  have C_163:=(h.block _ (heap_lt C_150)).trans C_150
  have QA_164:=QA_155.below h
  have QB_165:=QB_156.below h
  have hs_166:=h.size
  clear A_153 B_154 C_150 QA_155 QB_156 h hB_152 Ac0
  have hn0 : n = 0:=by
    have:=hn.out (by first | trivial | rfl)
    rw [gs_map,HMA.out,beg_b] at this;exact this
  subst hn0
  clear hn
  have Ac0:=c1_of A_161
  have hc_167:=checkC_any (some ⟨BA,0,none⟩) capA qa w10 (hg.below hB_160) QA_164.here (by omega) hcb
  rw [hqa,HMA.out,beg_c] at hc_167
  go_wp2_with fail
  refine hc_167.mono ?_
  clear hc_167
  rintro e w11 ⟨rfl,h⟩
  have hB_168:=hB_160.trans (h.mono hB_160.size)
  have A_169:=(h.block _ (heap_lt A_161)).trans A_161
  have B_170:=(h.block _ (heap_lt B_162)).trans B_162
  have C_171:=(h.block _ (heap_lt C_163)).trans C_163
  have QA_172:=QA_164.below h
  have QB_173:=QB_165.below h
  have hs_174:=h.size
  clear A_161 B_162 C_163 QA_164 QB_165 h hB_160 Ac0
  have Ac0:=c1_of A_169
  have Bc0:=c1_of B_170
  have hi1 : 1 < qa.length:=by omega
  have hi2 : 2 < qa.length:=by omega
  obtain ⟨x0,x1,x2,x3,x4,x5,x6⟩:=(QA_172.here.at hi1).1
  obtain ⟨y0,y1,y2,y3,y4,y5,y6⟩:=(QA_172.here.at hi2).1
  have hx : qa[1].r.g = 1:=by rw [rOf_q HMA.out hi1];exact beg_g1
  have hy : qa[2].r.g = 0:=by rw [rOf_q HMA.out hi2];exact beg_g2
  rw [hx] at x2
  rw [hy] at y2
  clear hx hy
  have hc_175:=sameCluster_any (some ⟨BA,0,none⟩) capA qa (some ⟨BB,0,none⟩) capB qb w11 QA_172.here QB_173 (by omega)
  rw [hqa,hqb] at hc_175
  go_wp2_with fail
  refine hc_175.mono ?_
  clear hc_175
  rintro e w12 ⟨r,rfl,hr,h⟩
  have hB_176:=hB_168.trans (h.mono hB_168.size)
  have A_177:=(h.block _ (heap_lt A_169)).trans A_169
  have B_178:=(h.block _ (heap_lt B_170)).trans B_170
  have C_179:=(h.block _ (heap_lt C_171)).trans C_171
  have QA_180:=QA_172.below h
  have QB_181:=QB_173.below h
  have hs_182:=h.size
  clear A_169 B_170 C_171 QA_172 QB_173 h hB_168 Ac0 Bc0 x0 x1 x2 x3 x4 x5 x6 y0 y1 y2 y3 y4 y5 y6
  obtain rfl : r = true:=hr.2 (by rw [HMA.out,HMB.out])
  go_wp2
  go_ret
  exact ⟨rfl,hB_176⟩
end Go.Proofs.YtehmlpkapjdhkaaGreatDoor
