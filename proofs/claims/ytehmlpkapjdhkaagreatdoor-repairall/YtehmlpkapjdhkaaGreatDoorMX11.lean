import Derived.Test.YtehmlpkapjdhkaaGreatDoorMX10
import Derived.Test.YtehmlpkapjdhkaaGreatDoorMY4
import Derived.Deep.CutRange
namespace Go.Proofs.YtehmlpkapjdhkaaGreatDoor
open Go.RowKit
set_option maxRecDepth 100000
set_option maxHeartbeats 16000000 in
theorem repairBegun_any (w : World) (hg : Glob w) : Calls Tryz.prog 26 #[] w fun e w'=>e = .returned (.bool true) ∧ Below w.heap.size w w':=by
  have hB:=Below.refl w.heap.size w
  have hB0:=hB
  go_enter Tryz.func26,Tryz.ntmps26
  go_wp2_with fail
  go_cut [1] from 9 to 13 (fun s1 wx=>∃ p o1 o2,s1 = .pointer (some ⟨p,0,none⟩) ∧ wx.heap[p]? = some (.cells #[.slice (some ⟨o1,0,none⟩) 3 5,.slice (some ⟨o2,0,none⟩) 1 2,.int .i64 2,.int .i64 0,.slice none 0 0,.slice none 0 0,.bool false] 36) ∧ (oldQ o1 o2).H wx ∧ Below w.heap.size w wx)
  case first =>
    have hd_1:=below_refl_drew w
    have hB_2:=hB.trans (hd_1.mono hB.size)
    have hs_3:=hd_1.size
    clear hd_1 hB
    refine wp_region_E (fun W=>True) (fun _=>false) (by kernel_rfl) trivial (fun hS=>?_)
    clear hS
    generalize w.drew = W_4 at *
    refine wpAnyE.two (i:=0) (j:=5) (by kernel_rfl) rfl rfl (fun K hK=>?_) (fun K hK=>?_)
    · skip
      have hc_5:=shelf_holds W_4
      go_simp
      refine hc_5.mono ?_
      clear hc_5
      rintro e W_6 ⟨o1,rfl,h,hS1⟩
      have hB_7:=hB_2.trans (h.mono hB_2.size)
      have hs_8:=h.size
      clear h hB_2
      refine hK _ _ (fun _=>trivial) ?_
      clear hK K
      try simp only [Act.put,uA,uB,uC,uD,uE,uF]
      refine wpAnyE.take (i:=1) (v:=?_) rfl (by kernel_rfl) (by kernel_rfl) (by kernel_rfl) (by kernel_rfl) (fun _ _ _ h=>h) (Or.inl ⟨by rfl,?_⟩) trivial ?_
      rotate_left
      · intro w hSw;skip;go_simp;with_reducible rfl
      try simp only [Act.put,uA,uB,uC,uD,uE,uF]
      refine wpAnyE.two (i:=2) (j:=5) (by kernel_rfl) rfl rfl (fun K hK=>?_) (fun K hK=>?_)
      · skip
        have hc_9:=names_any W_6
        go_simp
        refine hc_9.mono ?_
        clear hc_9
        rintro e W_10 ⟨o2,rfl,hR1,h⟩
        have hB_11:=hB_7.trans (h.mono hB_7.size)
        have S1_12:=hS1.below h
        have hs_13:=h.size
        clear hS1 h hB_7
        refine hK _ _ (fun _=>trivial) ?_
        clear hK K
        try simp only [Act.put,uA,uB,uC,uD,uE,uF]
        refine wpAnyE.take (i:=3) (v:=?_) rfl (by kernel_rfl) (by kernel_rfl) (by kernel_rfl) (by kernel_rfl) (fun _ _ _ h=>h) (Or.inl ⟨by rfl,?_⟩) trivial ?_
        rotate_left
        · intro w hSw;skip;go_simp;with_reducible rfl
        try simp only [Act.put,uA,uB,uC,uD,uE,uF]
        refine wpAnyE.take (i:=4) (v:=?_) rfl (by kernel_rfl) (by kernel_rfl) (by kernel_rfl) (by kernel_rfl) (fun _ _ _ h=>h) (Or.inl ⟨by rfl,?_⟩) trivial ?_
        rotate_left
        · intro w hSw;skip;go_simp;with_reducible rfl
        try simp only [Act.put,uA,uB,uC,uD,uE,uF]
        refine wpAnyE.one (i:=5) (by kernel_rfl) rfl (fun K hK=>?_)
        go_simp
        have hA_14:=below_alloc W_10 (.cells #[.slice none 0 0,.slice none 0 0,.int .i64 0,.int .i64 0,.slice none 0 0,.slice none 0 0,.bool false] 36)
        have O_15:=heap_alloc_new W_10 (.cells #[.slice none 0 0,.slice none 0 0,.int .i64 0,.int .i64 0,.slice none 0 0,.slice none 0 0,.bool false] 36)
        have hz_17 : W_10.heap.size < (W_10.alloc (.cells #[.slice none 0 0,.slice none 0 0,.int .i64 0,.int .i64 0,.slice none 0 0,.slice none 0 0,.bool false] 36)).heap.size:=by simp
        generalize W_10.alloc (.cells #[.slice none 0 0,.slice none 0 0,.int .i64 0,.int .i64 0,.slice none 0 0,.slice none 0 0,.bool false] 36) = W_16 at *
        have hB_18:=hB_11.trans (hA_14.mono hB_11.size)
        have S1_19:=S1_12.below hA_14
        have R1_20:=hR1.below hA_14
        have hs_21:=hA_14.size
        clear S1_12 hR1 hA_14 hB_11
        refine hK _ _ (fun _=>trivial) ?_
        clear hK K
        try simp only [Act.put,uA,uB,uC,uD,uE,uF]
        refine wpAnyE.one (i:=6) (by kernel_rfl) rfl (fun K hK=>?_)
        obtain ⟨Oc0,Oc1,Oc2,Oc3,Oc4,Oc5,Oc6⟩:=c7_of O_15
        have f_22:=f_of (o:=0) O_15
        have f_23:=f_of (o:=1) O_15
        have f_24:=f_of (o:=2) O_15
        have f_25:=f_of (o:=3) O_15
        have f_26:=f_of (o:=4) O_15
        have f_27:=f_of (o:=5) O_15
        have f_28:=f_of (o:=6) O_15
        have zz_29:=zero42_zero O_15
        have bt_30 : But (W_10.heap.size) W_16 (((((((W_16.setCell ⟨W_10.heap.size,0,none⟩ (.slice (some ⟨o1,0,none⟩) 3 5)).setCell ⟨W_10.heap.size,1,none⟩ (.slice (some ⟨o2,0,none⟩) 1 2)).setCell ⟨W_10.heap.size,2,none⟩ (.int .i64 2)).setCell ⟨W_10.heap.size,3,none⟩ (.int .i64 0)).setCell ⟨W_10.heap.size,4,none⟩ (.slice none 0 0)).setCell ⟨W_10.heap.size,5,none⟩ (.slice none 0 0)).setCell ⟨W_10.heap.size,6,none⟩ (.bool false)):=((((((((But.refl _ _).set 0 (.slice (some ⟨o1,0,none⟩) 3 5)).set 1 (.slice (some ⟨o2,0,none⟩) 1 2)).set 2 (.int .i64 2)).set 3 (.int .i64 0)).set 4 (.slice none 0 0)).set 5 (.slice none 0 0)).set 6 (.bool false))
        have S1_31:=S1_19.but bt_30 zz_29 shelf_not0
        have R1_32:=R1_20.but bt_30 zz_29 names_not0
        obtain ⟨s_33,s_34,s_35⟩:=set7_block W_16 (W_10.heap.size) 36 (.slice (some ⟨o1,0,none⟩) 3 5) (.slice (some ⟨o2,0,none⟩) 1 2) (.int .i64 2) (.int .i64 0) (.slice none 0 0) (.slice none 0 0) (.bool false) O_15
        have hB_36:=hB_18.trans (s_34.mono (by have:=hB_18.size;omega))
        go_simp
        generalize (((((((W_16.setCell ⟨W_10.heap.size,0,none⟩ (.slice (some ⟨o1,0,none⟩) 3 5)).setCell ⟨W_10.heap.size,1,none⟩ (.slice (some ⟨o2,0,none⟩) 1 2)).setCell ⟨W_10.heap.size,2,none⟩ (.int .i64 2)).setCell ⟨W_10.heap.size,3,none⟩ (.int .i64 0)).setCell ⟨W_10.heap.size,4,none⟩ (.slice none 0 0)).setCell ⟨W_10.heap.size,5,none⟩ (.slice none 0 0)).setCell ⟨W_10.heap.size,6,none⟩ (.bool false)) = W_37 at *
        clear Oc0 Oc1 Oc2 Oc3 Oc4 Oc5 Oc6 f_22 f_23 f_24 f_25 f_26 f_27 f_28 O_15 hB_18 s_34 s_35 zz_29 bt_30 S1_19 R1_20
        refine hK _ _ (fun _=>trivial) ?_
        clear hK K
        try simp only [Act.put,uA,uB,uC,uD,uE,uF]
        refine wpAnyE.done (by kernel_rfl) ?_
        go_wp2
        go_meet
        case rel=>exact ⟨_,o1,o2,rfl,s_33,old_H S1_31 R1_32,hB_36⟩
      · skip
        go_simp
        have hA_38:=below_alloc W_6 (.cells #[.slice none 0 0,.slice none 0 0,.int .i64 0,.int .i64 0,.slice none 0 0,.slice none 0 0,.bool false] 36)
        have O_39:=heap_alloc_new W_6 (.cells #[.slice none 0 0,.slice none 0 0,.int .i64 0,.int .i64 0,.slice none 0 0,.slice none 0 0,.bool false] 36)
        have hz_41 : W_6.heap.size < (W_6.alloc (.cells #[.slice none 0 0,.slice none 0 0,.int .i64 0,.int .i64 0,.slice none 0 0,.slice none 0 0,.bool false] 36)).heap.size:=by simp
        generalize W_6.alloc (.cells #[.slice none 0 0,.slice none 0 0,.int .i64 0,.int .i64 0,.slice none 0 0,.slice none 0 0,.bool false] 36) = W_40 at *
        have hB_42:=hB_7.trans (hA_38.mono hB_7.size)
        have S1_43:=hS1.below hA_38
        have hs_44:=hA_38.size
        clear hS1 hA_38 hB_7
        refine hK _ _ (fun _=>trivial) ?_
        clear hK K
        try simp only [Act.put,uA,uB,uC,uD,uE,uF]
        refine wpAnyE.one (i:=2) (by kernel_rfl) rfl (fun K hK=>?_)
        have hc_45:=names_any W_40
        go_simp
        refine hc_45.mono ?_
        clear hc_45
        rintro e W_46 ⟨o2,rfl,hR1,h⟩
        have hB_47:=hB_42.trans (h.mono hB_42.size)
        have O_48:=(h.block _ (heap_lt O_39)).trans O_39
        have S1_49:=S1_43.below h
        have hs_50:=h.size
        clear O_39 S1_43 h hB_42
        refine hK _ _ (fun _=>trivial) ?_
        clear hK K
        try simp only [Act.put,uA,uB,uC,uD,uE,uF]
        refine wpAnyE.take (i:=3) (v:=?_) rfl (by kernel_rfl) (by kernel_rfl) (by kernel_rfl) (by kernel_rfl) (fun _ _ _ h=>h) (Or.inl ⟨by rfl,?_⟩) trivial ?_
        rotate_left
        · intro w hSw;skip;go_simp;with_reducible rfl
        try simp only [Act.put,uA,uB,uC,uD,uE,uF]
        refine wpAnyE.take (i:=4) (v:=?_) rfl (by kernel_rfl) (by kernel_rfl) (by kernel_rfl) (by kernel_rfl) (fun _ _ _ h=>h) (Or.inl ⟨by rfl,?_⟩) trivial ?_
        rotate_left
        · intro w hSw;skip;go_simp;with_reducible rfl
        try simp only [Act.put,uA,uB,uC,uD,uE,uF]
        refine wpAnyE.one (i:=6) (by kernel_rfl) rfl (fun K hK=>?_)
        obtain ⟨Oc0,Oc1,Oc2,Oc3,Oc4,Oc5,Oc6⟩:=c7_of O_48
        have f_51:=f_of (o:=0) O_48
        have f_52:=f_of (o:=1) O_48
        have f_53:=f_of (o:=2) O_48
        have f_54:=f_of (o:=3) O_48
        have f_55:=f_of (o:=4) O_48
        have f_56:=f_of (o:=5) O_48
        have f_57:=f_of (o:=6) O_48
        have zz_58:=zero42_zero O_48
        have bt_59 : But (W_6.heap.size) W_46 (((((((W_46.setCell ⟨W_6.heap.size,0,none⟩ (.slice (some ⟨o1,0,none⟩) 3 5)).setCell ⟨W_6.heap.size,1,none⟩ (.slice (some ⟨o2,0,none⟩) 1 2)).setCell ⟨W_6.heap.size,2,none⟩ (.int .i64 2)).setCell ⟨W_6.heap.size,3,none⟩ (.int .i64 0)).setCell ⟨W_6.heap.size,4,none⟩ (.slice none 0 0)).setCell ⟨W_6.heap.size,5,none⟩ (.slice none 0 0)).setCell ⟨W_6.heap.size,6,none⟩ (.bool false)):=((((((((But.refl _ _).set 0 (.slice (some ⟨o1,0,none⟩) 3 5)).set 1 (.slice (some ⟨o2,0,none⟩) 1 2)).set 2 (.int .i64 2)).set 3 (.int .i64 0)).set 4 (.slice none 0 0)).set 5 (.slice none 0 0)).set 6 (.bool false))
        have S1_60:=S1_49.but bt_59 zz_58 shelf_not0
        have R1_61:=hR1.but bt_59 zz_58 names_not0
        obtain ⟨s_62,s_63,s_64⟩:=set7_block W_46 (W_6.heap.size) 36 (.slice (some ⟨o1,0,none⟩) 3 5) (.slice (some ⟨o2,0,none⟩) 1 2) (.int .i64 2) (.int .i64 0) (.slice none 0 0) (.slice none 0 0) (.bool false) O_48
        have hB_65:=hB_47.trans (s_63.mono (by have:=hB_47.size;omega))
        go_simp
        generalize (((((((W_46.setCell ⟨W_6.heap.size,0,none⟩ (.slice (some ⟨o1,0,none⟩) 3 5)).setCell ⟨W_6.heap.size,1,none⟩ (.slice (some ⟨o2,0,none⟩) 1 2)).setCell ⟨W_6.heap.size,2,none⟩ (.int .i64 2)).setCell ⟨W_6.heap.size,3,none⟩ (.int .i64 0)).setCell ⟨W_6.heap.size,4,none⟩ (.slice none 0 0)).setCell ⟨W_6.heap.size,5,none⟩ (.slice none 0 0)).setCell ⟨W_6.heap.size,6,none⟩ (.bool false)) = W_66 at *
        clear Oc0 Oc1 Oc2 Oc3 Oc4 Oc5 Oc6 f_51 f_52 f_53 f_54 f_55 f_56 f_57 O_48 hB_47 s_63 s_64 zz_58 bt_59 S1_49 hR1
        refine hK _ _ (fun _=>trivial) ?_
        clear hK K
        try simp only [Act.put,uA,uB,uC,uD,uE,uF]
        refine wpAnyE.done (by kernel_rfl) ?_
        go_wp2
        go_meet
        case rel=>exact ⟨_,o1,o2,rfl,s_62,old_H S1_60 R1_61,hB_65⟩
    · skip
      go_simp
      have hA_67:=below_alloc W_4 (.cells #[.slice none 0 0,.slice none 0 0,.int .i64 0,.int .i64 0,.slice none 0 0,.slice none 0 0,.bool false] 36)
      have O_68:=heap_alloc_new W_4 (.cells #[.slice none 0 0,.slice none 0 0,.int .i64 0,.int .i64 0,.slice none 0 0,.slice none 0 0,.bool false] 36)
      have hz_70 : W_4.heap.size < (W_4.alloc (.cells #[.slice none 0 0,.slice none 0 0,.int .i64 0,.int .i64 0,.slice none 0 0,.slice none 0 0,.bool false] 36)).heap.size:=by simp
      generalize W_4.alloc (.cells #[.slice none 0 0,.slice none 0 0,.int .i64 0,.int .i64 0,.slice none 0 0,.slice none 0 0,.bool false] 36) = W_69 at *
      have hB_71:=hB_2.trans (hA_67.mono hB_2.size)
      have hs_72:=hA_67.size
      clear hA_67 hB_2
      refine hK _ _ (fun _=>trivial) ?_
      clear hK K
      try simp only [Act.put,uA,uB,uC,uD,uE,uF]
      refine wpAnyE.one (i:=0) (by kernel_rfl) rfl (fun K hK=>?_)
      have hc_73:=shelf_holds W_69
      go_simp
      refine hc_73.mono ?_
      clear hc_73
      rintro e W_74 ⟨o1,rfl,h,hS1⟩
      have hB_75:=hB_71.trans (h.mono hB_71.size)
      have O_76:=(h.block _ (heap_lt O_68)).trans O_68
      have hs_77:=h.size
      clear O_68 h hB_71
      refine hK _ _ (fun _=>trivial) ?_
      clear hK K
      try simp only [Act.put,uA,uB,uC,uD,uE,uF]
      refine wpAnyE.take (i:=1) (v:=?_) rfl (by kernel_rfl) (by kernel_rfl) (by kernel_rfl) (by kernel_rfl) (fun _ _ _ h=>h) (Or.inl ⟨by rfl,?_⟩) trivial ?_
      rotate_left
      · intro w hSw;skip;go_simp;with_reducible rfl
      try simp only [Act.put,uA,uB,uC,uD,uE,uF]
      refine wpAnyE.one (i:=2) (by kernel_rfl) rfl (fun K hK=>?_)
      have hc_78:=names_any W_74
      go_simp
      refine hc_78.mono ?_
      clear hc_78
      rintro e W_79 ⟨o2,rfl,hR1,h⟩
      have hB_80:=hB_75.trans (h.mono hB_75.size)
      have O_81:=(h.block _ (heap_lt O_76)).trans O_76
      have S1_82:=hS1.below h
      have hs_83:=h.size
      clear O_76 hS1 h hB_75
      refine hK _ _ (fun _=>trivial) ?_
      clear hK K
      try simp only [Act.put,uA,uB,uC,uD,uE,uF]
      refine wpAnyE.take (i:=3) (v:=?_) rfl (by kernel_rfl) (by kernel_rfl) (by kernel_rfl) (by kernel_rfl) (fun _ _ _ h=>h) (Or.inl ⟨by rfl,?_⟩) trivial ?_
      rotate_left
      · intro w hSw;skip;go_simp;with_reducible rfl
      try simp only [Act.put,uA,uB,uC,uD,uE,uF]
      refine wpAnyE.take (i:=4) (v:=?_) rfl (by kernel_rfl) (by kernel_rfl) (by kernel_rfl) (by kernel_rfl) (fun _ _ _ h=>h) (Or.inl ⟨by rfl,?_⟩) trivial ?_
      rotate_left
      · intro w hSw;skip;go_simp;with_reducible rfl
      try simp only [Act.put,uA,uB,uC,uD,uE,uF]
      refine wpAnyE.one (i:=6) (by kernel_rfl) rfl (fun K hK=>?_)
      obtain ⟨Oc0,Oc1,Oc2,Oc3,Oc4,Oc5,Oc6⟩:=c7_of O_81
      have f_84:=f_of (o:=0) O_81
      have f_85:=f_of (o:=1) O_81
      have f_86:=f_of (o:=2) O_81
      have f_87:=f_of (o:=3) O_81
      have f_88:=f_of (o:=4) O_81
      have f_89:=f_of (o:=5) O_81
      have f_90:=f_of (o:=6) O_81
      have zz_91:=zero42_zero O_81
      have bt_92 : But (W_4.heap.size) W_79 (((((((W_79.setCell ⟨W_4.heap.size,0,none⟩ (.slice (some ⟨o1,0,none⟩) 3 5)).setCell ⟨W_4.heap.size,1,none⟩ (.slice (some ⟨o2,0,none⟩) 1 2)).setCell ⟨W_4.heap.size,2,none⟩ (.int .i64 2)).setCell ⟨W_4.heap.size,3,none⟩ (.int .i64 0)).setCell ⟨W_4.heap.size,4,none⟩ (.slice none 0 0)).setCell ⟨W_4.heap.size,5,none⟩ (.slice none 0 0)).setCell ⟨W_4.heap.size,6,none⟩ (.bool false)):=((((((((But.refl _ _).set 0 (.slice (some ⟨o1,0,none⟩) 3 5)).set 1 (.slice (some ⟨o2,0,none⟩) 1 2)).set 2 (.int .i64 2)).set 3 (.int .i64 0)).set 4 (.slice none 0 0)).set 5 (.slice none 0 0)).set 6 (.bool false))
      have S1_93:=S1_82.but bt_92 zz_91 shelf_not0
      have R1_94:=hR1.but bt_92 zz_91 names_not0
      obtain ⟨s_95,s_96,s_97⟩:=set7_block W_79 (W_4.heap.size) 36 (.slice (some ⟨o1,0,none⟩) 3 5) (.slice (some ⟨o2,0,none⟩) 1 2) (.int .i64 2) (.int .i64 0) (.slice none 0 0) (.slice none 0 0) (.bool false) O_81
      have hB_98:=hB_80.trans (s_96.mono (by have:=hB_80.size;omega))
      go_simp
      generalize (((((((W_79.setCell ⟨W_4.heap.size,0,none⟩ (.slice (some ⟨o1,0,none⟩) 3 5)).setCell ⟨W_4.heap.size,1,none⟩ (.slice (some ⟨o2,0,none⟩) 1 2)).setCell ⟨W_4.heap.size,2,none⟩ (.int .i64 2)).setCell ⟨W_4.heap.size,3,none⟩ (.int .i64 0)).setCell ⟨W_4.heap.size,4,none⟩ (.slice none 0 0)).setCell ⟨W_4.heap.size,5,none⟩ (.slice none 0 0)).setCell ⟨W_4.heap.size,6,none⟩ (.bool false)) = W_99 at *
      clear Oc0 Oc1 Oc2 Oc3 Oc4 Oc5 Oc6 f_84 f_85 f_86 f_87 f_88 f_89 f_90 O_81 hB_80 s_96 s_97 zz_91 bt_92 S1_82 hR1
      refine hK _ _ (fun _=>trivial) ?_
      clear hK K
      try simp only [Act.put,uA,uB,uC,uD,uE,uF]
      refine wpAnyE.done (by kernel_rfl) ?_
      go_wp2
      go_meet
      case rel=>exact ⟨_,o1,o2,rfl,s_95,old_H S1_93 R1_94,hB_98⟩
  case rest =>
  clear hB0
  obtain ⟨p1,o1,o2,rfl,kO,HO,h⟩:=hcut
  obtain ⟨wb,hwb⟩ : ∃ x,x = wc:=⟨_,rfl⟩
  subst hwb
  have hl1:=heap_lt kO
  have hB_100:=hB.trans (h.mono hB.size)
  have hs_101:=h.size
  clear h hB
  have DO:=HO.dep
  clear HO
  go_wp2_with fail
  go_cut [2,3] from 14 to 19 (fun s2 s3 wx=>s3 = .int .i64 0 ∧ ∃ p2 qa,s2 = .pointer (some ⟨p2,0,none⟩) ∧ wx.heap[p2]? = some (Rq.blk qa) ∧ Hid (qa.r = hostP) ∧ Rq.H wx qa ∧ wx.heap[p1]? = some (.cells #[.slice (some ⟨o1,0,none⟩) 3 5,.slice (some ⟨o2,0,none⟩) 1 2,.int .i64 2,.int .i64 0,.slice none 0 0,.slice none 0 0,.bool false] 36) ∧ (oldQ o1 o2).H wx ∧ Below wb.heap.size wb wx)
  case first =>
    have hBi:=Below.refl wb.heap.size wb
    have hd_102:=below_refl_drew wb
    have hB_103:=hBi.trans (hd_102.mono hBi.size)
    have O_104:=(hd_102.block _ (heap_lt kO)).trans kO
    have DO_105:=DO.below hd_102
    have hs_106:=hd_102.size
    clear kO DO hd_102 hBi
    refine wp_region_E (fun W=>(W.heap[p1]? = some (.cells #[.slice (some ⟨o1,0,none⟩) 3 5,.slice (some ⟨o2,0,none⟩) 1 2,.int .i64 2,.int .i64 0,.slice none 0 0,.slice none 0 0,.bool false] 36))) (fun _=>false) (by kernel_rfl) O_104 (fun hS=>?_)
    clear hS
    generalize wb.drew = W_107 at *
    refine wpAnyE.take (i:=1) (v:=?_) rfl (by kernel_rfl) (by kernel_rfl) (by kernel_rfl) (by kernel_rfl) (fun _ _ _ h=>h) (Or.inl ⟨by rfl,?_⟩) O_104 ?_
    rotate_left
    · intro w hSw;obtain ⟨e0,e1,e2,e3,e4,e5,e6⟩:=c7_of hSw;go_simp;with_reducible rfl
    try simp only [Act.put,uA,uB,uC,uD,uE,uF]
    refine wpAnyE.two (i:=0) (j:=6) (by kernel_rfl) rfl rfl (fun K hK=>?_) (fun K hK=>?_)
    · skip
      have hc_108:=host_any W_107
      go_simp
      refine hc_108.mono ?_
      clear hc_108
      rintro e W_109 ⟨h1,h2,rfl,hHh,h⟩
      have hB_110:=hB_103.trans (h.mono hB_103.size)
      have O_111:=(h.block _ (heap_lt O_104)).trans O_104
      have DO_112:=DO_105.below h
      have hs_113:=h.size
      clear O_104 DO_105 h hB_103
      refine hK _ _ (fun _=>O_111) ?_
      clear hK K
      try simp only [Act.put,uA,uB,uC,uD,uE,uF]
      refine wpAnyE.two (i:=2) (j:=6) (by kernel_rfl) rfl rfl (fun K hK=>?_) (fun K hK=>?_)
      · skip
        have hc_114:=begFrom1 W_109 (hg.below (hB_100.trans (hB_110.mono hB_100.size))) h1 h2 o1 o2 hHh DO_112.here
        go_simp
        refine hc_114.mono ?_
        clear hc_114
        rintro e W_115 ⟨qa,rfl,HQA,hDA,h⟩
        have hB_116:=hB_110.trans (h.mono hB_110.size)
        have O_117:=(h.block _ (heap_lt O_111)).trans O_111
        have DO_118:=DO_112.below h
        have Hh_119:=hHh.below h
        have hs_120:=h.size
        clear O_111 DO_112 hHh h hB_110
        clear Hh_119
        refine hK _ _ (fun _=>O_117) ?_
        clear hK K
        try simp only [Act.put,uA,uB,uC,uD,uE,uF]
        refine wpAnyE.take (i:=3) (v:=?_) rfl (by kernel_rfl) (by kernel_rfl) (by kernel_rfl) (by kernel_rfl) (fun _ _ _ h=>h) (Or.inl ⟨by rfl,?_⟩) O_117 ?_
        rotate_left
        · intro w hSw;obtain ⟨e0,e1,e2,e3,e4,e5,e6⟩:=c7_of hSw;go_simp;with_reducible rfl
        try simp only [Act.put,uA,uB,uC,uD,uE,uF]
        refine wpAnyE.take (i:=4) (v:=?_) rfl (by kernel_rfl) (by kernel_rfl) (by kernel_rfl) (by kernel_rfl) (fun _ _ _ h=>h) (Or.inl ⟨by rfl,?_⟩) O_117 ?_
        rotate_left
        · intro w hSw;obtain ⟨e0,e1,e2,e3,e4,e5,e6⟩:=c7_of hSw;go_simp;with_reducible rfl
        try simp only [Act.put,uA,uB,uC,uD,uE,uF]
        refine wpAnyE.take (i:=5) (v:=?_) rfl (by kernel_rfl) (by kernel_rfl) (by kernel_rfl) (by kernel_rfl) (fun _ _ _ h=>h) (Or.inl ⟨by rfl,?_⟩) O_117 ?_
        rotate_left
        · intro w hSw;obtain ⟨e0,e1,e2,e3,e4,e5,e6⟩:=c7_of hSw;go_simp;with_reducible rfl
        try simp only [Act.put,uA,uB,uC,uD,uE,uF]
        refine wpAnyE.one (i:=6) (by kernel_rfl) rfl (fun K hK=>?_)
        go_simp
        have hA_121:=below_alloc W_115 (.cells #[.slice none 0 0,.slice none 0 0,.int .i64 0,.int .i64 0,.slice none 0 0,.slice none 0 0,.bool false] 36)
        have A_122:=heap_alloc_new W_115 (.cells #[.slice none 0 0,.slice none 0 0,.int .i64 0,.int .i64 0,.slice none 0 0,.slice none 0 0,.bool false] 36)
        have hz_124 : W_115.heap.size < (W_115.alloc (.cells #[.slice none 0 0,.slice none 0 0,.int .i64 0,.int .i64 0,.slice none 0 0,.slice none 0 0,.bool false] 36)).heap.size:=by simp
        generalize W_115.alloc (.cells #[.slice none 0 0,.slice none 0 0,.int .i64 0,.int .i64 0,.slice none 0 0,.slice none 0 0,.bool false] 36) = W_123 at *
        have hB_125:=hB_116.trans (hA_121.mono hB_116.size)
        have O_126:=(hA_121.block _ (heap_lt O_117)).trans O_117
        have DO_127:=DO_118.below hA_121
        have DA_128:=hDA.below hA_121
        have hs_129:=hA_121.size
        clear O_117 DO_118 hDA hA_121 hB_116
        refine hK _ _ (fun _=>O_126) ?_
        clear hK K
        try simp only [Act.put,uA,uB,uC,uD,uE,uF]
        refine wpAnyE.one (i:=7) (by kernel_rfl) rfl (fun K hK=>?_)
        obtain ⟨Ac0,Ac1,Ac2,Ac3,Ac4,Ac5,Ac6⟩:=c7_of A_122
        have f_130:=f_of (o:=0) A_122
        have f_131:=f_of (o:=1) A_122
        have f_132:=f_of (o:=2) A_122
        have f_133:=f_of (o:=3) A_122
        have f_134:=f_of (o:=4) A_122
        have f_135:=f_of (o:=5) A_122
        have f_136:=f_of (o:=6) A_122
        obtain ⟨s_137,s_138,s_139⟩:=set7_block W_123 (W_115.heap.size) 36 (.slice qa.aS qa.r.s.length qa.cs) (.slice qa.al qa.r.l.length qa.cl) (.int .i64 qa.r.g) (.int .i64 qa.r.ph) (.slice qa.a1 qa.r.m.length qa.c1) (.slice qa.a2 qa.r.us.length qa.c2) (.bool qa.r.f) A_122
        have hB_140:=hB_125.trans (s_138.mono (by have:=hB_125.size;omega))
        have O_141:=(s_139 (p1) (by omega)).trans O_126
        have DO_142:=DO_127.next (Nat.le_trans DO_127.1 s_138.size) (fun j a b=>s_139 j (by omega))
        have DA_143:=DA_128.next (Nat.le_trans DA_128.1 s_138.size) (fun j a b=>s_139 j (by omega))
        have hz_144:=s_138.size
        go_simp
        generalize (((((((W_123.setCell ⟨W_115.heap.size,0,none⟩ (.slice qa.aS qa.r.s.length qa.cs)).setCell ⟨W_115.heap.size,1,none⟩ (.slice qa.al qa.r.l.length qa.cl)).setCell ⟨W_115.heap.size,2,none⟩ (.int .i64 qa.r.g)).setCell ⟨W_115.heap.size,3,none⟩ (.int .i64 qa.r.ph)).setCell ⟨W_115.heap.size,4,none⟩ (.slice qa.a1 qa.r.m.length qa.c1)).setCell ⟨W_115.heap.size,5,none⟩ (.slice qa.a2 qa.r.us.length qa.c2)).setCell ⟨W_115.heap.size,6,none⟩ (.bool qa.r.f)) = W_145 at *
        clear Ac0 Ac1 Ac2 Ac3 Ac4 Ac5 Ac6 f_130 f_131 f_132 f_133 f_134 f_135 f_136 O_126 A_122 DO_127 DA_128 hB_125 s_138 s_139
        refine hK _ _ (fun _=>O_141) ?_
        clear hK K
        try simp only [Act.put,uA,uB,uC,uD,uE,uF]
        refine wpAnyE.one (i:=8) (by kernel_rfl) rfl (fun K hK=>?_)
        go_simp
        refine hK _ _ (fun _=>O_141) ?_
        clear hK K
        try simp only [Act.put,uA,uB,uC,uD,uE,uF]
        refine wpAnyE.done (by kernel_rfl) ?_
        go_wp2
        go_meet
        case rel=>exact ⟨rfl,_,qa,rfl,s_137,HQA,DA_143.here,O_141,DO_142.here,hB_140⟩
      · skip
        go_simp
        have hA_146:=below_alloc W_109 (.cells #[.slice none 0 0,.slice none 0 0,.int .i64 0,.int .i64 0,.slice none 0 0,.slice none 0 0,.bool false] 36)
        have A_147:=heap_alloc_new W_109 (.cells #[.slice none 0 0,.slice none 0 0,.int .i64 0,.int .i64 0,.slice none 0 0,.slice none 0 0,.bool false] 36)
        have hz_149 : W_109.heap.size < (W_109.alloc (.cells #[.slice none 0 0,.slice none 0 0,.int .i64 0,.int .i64 0,.slice none 0 0,.slice none 0 0,.bool false] 36)).heap.size:=by simp
        generalize W_109.alloc (.cells #[.slice none 0 0,.slice none 0 0,.int .i64 0,.int .i64 0,.slice none 0 0,.slice none 0 0,.bool false] 36) = W_148 at *
        have hB_150:=hB_110.trans (hA_146.mono hB_110.size)
        have O_151:=(hA_146.block _ (heap_lt O_111)).trans O_111
        have DO_152:=DO_112.below hA_146
        have Hh_153:=hHh.below hA_146
        have hs_154:=hA_146.size
        clear O_111 DO_112 hHh hA_146 hB_110
        refine hK _ _ (fun _=>O_151) ?_
        clear hK K
        try simp only [Act.put,uA,uB,uC,uD,uE,uF]
        refine wpAnyE.one (i:=2) (by kernel_rfl) rfl (fun K hK=>?_)
        have hc_155:=begFrom1 W_148 (hg.below (hB_100.trans (hB_150.mono hB_100.size))) h1 h2 o1 o2 Hh_153 DO_152.here
        go_simp
        refine hc_155.mono ?_
        clear hc_155
        rintro e W_156 ⟨qa,rfl,HQA,hDA,h⟩
        have hB_157:=hB_150.trans (h.mono hB_150.size)
        have O_158:=(h.block _ (heap_lt O_151)).trans O_151
        have A_159:=(h.block _ (heap_lt A_147)).trans A_147
        have DO_160:=DO_152.below h
        have Hh_161:=Hh_153.below h
        have hs_162:=h.size
        clear O_151 A_147 DO_152 Hh_153 h hB_150
        clear Hh_161
        refine hK _ _ (fun _=>O_158) ?_
        clear hK K
        try simp only [Act.put,uA,uB,uC,uD,uE,uF]
        refine wpAnyE.take (i:=3) (v:=?_) rfl (by kernel_rfl) (by kernel_rfl) (by kernel_rfl) (by kernel_rfl) (fun _ _ _ h=>h) (Or.inl ⟨by rfl,?_⟩) O_158 ?_
        rotate_left
        · intro w hSw;obtain ⟨e0,e1,e2,e3,e4,e5,e6⟩:=c7_of hSw;go_simp;with_reducible rfl
        try simp only [Act.put,uA,uB,uC,uD,uE,uF]
        refine wpAnyE.take (i:=4) (v:=?_) rfl (by kernel_rfl) (by kernel_rfl) (by kernel_rfl) (by kernel_rfl) (fun _ _ _ h=>h) (Or.inl ⟨by rfl,?_⟩) O_158 ?_
        rotate_left
        · intro w hSw;obtain ⟨e0,e1,e2,e3,e4,e5,e6⟩:=c7_of hSw;go_simp;with_reducible rfl
        try simp only [Act.put,uA,uB,uC,uD,uE,uF]
        refine wpAnyE.take (i:=5) (v:=?_) rfl (by kernel_rfl) (by kernel_rfl) (by kernel_rfl) (by kernel_rfl) (fun _ _ _ h=>h) (Or.inl ⟨by rfl,?_⟩) O_158 ?_
        rotate_left
        · intro w hSw;obtain ⟨e0,e1,e2,e3,e4,e5,e6⟩:=c7_of hSw;go_simp;with_reducible rfl
        try simp only [Act.put,uA,uB,uC,uD,uE,uF]
        refine wpAnyE.one (i:=7) (by kernel_rfl) rfl (fun K hK=>?_)
        obtain ⟨Ac0,Ac1,Ac2,Ac3,Ac4,Ac5,Ac6⟩:=c7_of A_159
        have f_163:=f_of (o:=0) A_159
        have f_164:=f_of (o:=1) A_159
        have f_165:=f_of (o:=2) A_159
        have f_166:=f_of (o:=3) A_159
        have f_167:=f_of (o:=4) A_159
        have f_168:=f_of (o:=5) A_159
        have f_169:=f_of (o:=6) A_159
        obtain ⟨s_170,s_171,s_172⟩:=set7_block W_156 (W_109.heap.size) 36 (.slice qa.aS qa.r.s.length qa.cs) (.slice qa.al qa.r.l.length qa.cl) (.int .i64 qa.r.g) (.int .i64 qa.r.ph) (.slice qa.a1 qa.r.m.length qa.c1) (.slice qa.a2 qa.r.us.length qa.c2) (.bool qa.r.f) A_159
        have hB_173:=hB_157.trans (s_171.mono (by have:=hB_157.size;omega))
        have O_174:=(s_172 (p1) (by omega)).trans O_158
        have DO_175:=DO_160.next (Nat.le_trans DO_160.1 s_171.size) (fun j a b=>s_172 j (by omega))
        have DA_176:=hDA.next (Nat.le_trans hDA.1 s_171.size) (fun j a b=>s_172 j (by omega))
        have hz_177:=s_171.size
        go_simp
        generalize (((((((W_156.setCell ⟨W_109.heap.size,0,none⟩ (.slice qa.aS qa.r.s.length qa.cs)).setCell ⟨W_109.heap.size,1,none⟩ (.slice qa.al qa.r.l.length qa.cl)).setCell ⟨W_109.heap.size,2,none⟩ (.int .i64 qa.r.g)).setCell ⟨W_109.heap.size,3,none⟩ (.int .i64 qa.r.ph)).setCell ⟨W_109.heap.size,4,none⟩ (.slice qa.a1 qa.r.m.length qa.c1)).setCell ⟨W_109.heap.size,5,none⟩ (.slice qa.a2 qa.r.us.length qa.c2)).setCell ⟨W_109.heap.size,6,none⟩ (.bool qa.r.f)) = W_178 at *
        clear Ac0 Ac1 Ac2 Ac3 Ac4 Ac5 Ac6 f_163 f_164 f_165 f_166 f_167 f_168 f_169 O_158 A_159 DO_160 hDA hB_157 s_171 s_172
        refine hK _ _ (fun _=>O_174) ?_
        clear hK K
        try simp only [Act.put,uA,uB,uC,uD,uE,uF]
        refine wpAnyE.one (i:=8) (by kernel_rfl) rfl (fun K hK=>?_)
        go_simp
        refine hK _ _ (fun _=>O_174) ?_
        clear hK K
        try simp only [Act.put,uA,uB,uC,uD,uE,uF]
        refine wpAnyE.done (by kernel_rfl) ?_
        go_wp2
        go_meet
        case rel=>exact ⟨rfl,_,qa,rfl,s_170,HQA,DA_176.here,O_174,DO_175.here,hB_173⟩
    · skip
      go_simp
      have hA_179:=below_alloc W_107 (.cells #[.slice none 0 0,.slice none 0 0,.int .i64 0,.int .i64 0,.slice none 0 0,.slice none 0 0,.bool false] 36)
      have A_180:=heap_alloc_new W_107 (.cells #[.slice none 0 0,.slice none 0 0,.int .i64 0,.int .i64 0,.slice none 0 0,.slice none 0 0,.bool false] 36)
      have hz_182 : W_107.heap.size < (W_107.alloc (.cells #[.slice none 0 0,.slice none 0 0,.int .i64 0,.int .i64 0,.slice none 0 0,.slice none 0 0,.bool false] 36)).heap.size:=by simp
      generalize W_107.alloc (.cells #[.slice none 0 0,.slice none 0 0,.int .i64 0,.int .i64 0,.slice none 0 0,.slice none 0 0,.bool false] 36) = W_181 at *
      have hB_183:=hB_103.trans (hA_179.mono hB_103.size)
      have O_184:=(hA_179.block _ (heap_lt O_104)).trans O_104
      have DO_185:=DO_105.below hA_179
      have hs_186:=hA_179.size
      clear O_104 DO_105 hA_179 hB_103
      refine hK _ _ (fun _=>O_184) ?_
      clear hK K
      try simp only [Act.put,uA,uB,uC,uD,uE,uF]
      refine wpAnyE.one (i:=0) (by kernel_rfl) rfl (fun K hK=>?_)
      have hc_187:=host_any W_181
      go_simp
      refine hc_187.mono ?_
      clear hc_187
      rintro e W_188 ⟨h1,h2,rfl,hHh,h⟩
      have hB_189:=hB_183.trans (h.mono hB_183.size)
      have O_190:=(h.block _ (heap_lt O_184)).trans O_184
      have A_191:=(h.block _ (heap_lt A_180)).trans A_180
      have DO_192:=DO_185.below h
      have hs_193:=h.size
      clear O_184 A_180 DO_185 h hB_183
      refine hK _ _ (fun _=>O_190) ?_
      clear hK K
      try simp only [Act.put,uA,uB,uC,uD,uE,uF]
      refine wpAnyE.one (i:=2) (by kernel_rfl) rfl (fun K hK=>?_)
      have hc_194:=begFrom1 W_188 (hg.below (hB_100.trans (hB_189.mono hB_100.size))) h1 h2 o1 o2 hHh DO_192.here
      go_simp
      refine hc_194.mono ?_
      clear hc_194
      rintro e W_195 ⟨qa,rfl,HQA,hDA,h⟩
      have hB_196:=hB_189.trans (h.mono hB_189.size)
      have O_197:=(h.block _ (heap_lt O_190)).trans O_190
      have A_198:=(h.block _ (heap_lt A_191)).trans A_191
      have DO_199:=DO_192.below h
      have Hh_200:=hHh.below h
      have hs_201:=h.size
      clear O_190 A_191 DO_192 hHh h hB_189
      clear Hh_200
      refine hK _ _ (fun _=>O_197) ?_
      clear hK K
      try simp only [Act.put,uA,uB,uC,uD,uE,uF]
      refine wpAnyE.take (i:=3) (v:=?_) rfl (by kernel_rfl) (by kernel_rfl) (by kernel_rfl) (by kernel_rfl) (fun _ _ _ h=>h) (Or.inl ⟨by rfl,?_⟩) O_197 ?_
      rotate_left
      · intro w hSw;obtain ⟨e0,e1,e2,e3,e4,e5,e6⟩:=c7_of hSw;go_simp;with_reducible rfl
      try simp only [Act.put,uA,uB,uC,uD,uE,uF]
      refine wpAnyE.take (i:=4) (v:=?_) rfl (by kernel_rfl) (by kernel_rfl) (by kernel_rfl) (by kernel_rfl) (fun _ _ _ h=>h) (Or.inl ⟨by rfl,?_⟩) O_197 ?_
      rotate_left
      · intro w hSw;obtain ⟨e0,e1,e2,e3,e4,e5,e6⟩:=c7_of hSw;go_simp;with_reducible rfl
      try simp only [Act.put,uA,uB,uC,uD,uE,uF]
      refine wpAnyE.take (i:=5) (v:=?_) rfl (by kernel_rfl) (by kernel_rfl) (by kernel_rfl) (by kernel_rfl) (fun _ _ _ h=>h) (Or.inl ⟨by rfl,?_⟩) O_197 ?_
      rotate_left
      · intro w hSw;obtain ⟨e0,e1,e2,e3,e4,e5,e6⟩:=c7_of hSw;go_simp;with_reducible rfl
      try simp only [Act.put,uA,uB,uC,uD,uE,uF]
      refine wpAnyE.one (i:=7) (by kernel_rfl) rfl (fun K hK=>?_)
      obtain ⟨Ac0,Ac1,Ac2,Ac3,Ac4,Ac5,Ac6⟩:=c7_of A_198
      have f_202:=f_of (o:=0) A_198
      have f_203:=f_of (o:=1) A_198
      have f_204:=f_of (o:=2) A_198
      have f_205:=f_of (o:=3) A_198
      have f_206:=f_of (o:=4) A_198
      have f_207:=f_of (o:=5) A_198
      have f_208:=f_of (o:=6) A_198
      obtain ⟨s_209,s_210,s_211⟩:=set7_block W_195 (W_107.heap.size) 36 (.slice qa.aS qa.r.s.length qa.cs) (.slice qa.al qa.r.l.length qa.cl) (.int .i64 qa.r.g) (.int .i64 qa.r.ph) (.slice qa.a1 qa.r.m.length qa.c1) (.slice qa.a2 qa.r.us.length qa.c2) (.bool qa.r.f) A_198
      have hB_212:=hB_196.trans (s_210.mono (by have:=hB_196.size;omega))
      have O_213:=(s_211 (p1) (by omega)).trans O_197
      have DO_214:=DO_199.next (Nat.le_trans DO_199.1 s_210.size) (fun j a b=>s_211 j (by omega))
      have DA_215:=hDA.next (Nat.le_trans hDA.1 s_210.size) (fun j a b=>s_211 j (by omega))
      have hz_216:=s_210.size
      go_simp
      generalize (((((((W_195.setCell ⟨W_107.heap.size,0,none⟩ (.slice qa.aS qa.r.s.length qa.cs)).setCell ⟨W_107.heap.size,1,none⟩ (.slice qa.al qa.r.l.length qa.cl)).setCell ⟨W_107.heap.size,2,none⟩ (.int .i64 qa.r.g)).setCell ⟨W_107.heap.size,3,none⟩ (.int .i64 qa.r.ph)).setCell ⟨W_107.heap.size,4,none⟩ (.slice qa.a1 qa.r.m.length qa.c1)).setCell ⟨W_107.heap.size,5,none⟩ (.slice qa.a2 qa.r.us.length qa.c2)).setCell ⟨W_107.heap.size,6,none⟩ (.bool qa.r.f)) = W_217 at *
      clear Ac0 Ac1 Ac2 Ac3 Ac4 Ac5 Ac6 f_202 f_203 f_204 f_205 f_206 f_207 f_208 O_197 A_198 DO_199 hDA hB_196 s_210 s_211
      refine hK _ _ (fun _=>O_213) ?_
      clear hK K
      try simp only [Act.put,uA,uB,uC,uD,uE,uF]
      refine wpAnyE.one (i:=8) (by kernel_rfl) rfl (fun K hK=>?_)
      go_simp
      refine hK _ _ (fun _=>O_213) ?_
      clear hK K
      try simp only [Act.put,uA,uB,uC,uD,uE,uF]
      refine wpAnyE.done (by kernel_rfl) ?_
      go_wp2
      go_meet
      case rel=>exact ⟨rfl,_,qa,rfl,s_209,HQA,DA_215.here,O_213,DO_214.here,hB_212⟩
  case rest =>
  clear DO kO
  obtain ⟨rfl,p2,qa,rfl,kA,HQA,HA,kO,HO,h⟩:=hcut
  obtain ⟨wd,hwd⟩ : ∃ x,x = wc:=⟨_,rfl⟩
  subst hwd
  have hlAwd:=heap_lt kA
  have hlOwd:=heap_lt kO
  have hB_218:=hB_100.trans (h.mono hB_100.size)
  have hs_219:=h.size
  clear h hB_100
  have DO:=HO.dep
  have DA:=HA.dep
  clear HO HA
  go_wp2_with fail
  go_cut [4,5] from 20 to 25 (fun s4 s5 wx=>s5 = .int .i64 4 ∧ (∃ p4,s4 = .pointer (some ⟨p4,0,none⟩)) ∧ wx.heap[p1]? = some (.cells #[.slice (some ⟨o1,0,none⟩) 3 5,.slice (some ⟨o2,0,none⟩) 1 2,.int .i64 2,.int .i64 0,.slice none 0 0,.slice none 0 0,.bool false] 36) ∧ wx.heap[p2]? = some (Rq.blk qa) ∧ (oldQ o1 o2).H wx ∧ Rq.H wx qa ∧ Below wd.heap.size wd wx)
  case first =>
    have hBj:=Below.refl wd.heap.size wd
    have hd_220:=below_refl_drew wd
    have hB_221:=hBj.trans (hd_220.mono hBj.size)
    have O_222:=(hd_220.block _ (heap_lt kO)).trans kO
    have A_223:=(hd_220.block _ (heap_lt kA)).trans kA
    have DO_224:=DO.below hd_220
    have DA_225:=DA.below hd_220
    have hs_226:=hd_220.size
    clear kO kA DO DA hd_220 hBj
    refine wp_region_E (fun W=>(W.heap[p1]? = some (.cells #[.slice (some ⟨o1,0,none⟩) 3 5,.slice (some ⟨o2,0,none⟩) 1 2,.int .i64 2,.int .i64 0,.slice none 0 0,.slice none 0 0,.bool false] 36))) (fun _=>false) (by kernel_rfl) O_222 (fun hS=>?_)
    clear hS
    generalize wd.drew = W_227 at *
    refine wpAnyE.take (i:=0) (v:=?_) rfl (by kernel_rfl) (by kernel_rfl) (by kernel_rfl) (by kernel_rfl) (fun _ _ _ h=>h) (Or.inl ⟨by rfl,?_⟩) O_222 ?_
    rotate_left
    · intro w hSw;obtain ⟨e0,e1,e2,e3,e4,e5,e6⟩:=c7_of hSw;go_simp;with_reducible rfl
    try simp only [Act.put,uA,uC,uD,uE,uF]
    refine wpAnyE.two (i:=1) (j:=6) (by kernel_rfl) rfl rfl (fun K hK=>?_) (fun K hK=>?_)
    · skip
      have hc_228:=host_any W_227
      go_simp
      refine hc_228.mono ?_
      clear hc_228
      rintro e W_229 ⟨h1,h2,rfl,hHh,h⟩
      have hB_230:=hB_221.trans (h.mono hB_221.size)
      have O_231:=(h.block _ (heap_lt O_222)).trans O_222
      have A_232:=(h.block _ (heap_lt A_223)).trans A_223
      have DO_233:=DO_224.below h
      have DA_234:=DA_225.below h
      have hs_235:=h.size
      clear O_222 A_223 DO_224 DA_225 h hB_221
      refine hK _ _ (fun _=>O_231) ?_
      clear hK K
      try simp only [Act.put,uA,uB,uC,uD,uE,uF]
      refine wpAnyE.two (i:=2) (j:=6) (by kernel_rfl) rfl rfl (fun K hK=>?_) (fun K hK=>?_)
      · skip
        have hc_236:=begFrom2 W_229 (hg.below (hB_218.trans (hB_230.mono hB_218.size))) h1 h2 o1 o2 hHh DO_233.here
        go_simp
        refine hc_236.mono ?_
        clear hc_236
        rintro e W_237 ⟨rfl,h⟩
        have hB_238:=hB_230.trans (h.mono hB_230.size)
        have O_239:=(h.block _ (heap_lt O_231)).trans O_231
        have A_240:=(h.block _ (heap_lt A_232)).trans A_232
        have DO_241:=DO_233.below h
        have DA_242:=DA_234.below h
        have Hh_243:=hHh.below h
        have hs_244:=h.size
        clear O_231 A_232 DO_233 DA_234 hHh h hB_230
        clear Hh_243
        refine hK _ _ (fun _=>O_239) ?_
        clear hK K
        try simp only [Act.put,uA,uB,uC,uD,uE,uF]
        refine wpAnyE.take (i:=3) (v:=?_) rfl (by kernel_rfl) (by kernel_rfl) (by kernel_rfl) (by kernel_rfl) (fun _ _ _ h=>h) (Or.inl ⟨by rfl,?_⟩) O_239 ?_
        rotate_left
        · intro w hSw;obtain ⟨e0,e1,e2,e3,e4,e5,e6⟩:=c7_of hSw;go_simp;with_reducible rfl
        try simp only [Act.put,uA,uB,uC,uD,uE,uF]
        refine wpAnyE.take (i:=4) (v:=?_) rfl (by kernel_rfl) (by kernel_rfl) (by kernel_rfl) (by kernel_rfl) (fun _ _ _ h=>h) (Or.inl ⟨by rfl,?_⟩) O_239 ?_
        rotate_left
        · intro w hSw;obtain ⟨e0,e1,e2,e3,e4,e5,e6⟩:=c7_of hSw;go_simp;with_reducible rfl
        try simp only [Act.put,uA,uB,uC,uD,uE,uF]
        refine wpAnyE.take (i:=5) (v:=?_) rfl (by kernel_rfl) (by kernel_rfl) (by kernel_rfl) (by kernel_rfl) (fun _ _ _ h=>h) (Or.inl ⟨by rfl,?_⟩) O_239 ?_
        rotate_left
        · intro w hSw;obtain ⟨e0,e1,e2,e3,e4,e5,e6⟩:=c7_of hSw;go_simp;with_reducible rfl
        try simp only [Act.put,uA,uB,uC,uD,uE,uF]
        refine wpAnyE.one (i:=6) (by kernel_rfl) rfl (fun K hK=>?_)
        go_simp
        have hA_245:=below_alloc W_237 (.cells #[.slice none 0 0,.slice none 0 0,.int .i64 0,.int .i64 0,.slice none 0 0,.slice none 0 0,.bool false] 36)
        have B_246:=heap_alloc_new W_237 (.cells #[.slice none 0 0,.slice none 0 0,.int .i64 0,.int .i64 0,.slice none 0 0,.slice none 0 0,.bool false] 36)
        have hz_248 : W_237.heap.size < (W_237.alloc (.cells #[.slice none 0 0,.slice none 0 0,.int .i64 0,.int .i64 0,.slice none 0 0,.slice none 0 0,.bool false] 36)).heap.size:=by simp
        generalize W_237.alloc (.cells #[.slice none 0 0,.slice none 0 0,.int .i64 0,.int .i64 0,.slice none 0 0,.slice none 0 0,.bool false] 36) = W_247 at *
        have hB_249:=hB_238.trans (hA_245.mono hB_238.size)
        have O_250:=(hA_245.block _ (heap_lt O_239)).trans O_239
        have A_251:=(hA_245.block _ (heap_lt A_240)).trans A_240
        have DO_252:=DO_241.below hA_245
        have DA_253:=DA_242.below hA_245
        have hs_254:=hA_245.size
        clear O_239 A_240 DO_241 DA_242 hA_245 hB_238
        refine hK _ _ (fun _=>O_250) ?_
        clear hK K
        try simp only [Act.put,uA,uB,uC,uD,uE,uF]
        refine wpAnyE.one (i:=7) (by kernel_rfl) rfl (fun K hK=>?_)
        obtain ⟨Bc0,Bc1,Bc2,Bc3,Bc4,Bc5,Bc6⟩:=c7_of B_246
        have f_255:=f_of (o:=0) B_246
        have f_256:=f_of (o:=1) B_246
        have f_257:=f_of (o:=2) B_246
        have f_258:=f_of (o:=3) B_246
        have f_259:=f_of (o:=4) B_246
        have f_260:=f_of (o:=5) B_246
        have f_261:=f_of (o:=6) B_246
        obtain ⟨s_262,s_263,s_264⟩:=set7_block W_247 (W_237.heap.size) 36 (.slice none 0 0) (.slice none 0 0) (.int .i64 0) (.int .i64 0) (.slice none 0 0) (.slice none 0 0) (.bool false) B_246
        have hB_265:=hB_249.trans (s_263.mono (by have:=hB_249.size;omega))
        have O_266:=(s_264 (p1) (by omega)).trans O_250
        have A_267:=(s_264 (p2) (by omega)).trans A_251
        have DO_268:=DO_252.next (Nat.le_trans DO_252.1 s_263.size) (fun j a b=>s_264 j (by omega))
        have DA_269:=DA_253.next (Nat.le_trans DA_253.1 s_263.size) (fun j a b=>s_264 j (by omega))
        have hz_270:=s_263.size
        go_simp
        generalize (((((((W_247.setCell ⟨W_237.heap.size,0,none⟩ (.slice none 0 0)).setCell ⟨W_237.heap.size,1,none⟩ (.slice none 0 0)).setCell ⟨W_237.heap.size,2,none⟩ (.int .i64 0)).setCell ⟨W_237.heap.size,3,none⟩ (.int .i64 0)).setCell ⟨W_237.heap.size,4,none⟩ (.slice none 0 0)).setCell ⟨W_237.heap.size,5,none⟩ (.slice none 0 0)).setCell ⟨W_237.heap.size,6,none⟩ (.bool false)) = W_271 at *
        clear Bc0 Bc1 Bc2 Bc3 Bc4 Bc5 Bc6 f_255 f_256 f_257 f_258 f_259 f_260 f_261 O_250 A_251 B_246 DO_252 DA_253 hB_249 s_263 s_264
        refine hK _ _ (fun _=>O_266) ?_
        clear hK K
        try simp only [Act.put,uA,uB,uC,uD,uE,uF]
        refine wpAnyE.one (i:=8) (by kernel_rfl) rfl (fun K hK=>?_)
        go_simp
        refine hK _ _ (fun _=>O_266) ?_
        clear hK K
        try simp only [Act.put,uA,uB,uC,uD,uE,uF]
        refine wpAnyE.done (by kernel_rfl) ?_
        go_wp2
        go_meet
        case rel=>exact ⟨rfl,⟨_,rfl⟩,O_266,A_267,DO_268.here,DA_269.here,hB_265⟩
      · skip
        go_simp
        have hA_272:=below_alloc W_229 (.cells #[.slice none 0 0,.slice none 0 0,.int .i64 0,.int .i64 0,.slice none 0 0,.slice none 0 0,.bool false] 36)
        have B_273:=heap_alloc_new W_229 (.cells #[.slice none 0 0,.slice none 0 0,.int .i64 0,.int .i64 0,.slice none 0 0,.slice none 0 0,.bool false] 36)
        have hz_275 : W_229.heap.size < (W_229.alloc (.cells #[.slice none 0 0,.slice none 0 0,.int .i64 0,.int .i64 0,.slice none 0 0,.slice none 0 0,.bool false] 36)).heap.size:=by simp
        generalize W_229.alloc (.cells #[.slice none 0 0,.slice none 0 0,.int .i64 0,.int .i64 0,.slice none 0 0,.slice none 0 0,.bool false] 36) = W_274 at *
        have hB_276:=hB_230.trans (hA_272.mono hB_230.size)
        have O_277:=(hA_272.block _ (heap_lt O_231)).trans O_231
        have A_278:=(hA_272.block _ (heap_lt A_232)).trans A_232
        have DO_279:=DO_233.below hA_272
        have DA_280:=DA_234.below hA_272
        have Hh_281:=hHh.below hA_272
        have hs_282:=hA_272.size
        clear O_231 A_232 DO_233 DA_234 hHh hA_272 hB_230
        refine hK _ _ (fun _=>O_277) ?_
        clear hK K
        try simp only [Act.put,uA,uB,uC,uD,uE,uF]
        refine wpAnyE.one (i:=2) (by kernel_rfl) rfl (fun K hK=>?_)
        have hc_283:=begFrom2 W_274 (hg.below (hB_218.trans (hB_276.mono hB_218.size))) h1 h2 o1 o2 Hh_281 DO_279.here
        go_simp
        refine hc_283.mono ?_
        clear hc_283
        rintro e W_284 ⟨rfl,h⟩
        have hB_285:=hB_276.trans (h.mono hB_276.size)
        have O_286:=(h.block _ (heap_lt O_277)).trans O_277
        have A_287:=(h.block _ (heap_lt A_278)).trans A_278
        have B_288:=(h.block _ (heap_lt B_273)).trans B_273
        have DO_289:=DO_279.below h
        have DA_290:=DA_280.below h
        have Hh_291:=Hh_281.below h
        have hs_292:=h.size
        clear O_277 A_278 B_273 DO_279 DA_280 Hh_281 h hB_276
        clear Hh_291
        refine hK _ _ (fun _=>O_286) ?_
        clear hK K
        try simp only [Act.put,uA,uB,uC,uD,uE,uF]
        refine wpAnyE.take (i:=3) (v:=?_) rfl (by kernel_rfl) (by kernel_rfl) (by kernel_rfl) (by kernel_rfl) (fun _ _ _ h=>h) (Or.inl ⟨by rfl,?_⟩) O_286 ?_
        rotate_left
        · intro w hSw;obtain ⟨e0,e1,e2,e3,e4,e5,e6⟩:=c7_of hSw;go_simp;with_reducible rfl
        try simp only [Act.put,uA,uB,uC,uD,uE,uF]
        refine wpAnyE.take (i:=4) (v:=?_) rfl (by kernel_rfl) (by kernel_rfl) (by kernel_rfl) (by kernel_rfl) (fun _ _ _ h=>h) (Or.inl ⟨by rfl,?_⟩) O_286 ?_
        rotate_left
        · intro w hSw;obtain ⟨e0,e1,e2,e3,e4,e5,e6⟩:=c7_of hSw;go_simp;with_reducible rfl
        try simp only [Act.put,uA,uB,uC,uD,uE,uF]
        refine wpAnyE.take (i:=5) (v:=?_) rfl (by kernel_rfl) (by kernel_rfl) (by kernel_rfl) (by kernel_rfl) (fun _ _ _ h=>h) (Or.inl ⟨by rfl,?_⟩) O_286 ?_
        rotate_left
        · intro w hSw;obtain ⟨e0,e1,e2,e3,e4,e5,e6⟩:=c7_of hSw;go_simp;with_reducible rfl
        try simp only [Act.put,uA,uB,uC,uD,uE,uF]
        refine wpAnyE.one (i:=7) (by kernel_rfl) rfl (fun K hK=>?_)
        obtain ⟨Bc0,Bc1,Bc2,Bc3,Bc4,Bc5,Bc6⟩:=c7_of B_288
        have f_293:=f_of (o:=0) B_288
        have f_294:=f_of (o:=1) B_288
        have f_295:=f_of (o:=2) B_288
        have f_296:=f_of (o:=3) B_288
        have f_297:=f_of (o:=4) B_288
        have f_298:=f_of (o:=5) B_288
        have f_299:=f_of (o:=6) B_288
        obtain ⟨s_300,s_301,s_302⟩:=set7_block W_284 (W_229.heap.size) 36 (.slice none 0 0) (.slice none 0 0) (.int .i64 0) (.int .i64 0) (.slice none 0 0) (.slice none 0 0) (.bool false) B_288
        have hB_303:=hB_285.trans (s_301.mono (by have:=hB_285.size;omega))
        have O_304:=(s_302 (p1) (by omega)).trans O_286
        have A_305:=(s_302 (p2) (by omega)).trans A_287
        have DO_306:=DO_289.next (Nat.le_trans DO_289.1 s_301.size) (fun j a b=>s_302 j (by omega))
        have DA_307:=DA_290.next (Nat.le_trans DA_290.1 s_301.size) (fun j a b=>s_302 j (by omega))
        have hz_308:=s_301.size
        go_simp
        generalize (((((((W_284.setCell ⟨W_229.heap.size,0,none⟩ (.slice none 0 0)).setCell ⟨W_229.heap.size,1,none⟩ (.slice none 0 0)).setCell ⟨W_229.heap.size,2,none⟩ (.int .i64 0)).setCell ⟨W_229.heap.size,3,none⟩ (.int .i64 0)).setCell ⟨W_229.heap.size,4,none⟩ (.slice none 0 0)).setCell ⟨W_229.heap.size,5,none⟩ (.slice none 0 0)).setCell ⟨W_229.heap.size,6,none⟩ (.bool false)) = W_309 at *
        clear Bc0 Bc1 Bc2 Bc3 Bc4 Bc5 Bc6 f_293 f_294 f_295 f_296 f_297 f_298 f_299 O_286 A_287 B_288 DO_289 DA_290 hB_285 s_301 s_302
        refine hK _ _ (fun _=>O_304) ?_
        clear hK K
        try simp only [Act.put,uA,uB,uC,uD,uE,uF]
        refine wpAnyE.one (i:=8) (by kernel_rfl) rfl (fun K hK=>?_)
        go_simp
        refine hK _ _ (fun _=>O_304) ?_
        clear hK K
        try simp only [Act.put,uA,uB,uC,uD,uE,uF]
        refine wpAnyE.done (by kernel_rfl) ?_
        go_wp2
        go_meet
        case rel=>exact ⟨rfl,⟨_,rfl⟩,O_304,A_305,DO_306.here,DA_307.here,hB_303⟩
    · skip
      go_simp
      have hA_310:=below_alloc W_227 (.cells #[.slice none 0 0,.slice none 0 0,.int .i64 0,.int .i64 0,.slice none 0 0,.slice none 0 0,.bool false] 36)
      have B_311:=heap_alloc_new W_227 (.cells #[.slice none 0 0,.slice none 0 0,.int .i64 0,.int .i64 0,.slice none 0 0,.slice none 0 0,.bool false] 36)
      have hz_313 : W_227.heap.size < (W_227.alloc (.cells #[.slice none 0 0,.slice none 0 0,.int .i64 0,.int .i64 0,.slice none 0 0,.slice none 0 0,.bool false] 36)).heap.size:=by simp
      generalize W_227.alloc (.cells #[.slice none 0 0,.slice none 0 0,.int .i64 0,.int .i64 0,.slice none 0 0,.slice none 0 0,.bool false] 36) = W_312 at *
      have hB_314:=hB_221.trans (hA_310.mono hB_221.size)
      have O_315:=(hA_310.block _ (heap_lt O_222)).trans O_222
      have A_316:=(hA_310.block _ (heap_lt A_223)).trans A_223
      have DO_317:=DO_224.below hA_310
      have DA_318:=DA_225.below hA_310
      have hs_319:=hA_310.size
      clear O_222 A_223 DO_224 DA_225 hA_310 hB_221
      refine hK _ _ (fun _=>O_315) ?_
      clear hK K
      try simp only [Act.put,uA,uB,uC,uD,uE,uF]
      refine wpAnyE.one (i:=1) (by kernel_rfl) rfl (fun K hK=>?_)
      have hc_320:=host_any W_312
      go_simp
      refine hc_320.mono ?_
      clear hc_320
      rintro e W_321 ⟨h1,h2,rfl,hHh,h⟩
      have hB_322:=hB_314.trans (h.mono hB_314.size)
      have O_323:=(h.block _ (heap_lt O_315)).trans O_315
      have A_324:=(h.block _ (heap_lt A_316)).trans A_316
      have B_325:=(h.block _ (heap_lt B_311)).trans B_311
      have DO_326:=DO_317.below h
      have DA_327:=DA_318.below h
      have hs_328:=h.size
      clear O_315 A_316 B_311 DO_317 DA_318 h hB_314
      refine hK _ _ (fun _=>O_323) ?_
      clear hK K
      try simp only [Act.put,uA,uB,uC,uD,uE,uF]
      refine wpAnyE.one (i:=2) (by kernel_rfl) rfl (fun K hK=>?_)
      have hc_329:=begFrom2 W_321 (hg.below (hB_218.trans (hB_322.mono hB_218.size))) h1 h2 o1 o2 hHh DO_326.here
      go_simp
      refine hc_329.mono ?_
      clear hc_329
      rintro e W_330 ⟨rfl,h⟩
      have hB_331:=hB_322.trans (h.mono hB_322.size)
      have O_332:=(h.block _ (heap_lt O_323)).trans O_323
      have A_333:=(h.block _ (heap_lt A_324)).trans A_324
      have B_334:=(h.block _ (heap_lt B_325)).trans B_325
      have DO_335:=DO_326.below h
      have DA_336:=DA_327.below h
      have Hh_337:=hHh.below h
      have hs_338:=h.size
      clear O_323 A_324 B_325 DO_326 DA_327 hHh h hB_322
      clear Hh_337
      refine hK _ _ (fun _=>O_332) ?_
      clear hK K
      try simp only [Act.put,uA,uB,uC,uD,uE,uF]
      refine wpAnyE.take (i:=3) (v:=?_) rfl (by kernel_rfl) (by kernel_rfl) (by kernel_rfl) (by kernel_rfl) (fun _ _ _ h=>h) (Or.inl ⟨by rfl,?_⟩) O_332 ?_
      rotate_left
      · intro w hSw;obtain ⟨e0,e1,e2,e3,e4,e5,e6⟩:=c7_of hSw;go_simp;with_reducible rfl
      try simp only [Act.put,uA,uB,uC,uD,uE,uF]
      refine wpAnyE.take (i:=4) (v:=?_) rfl (by kernel_rfl) (by kernel_rfl) (by kernel_rfl) (by kernel_rfl) (fun _ _ _ h=>h) (Or.inl ⟨by rfl,?_⟩) O_332 ?_
      rotate_left
      · intro w hSw;obtain ⟨e0,e1,e2,e3,e4,e5,e6⟩:=c7_of hSw;go_simp;with_reducible rfl
      try simp only [Act.put,uA,uB,uC,uD,uE,uF]
      refine wpAnyE.take (i:=5) (v:=?_) rfl (by kernel_rfl) (by kernel_rfl) (by kernel_rfl) (by kernel_rfl) (fun _ _ _ h=>h) (Or.inl ⟨by rfl,?_⟩) O_332 ?_
      rotate_left
      · intro w hSw;obtain ⟨e0,e1,e2,e3,e4,e5,e6⟩:=c7_of hSw;go_simp;with_reducible rfl
      try simp only [Act.put,uA,uB,uC,uD,uE,uF]
      refine wpAnyE.one (i:=7) (by kernel_rfl) rfl (fun K hK=>?_)
      obtain ⟨Bc0,Bc1,Bc2,Bc3,Bc4,Bc5,Bc6⟩:=c7_of B_334
      have f_339:=f_of (o:=0) B_334
      have f_340:=f_of (o:=1) B_334
      have f_341:=f_of (o:=2) B_334
      have f_342:=f_of (o:=3) B_334
      have f_343:=f_of (o:=4) B_334
      have f_344:=f_of (o:=5) B_334
      have f_345:=f_of (o:=6) B_334
      obtain ⟨s_346,s_347,s_348⟩:=set7_block W_330 (W_227.heap.size) 36 (.slice none 0 0) (.slice none 0 0) (.int .i64 0) (.int .i64 0) (.slice none 0 0) (.slice none 0 0) (.bool false) B_334
      have hB_349:=hB_331.trans (s_347.mono (by have:=hB_331.size;omega))
      have O_350:=(s_348 (p1) (by omega)).trans O_332
      have A_351:=(s_348 (p2) (by omega)).trans A_333
      have DO_352:=DO_335.next (Nat.le_trans DO_335.1 s_347.size) (fun j a b=>s_348 j (by omega))
      have DA_353:=DA_336.next (Nat.le_trans DA_336.1 s_347.size) (fun j a b=>s_348 j (by omega))
      have hz_354:=s_347.size
      go_simp
      generalize (((((((W_330.setCell ⟨W_227.heap.size,0,none⟩ (.slice none 0 0)).setCell ⟨W_227.heap.size,1,none⟩ (.slice none 0 0)).setCell ⟨W_227.heap.size,2,none⟩ (.int .i64 0)).setCell ⟨W_227.heap.size,3,none⟩ (.int .i64 0)).setCell ⟨W_227.heap.size,4,none⟩ (.slice none 0 0)).setCell ⟨W_227.heap.size,5,none⟩ (.slice none 0 0)).setCell ⟨W_227.heap.size,6,none⟩ (.bool false)) = W_355 at *
      clear Bc0 Bc1 Bc2 Bc3 Bc4 Bc5 Bc6 f_339 f_340 f_341 f_342 f_343 f_344 f_345 O_332 A_333 B_334 DO_335 DA_336 hB_331 s_347 s_348
      refine hK _ _ (fun _=>O_350) ?_
      clear hK K
      try simp only [Act.put,uA,uB,uC,uD,uE,uF]
      refine wpAnyE.one (i:=8) (by kernel_rfl) rfl (fun K hK=>?_)
      go_simp
      refine hK _ _ (fun _=>O_350) ?_
      clear hK K
      try simp only [Act.put,uA,uB,uC,uD,uE,uF]
      refine wpAnyE.done (by kernel_rfl) ?_
      go_wp2
      go_meet
      case rel=>exact ⟨rfl,⟨_,rfl⟩,O_350,A_351,DO_352.here,DA_353.here,hB_349⟩
  case rest =>
  clear DO DA kO kA
  obtain ⟨rfl,⟨p4,rfl⟩,kO,kA,HO,HA,h⟩:=hcut
  obtain ⟨we,hwe⟩ : ∃ x,x = wc:=⟨_,rfl⟩
  subst hwe
  have hlAwe:=heap_lt kA
  have hlOwe:=heap_lt kO
  have hB_356:=hB_218.trans (h.mono hB_218.size)
  have hs_357:=h.size
  clear h hB_218
  have DO:=HO.dep
  have DA:=HA.dep
  clear HO HA
  go_wp2_with fail
  go_cut [6,7,8] from 26 to 35 (fun s6 s7 s8 wx=>s7 = .int .i64 1 ∧ s8 = .int .i64 0 ∧ ∃ p6 BB cap qs,s6 = .pointer (some ⟨p6,0,none⟩) ∧ wx.heap[p6]? = some (.cells #[.slice (some ⟨BB,0,none⟩) 3 cap] 24) ∧ Hid (qs.map Rq.r = [hostP,hostP,hostP]) ∧ HoldsQ wx (some ⟨BB,0,none⟩) qs ∧ wx.heap[p2]? = some (Rq.blk qa) ∧ Rq.H wx qa ∧ Below we.heap.size we wx)
  case first =>
    have hBk:=Below.refl we.heap.size we
    have hd_358:=below_refl_drew we
    have hB_359:=hBk.trans (hd_358.mono hBk.size)
    have O_360:=(hd_358.block _ (heap_lt kO)).trans kO
    have A_361:=(hd_358.block _ (heap_lt kA)).trans kA
    have DO_362:=DO.below hd_358
    have DA_363:=DA.below hd_358
    have hs_364:=hd_358.size
    clear kO kA DO DA hd_358 hBk
    refine wp_region_E (fun W=>(W.heap[p1]? = some (.cells #[.slice (some ⟨o1,0,none⟩) 3 5,.slice (some ⟨o2,0,none⟩) 1 2,.int .i64 2,.int .i64 0,.slice none 0 0,.slice none 0 0,.bool false] 36))) (fun _=>false) (by kernel_rfl) O_360 (fun hS=>?_)
    clear hS
    generalize we.drew = W_365 at *
    refine wpAnyE.take (i:=1) (v:=?_) rfl (by kernel_rfl) (by kernel_rfl) (by kernel_rfl) (by kernel_rfl) (fun _ _ _ h=>h) (Or.inl ⟨by rfl,?_⟩) O_360 ?_
    rotate_left
    · intro w hSw;obtain ⟨e0,e1,e2,e3,e4,e5,e6⟩:=c7_of hSw;go_simp;with_reducible rfl
    try simp only [Act.put,uA,uB,uC,uD,uE,uF]
    refine wpAnyE.two (i:=0) (j:=10) (by kernel_rfl) rfl rfl (fun K hK=>?_) (fun K hK=>?_)
    · skip
      have hc_366:=host_any W_365
      go_simp
      refine hc_366.mono ?_
      clear hc_366
      rintro e W_367 ⟨h11,h12,rfl,hHh1,h⟩
      have hB_368:=hB_359.trans (h.mono hB_359.size)
      have O_369:=(h.block _ (heap_lt O_360)).trans O_360
      have A_370:=(h.block _ (heap_lt A_361)).trans A_361
      have DO_371:=DO_362.below h
      have DA_372:=DA_363.below h
      have hs_373:=h.size
      clear O_360 A_361 DO_362 DA_363 h hB_359
      refine hK _ _ (fun _=>O_369) ?_
      clear hK K
      try simp only [Act.put,uA,uB,uC,uD,uE,uF]
      refine wpAnyE.two (i:=2) (j:=10) (by kernel_rfl) rfl rfl (fun K hK=>?_) (fun K hK=>?_)
      · skip
        have hc_374:=host_any W_367
        go_simp
        refine hc_374.mono ?_
        clear hc_374
        rintro e W_375 ⟨h21,h22,rfl,hHh2,h⟩
        have hB_376:=hB_368.trans (h.mono hB_368.size)
        have O_377:=(h.block _ (heap_lt O_369)).trans O_369
        have A_378:=(h.block _ (heap_lt A_370)).trans A_370
        have DO_379:=DO_371.below h
        have DA_380:=DA_372.below h
        have Hh1_381:=hHh1.below h
        have hs_382:=h.size
        clear O_369 A_370 DO_371 DA_372 hHh1 h hB_368
        refine hK _ _ (fun _=>O_377) ?_
        clear hK K
        try simp only [Act.put,uA,uB,uC,uD,uE,uF]
        refine wpAnyE.two (i:=3) (j:=10) (by kernel_rfl) rfl rfl (fun K hK=>?_) (fun K hK=>?_)
        · skip
          go_simp
          have hA_383:=below_alloc W_375 (.cells #[.slice (some ⟨h11,0,none⟩) 5 5,.slice (some ⟨h12,0,none⟩) 2 2,.int .i64 7,.int .i64 0,.slice none 0 0,.slice none 0 0,.bool false,.slice (some ⟨o1,0,none⟩) 3 5,.slice (some ⟨o2,0,none⟩) 1 2,.int .i64 2,.int .i64 0,.slice none 0 0,.slice none 0 0,.bool false,.slice (some ⟨h21,0,none⟩) 5 5,.slice (some ⟨h22,0,none⟩) 2 2,.int .i64 7,.int .i64 0,.slice none 0 0,.slice none 0 0,.bool false] 36)
          have R_384:=heap_alloc_new W_375 (.cells #[.slice (some ⟨h11,0,none⟩) 5 5,.slice (some ⟨h12,0,none⟩) 2 2,.int .i64 7,.int .i64 0,.slice none 0 0,.slice none 0 0,.bool false,.slice (some ⟨o1,0,none⟩) 3 5,.slice (some ⟨o2,0,none⟩) 1 2,.int .i64 2,.int .i64 0,.slice none 0 0,.slice none 0 0,.bool false,.slice (some ⟨h21,0,none⟩) 5 5,.slice (some ⟨h22,0,none⟩) 2 2,.int .i64 7,.int .i64 0,.slice none 0 0,.slice none 0 0,.bool false] 36)
          obtain ⟨pR,hpR⟩ : ∃ p,p = W_375.heap.size:=⟨_,rfl⟩
          rw [← hpR] at R_384 ⊢
          clear hpR
          generalize W_375.alloc (.cells #[.slice (some ⟨h11,0,none⟩) 5 5,.slice (some ⟨h12,0,none⟩) 2 2,.int .i64 7,.int .i64 0,.slice none 0 0,.slice none 0 0,.bool false,.slice (some ⟨o1,0,none⟩) 3 5,.slice (some ⟨o2,0,none⟩) 1 2,.int .i64 2,.int .i64 0,.slice none 0 0,.slice none 0 0,.bool false,.slice (some ⟨h21,0,none⟩) 5 5,.slice (some ⟨h22,0,none⟩) 2 2,.int .i64 7,.int .i64 0,.slice none 0 0,.slice none 0 0,.bool false] 36) = W_385 at *
          have hB_387:=hB_376.trans (hA_383.mono hB_376.size)
          have O_388:=(hA_383.block _ (heap_lt O_377)).trans O_377
          have A_389:=(hA_383.block _ (heap_lt A_378)).trans A_378
          have DO_390:=DO_379.below hA_383
          have DA_391:=DA_380.below hA_383
          have Hh1_392:=Hh1_381.below hA_383
          have Hh2_393:=hHh2.below hA_383
          have hs_394:=hA_383.size
          clear O_377 A_378 DO_379 DA_380 Hh1_381 hHh2 hA_383 hB_376
          refine hK _ _ (fun _=>O_388) ?_
          clear hK K
          try simp only [Act.put,uA,uB,uC,uD,uE,uF]
          refine wpAnyE.take (i:=4) (v:=?_) rfl (by kernel_rfl) (by kernel_rfl) (by kernel_rfl) (by kernel_rfl) (fun _ _ _ h=>h) (Or.inl ⟨by rfl,?_⟩) O_388 ?_
          rotate_left
          · intro w hSw;obtain ⟨e0,e1,e2,e3,e4,e5,e6⟩:=c7_of hSw;go_simp;with_reducible rfl
          try simp only [Act.put,uA,uB,uC,uD,uE,uF]
          refine wpAnyE.two (i:=5) (j:=10) (by kernel_rfl) rfl rfl (fun K hK=>?_) (fun K hK=>?_)
          · skip
            have hQ3 : HoldsQ W_385 (some ⟨pR,0,none⟩) [hostQ h11 h12,oldQ o1 o2,hostQ h21 h22]:=holds_three R_384 Hh1_392 DO_390.here Hh2_393
            have hc_395:=begAll W_385 (hg.below (hB_356.trans (hB_387.mono hB_356.size))) pR h11 h12 o1 o2 h21 h22 hQ3
            go_simp
            refine hc_395.mono ?_
            clear hc_395
            rintro e W_396 ⟨BB,cap,qs,rfl,HQS,hDQ,h⟩
            have hB_397:=hB_387.trans (h.mono hB_387.size)
            have O_398:=(h.block _ (heap_lt O_388)).trans O_388
            have A_399:=(h.block _ (heap_lt A_389)).trans A_389
            have R_400:=(h.block _ (heap_lt R_384)).trans R_384
            have DO_401:=DO_390.below h
            have DA_402:=DA_391.below h
            have Hh1_403:=Hh1_392.below h
            have Hh2_404:=Hh2_393.below h
            have hs_405:=h.size
            clear O_388 A_389 R_384 DO_390 DA_391 Hh1_392 Hh2_393 h hB_387
            clear Hh1_403 Hh2_404 R_400 hQ3
            refine hK _ _ (fun _=>O_398) ?_
            clear hK K
            try simp only [Act.put,uA,uB,uC,uD,uE,uF]
            refine wpAnyE.take (i:=6) (v:=?_) rfl (by kernel_rfl) (by kernel_rfl) (by kernel_rfl) (by kernel_rfl) (fun _ _ _ h=>h) (Or.inl ⟨by rfl,?_⟩) O_398 ?_
            rotate_left
            · intro w hSw;obtain ⟨e0,e1,e2,e3,e4,e5,e6⟩:=c7_of hSw;go_simp;with_reducible rfl
            try simp only [Act.put,uA,uB,uC,uD,uE,uF]
            refine wpAnyE.take (i:=7) (v:=?_) rfl (by kernel_rfl) (by kernel_rfl) (by kernel_rfl) (by kernel_rfl) (fun _ _ _ h=>h) (Or.inl ⟨by rfl,?_⟩) O_398 ?_
            rotate_left
            · intro w hSw;obtain ⟨e0,e1,e2,e3,e4,e5,e6⟩:=c7_of hSw;go_simp;with_reducible rfl
            try simp only [Act.put,uA,uB,uC,uD,uE,uF]
            refine wpAnyE.take (i:=8) (v:=?_) rfl (by kernel_rfl) (by kernel_rfl) (by kernel_rfl) (by kernel_rfl) (fun _ _ _ h=>h) (Or.inl ⟨by rfl,?_⟩) O_398 ?_
            rotate_left
            · intro w hSw;obtain ⟨e0,e1,e2,e3,e4,e5,e6⟩:=c7_of hSw;go_simp;with_reducible rfl
            try simp only [Act.put,uA,uB,uC,uD,uE,uF]
            refine wpAnyE.take (i:=9) (v:=?_) rfl (by kernel_rfl) (by kernel_rfl) (by kernel_rfl) (by kernel_rfl) (fun _ _ _ h=>h) (Or.inl ⟨by rfl,?_⟩) O_398 ?_
            rotate_left
            · intro w hSw;obtain ⟨e0,e1,e2,e3,e4,e5,e6⟩:=c7_of hSw;go_simp;with_reducible rfl
            try simp only [Act.put,uA,uB,uC,uD,uE,uF]
            refine wpAnyE.one (i:=10) (by kernel_rfl) rfl (fun K hK=>?_)
            go_simp
            have hA_406:=below_alloc W_396 (.cells #[.slice none 0 0] 24)
            have C_407:=heap_alloc_new W_396 (.cells #[.slice none 0 0] 24)
            have hz_409 : W_396.heap.size < (W_396.alloc (.cells #[.slice none 0 0] 24)).heap.size:=by simp
            generalize W_396.alloc (.cells #[.slice none 0 0] 24) = W_408 at *
            have hB_410:=hB_397.trans (hA_406.mono hB_397.size)
            have O_411:=(hA_406.block _ (heap_lt O_398)).trans O_398
            have A_412:=(hA_406.block _ (heap_lt A_399)).trans A_399
            have DO_413:=DO_401.below hA_406
            have DA_414:=DA_402.below hA_406
            have DQ_415:=hDQ.below hA_406
            have hs_416:=hA_406.size
            clear O_398 A_399 DO_401 DA_402 hDQ hA_406 hB_397
            refine hK _ _ (fun _=>O_411) ?_
            clear hK K
            try simp only [Act.put,uA,uB,uC,uD,uE,uF]
            refine wpAnyE.one (i:=11) (by kernel_rfl) rfl (fun K hK=>?_)
            have f_418:=f_of (o:=0) C_407
            have z_417:=c1_of C_407
            have s_419:=heap_setCell_same W_408 (W_396.heap.size) 0 _ _ (.slice (some ⟨BB,0,none⟩) 3 cap) C_407
            have hB_420 : Below _ _ (W_408.setCell ⟨W_396.heap.size,0,none⟩ (.slice (some ⟨BB,0,none⟩) 3 cap)):=hB_410.setCell (by have:=hB_410.size;show _ ≤ W_396.heap.size;omega) _
            have O_422:=(heap_setCell_other W_408 ⟨W_396.heap.size,0,none⟩ (p1) (.slice (some ⟨BB,0,none⟩) 3 cap) (by show p1 ≠ W_396.heap.size;omega)).trans O_411
            have A_423:=(heap_setCell_other W_408 ⟨W_396.heap.size,0,none⟩ (p2) (.slice (some ⟨BB,0,none⟩) 3 cap) (by show p2 ≠ W_396.heap.size;omega)).trans A_412
            have DO_424:=DO_413.set (p:=W_396.heap.size) (o:=0) (v:=.slice (some ⟨BB,0,none⟩) 3 cap) (by omega)
            have DA_425:=DA_414.set (p:=W_396.heap.size) (o:=0) (v:=.slice (some ⟨BB,0,none⟩) 3 cap) (by omega)
            have DQ_426:=DQ_415.set (p:=W_396.heap.size) (o:=0) (v:=.slice (some ⟨BB,0,none⟩) 3 cap) (by omega)
            have hz_427 : W_408.heap.size ≤ (W_408.setCell ⟨W_396.heap.size,0,none⟩ (.slice (some ⟨BB,0,none⟩) 3 cap)).heap.size:=setcell_size _ _ _
            go_simp
            generalize (W_408.setCell ⟨W_396.heap.size,0,none⟩ (.slice (some ⟨BB,0,none⟩) 3 cap)) = W_421 at *
            clear z_417 f_418 O_411 A_412 C_407 DO_413 DA_414 DQ_415 hB_410
            simp only [List.setIfInBounds_toArray,List.set_cons_zero] at s_419
            refine hK _ _ (fun _=>O_422) ?_
            clear hK K
            try simp only [Act.put,uA,uB,uC,uD,uE,uF]
            refine wpAnyE.one (i:=12) (by kernel_rfl) rfl (fun K hK=>?_)
            go_simp
            refine hK _ _ (fun _=>O_422) ?_
            clear hK K
            try simp only [Act.put,uA,uB,uC,uD,uE,uF]
            refine wpAnyE.one (i:=13) (by kernel_rfl) rfl (fun K hK=>?_)
            go_simp
            refine hK _ _ (fun _=>O_422) ?_
            clear hK K
            try simp only [Act.put,uA,uB,uC,uD,uE,uF]
            refine wpAnyE.done (by kernel_rfl) ?_
            go_wp2
            go_meet
            case rel=>exact ⟨rfl,rfl,_,BB,cap,qs,rfl,s_419,HQS,DQ_426.here,A_423,DA_425.here,hB_420⟩
          · skip
            go_simp
            have hA_428:=below_alloc W_385 (.cells #[.slice none 0 0] 24)
            have C_429:=heap_alloc_new W_385 (.cells #[.slice none 0 0] 24)
            have hz_431 : W_385.heap.size < (W_385.alloc (.cells #[.slice none 0 0] 24)).heap.size:=by simp
            generalize W_385.alloc (.cells #[.slice none 0 0] 24) = W_430 at *
            have hB_432:=hB_387.trans (hA_428.mono hB_387.size)
            have O_433:=(hA_428.block _ (heap_lt O_388)).trans O_388
            have A_434:=(hA_428.block _ (heap_lt A_389)).trans A_389
            have R_435:=(hA_428.block _ (heap_lt R_384)).trans R_384
            have DO_436:=DO_390.below hA_428
            have DA_437:=DA_391.below hA_428
            have Hh1_438:=Hh1_392.below hA_428
            have Hh2_439:=Hh2_393.below hA_428
            have hs_440:=hA_428.size
            clear O_388 A_389 R_384 DO_390 DA_391 Hh1_392 Hh2_393 hA_428 hB_387
            refine hK _ _ (fun _=>O_433) ?_
            clear hK K
            try simp only [Act.put,uA,uB,uC,uD,uE,uF]
            refine wpAnyE.one (i:=5) (by kernel_rfl) rfl (fun K hK=>?_)
            have hQ3 : HoldsQ W_430 (some ⟨pR,0,none⟩) [hostQ h11 h12,oldQ o1 o2,hostQ h21 h22]:=holds_three R_435 Hh1_438 DO_436.here Hh2_439
            have hc_441:=begAll W_430 (hg.below (hB_356.trans (hB_432.mono hB_356.size))) pR h11 h12 o1 o2 h21 h22 hQ3
            go_simp
            refine hc_441.mono ?_
            clear hc_441
            rintro e W_442 ⟨BB,cap,qs,rfl,HQS,hDQ,h⟩
            have hB_443:=hB_432.trans (h.mono hB_432.size)
            have O_444:=(h.block _ (heap_lt O_433)).trans O_433
            have A_445:=(h.block _ (heap_lt A_434)).trans A_434
            have R_446:=(h.block _ (heap_lt R_435)).trans R_435
            have C_447:=(h.block _ (heap_lt C_429)).trans C_429
            have DO_448:=DO_436.below h
            have DA_449:=DA_437.below h
            have Hh1_450:=Hh1_438.below h
            have Hh2_451:=Hh2_439.below h
            have hs_452:=h.size
            clear O_433 A_434 R_435 C_429 DO_436 DA_437 Hh1_438 Hh2_439 h hB_432
            clear Hh1_450 Hh2_451 R_446 hQ3
            refine hK _ _ (fun _=>O_444) ?_
            clear hK K
            try simp only [Act.put,uA,uB,uC,uD,uE,uF]
            refine wpAnyE.take (i:=6) (v:=?_) rfl (by kernel_rfl) (by kernel_rfl) (by kernel_rfl) (by kernel_rfl) (fun _ _ _ h=>h) (Or.inl ⟨by rfl,?_⟩) O_444 ?_
            rotate_left
            · intro w hSw;obtain ⟨e0,e1,e2,e3,e4,e5,e6⟩:=c7_of hSw;go_simp;with_reducible rfl
            try simp only [Act.put,uA,uB,uC,uD,uE,uF]
            refine wpAnyE.take (i:=7) (v:=?_) rfl (by kernel_rfl) (by kernel_rfl) (by kernel_rfl) (by kernel_rfl) (fun _ _ _ h=>h) (Or.inl ⟨by rfl,?_⟩) O_444 ?_
            rotate_left
            · intro w hSw;obtain ⟨e0,e1,e2,e3,e4,e5,e6⟩:=c7_of hSw;go_simp;with_reducible rfl
            try simp only [Act.put,uA,uB,uC,uD,uE,uF]
            refine wpAnyE.take (i:=8) (v:=?_) rfl (by kernel_rfl) (by kernel_rfl) (by kernel_rfl) (by kernel_rfl) (fun _ _ _ h=>h) (Or.inl ⟨by rfl,?_⟩) O_444 ?_
            rotate_left
            · intro w hSw;obtain ⟨e0,e1,e2,e3,e4,e5,e6⟩:=c7_of hSw;go_simp;with_reducible rfl
            try simp only [Act.put,uA,uB,uC,uD,uE,uF]
            refine wpAnyE.take (i:=9) (v:=?_) rfl (by kernel_rfl) (by kernel_rfl) (by kernel_rfl) (by kernel_rfl) (fun _ _ _ h=>h) (Or.inl ⟨by rfl,?_⟩) O_444 ?_
            rotate_left
            · intro w hSw;obtain ⟨e0,e1,e2,e3,e4,e5,e6⟩:=c7_of hSw;go_simp;with_reducible rfl
            try simp only [Act.put,uA,uB,uC,uD,uE,uF]
            refine wpAnyE.one (i:=11) (by kernel_rfl) rfl (fun K hK=>?_)
            have f_454:=f_of (o:=0) C_447
            have z_453:=c1_of C_447
            have s_455:=heap_setCell_same W_442 (W_385.heap.size) 0 _ _ (.slice (some ⟨BB,0,none⟩) 3 cap) C_447
            have hB_456 : Below _ _ (W_442.setCell ⟨W_385.heap.size,0,none⟩ (.slice (some ⟨BB,0,none⟩) 3 cap)):=hB_443.setCell (by have:=hB_443.size;show _ ≤ W_385.heap.size;omega) _
            have O_458:=(heap_setCell_other W_442 ⟨W_385.heap.size,0,none⟩ (p1) (.slice (some ⟨BB,0,none⟩) 3 cap) (by show p1 ≠ W_385.heap.size;omega)).trans O_444
            have A_459:=(heap_setCell_other W_442 ⟨W_385.heap.size,0,none⟩ (p2) (.slice (some ⟨BB,0,none⟩) 3 cap) (by show p2 ≠ W_385.heap.size;omega)).trans A_445
            have DO_460:=DO_448.set (p:=W_385.heap.size) (o:=0) (v:=.slice (some ⟨BB,0,none⟩) 3 cap) (by omega)
            have DA_461:=DA_449.set (p:=W_385.heap.size) (o:=0) (v:=.slice (some ⟨BB,0,none⟩) 3 cap) (by omega)
            have DQ_462:=hDQ.set (p:=W_385.heap.size) (o:=0) (v:=.slice (some ⟨BB,0,none⟩) 3 cap) (by omega)
            have hz_463 : W_442.heap.size ≤ (W_442.setCell ⟨W_385.heap.size,0,none⟩ (.slice (some ⟨BB,0,none⟩) 3 cap)).heap.size:=setcell_size _ _ _
            go_simp
            generalize (W_442.setCell ⟨W_385.heap.size,0,none⟩ (.slice (some ⟨BB,0,none⟩) 3 cap)) = W_457 at *
            clear z_453 f_454 O_444 A_445 C_447 DO_448 DA_449 hDQ hB_443
            simp only [List.setIfInBounds_toArray,List.set_cons_zero] at s_455
            refine hK _ _ (fun _=>O_458) ?_
            clear hK K
            try simp only [Act.put,uA,uB,uC,uD,uE,uF]
            refine wpAnyE.one (i:=12) (by kernel_rfl) rfl (fun K hK=>?_)
            go_simp
            refine hK _ _ (fun _=>O_458) ?_
            clear hK K
            try simp only [Act.put,uA,uB,uC,uD,uE,uF]
            refine wpAnyE.one (i:=13) (by kernel_rfl) rfl (fun K hK=>?_)
            go_simp
            refine hK _ _ (fun _=>O_458) ?_
            clear hK K
            try simp only [Act.put,uA,uB,uC,uD,uE,uF]
            refine wpAnyE.done (by kernel_rfl) ?_
            go_wp2
            go_meet
            case rel=>exact ⟨rfl,rfl,_,BB,cap,qs,rfl,s_455,HQS,DQ_462.here,A_459,DA_461.here,hB_456⟩
        · skip
          go_simp
          have hA_464:=below_alloc W_375 (.cells #[.slice none 0 0] 24)
          have C_465:=heap_alloc_new W_375 (.cells #[.slice none 0 0] 24)
          have hz_467 : W_375.heap.size < (W_375.alloc (.cells #[.slice none 0 0] 24)).heap.size:=by simp
          generalize W_375.alloc (.cells #[.slice none 0 0] 24) = W_466 at *
          have hB_468:=hB_376.trans (hA_464.mono hB_376.size)
          have O_469:=(hA_464.block _ (heap_lt O_377)).trans O_377
          have A_470:=(hA_464.block _ (heap_lt A_378)).trans A_378
          have DO_471:=DO_379.below hA_464
          have DA_472:=DA_380.below hA_464
          have Hh1_473:=Hh1_381.below hA_464
          have Hh2_474:=hHh2.below hA_464
          have hs_475:=hA_464.size
          clear O_377 A_378 DO_379 DA_380 Hh1_381 hHh2 hA_464 hB_376
          refine hK _ _ (fun _=>O_469) ?_
          clear hK K
          try simp only [Act.put,uA,uB,uC,uD,uE,uF]
          refine wpAnyE.one (i:=3) (by kernel_rfl) rfl (fun K hK=>?_)
          go_simp
          have hA_476:=below_alloc W_466 (.cells #[.slice (some ⟨h11,0,none⟩) 5 5,.slice (some ⟨h12,0,none⟩) 2 2,.int .i64 7,.int .i64 0,.slice none 0 0,.slice none 0 0,.bool false,.slice (some ⟨o1,0,none⟩) 3 5,.slice (some ⟨o2,0,none⟩) 1 2,.int .i64 2,.int .i64 0,.slice none 0 0,.slice none 0 0,.bool false,.slice (some ⟨h21,0,none⟩) 5 5,.slice (some ⟨h22,0,none⟩) 2 2,.int .i64 7,.int .i64 0,.slice none 0 0,.slice none 0 0,.bool false] 36)
          have R_477:=heap_alloc_new W_466 (.cells #[.slice (some ⟨h11,0,none⟩) 5 5,.slice (some ⟨h12,0,none⟩) 2 2,.int .i64 7,.int .i64 0,.slice none 0 0,.slice none 0 0,.bool false,.slice (some ⟨o1,0,none⟩) 3 5,.slice (some ⟨o2,0,none⟩) 1 2,.int .i64 2,.int .i64 0,.slice none 0 0,.slice none 0 0,.bool false,.slice (some ⟨h21,0,none⟩) 5 5,.slice (some ⟨h22,0,none⟩) 2 2,.int .i64 7,.int .i64 0,.slice none 0 0,.slice none 0 0,.bool false] 36)
          obtain ⟨pR,hpR⟩ : ∃ p,p = W_466.heap.size:=⟨_,rfl⟩
          rw [← hpR] at R_477 ⊢
          clear hpR
          generalize W_466.alloc (.cells #[.slice (some ⟨h11,0,none⟩) 5 5,.slice (some ⟨h12,0,none⟩) 2 2,.int .i64 7,.int .i64 0,.slice none 0 0,.slice none 0 0,.bool false,.slice (some ⟨o1,0,none⟩) 3 5,.slice (some ⟨o2,0,none⟩) 1 2,.int .i64 2,.int .i64 0,.slice none 0 0,.slice none 0 0,.bool false,.slice (some ⟨h21,0,none⟩) 5 5,.slice (some ⟨h22,0,none⟩) 2 2,.int .i64 7,.int .i64 0,.slice none 0 0,.slice none 0 0,.bool false] 36) = W_478 at *
          have hB_480:=hB_468.trans (hA_476.mono hB_468.size)
          have O_481:=(hA_476.block _ (heap_lt O_469)).trans O_469
          have A_482:=(hA_476.block _ (heap_lt A_470)).trans A_470
          have C_483:=(hA_476.block _ (heap_lt C_465)).trans C_465
          have DO_484:=DO_471.below hA_476
          have DA_485:=DA_472.below hA_476
          have Hh1_486:=Hh1_473.below hA_476
          have Hh2_487:=Hh2_474.below hA_476
          have hs_488:=hA_476.size
          clear O_469 A_470 C_465 DO_471 DA_472 Hh1_473 Hh2_474 hA_476 hB_468
          refine hK _ _ (fun _=>O_481) ?_
          clear hK K
          try simp only [Act.put,uA,uB,uC,uD,uE,uF]
          refine wpAnyE.take (i:=4) (v:=?_) rfl (by kernel_rfl) (by kernel_rfl) (by kernel_rfl) (by kernel_rfl) (fun _ _ _ h=>h) (Or.inl ⟨by rfl,?_⟩) O_481 ?_
          rotate_left
          · intro w hSw;obtain ⟨e0,e1,e2,e3,e4,e5,e6⟩:=c7_of hSw;go_simp;with_reducible rfl
          try simp only [Act.put,uA,uB,uC,uD,uE,uF]
          refine wpAnyE.one (i:=5) (by kernel_rfl) rfl (fun K hK=>?_)
          have hQ3 : HoldsQ W_478 (some ⟨pR,0,none⟩) [hostQ h11 h12,oldQ o1 o2,hostQ h21 h22]:=holds_three R_477 Hh1_486 DO_484.here Hh2_487
          have hc_489:=begAll W_478 (hg.below (hB_356.trans (hB_480.mono hB_356.size))) pR h11 h12 o1 o2 h21 h22 hQ3
          go_simp
          refine hc_489.mono ?_
          clear hc_489
          rintro e W_490 ⟨BB,cap,qs,rfl,HQS,hDQ,h⟩
          have hB_491:=hB_480.trans (h.mono hB_480.size)
          have O_492:=(h.block _ (heap_lt O_481)).trans O_481
          have A_493:=(h.block _ (heap_lt A_482)).trans A_482
          have C_494:=(h.block _ (heap_lt C_483)).trans C_483
          have R_495:=(h.block _ (heap_lt R_477)).trans R_477
          have DO_496:=DO_484.below h
          have DA_497:=DA_485.below h
          have Hh1_498:=Hh1_486.below h
          have Hh2_499:=Hh2_487.below h
          have hs_500:=h.size
          clear O_481 A_482 C_483 R_477 DO_484 DA_485 Hh1_486 Hh2_487 h hB_480
          clear Hh1_498 Hh2_499 R_495 hQ3
          refine hK _ _ (fun _=>O_492) ?_
          clear hK K
          try simp only [Act.put,uA,uB,uC,uD,uE,uF]
          refine wpAnyE.take (i:=6) (v:=?_) rfl (by kernel_rfl) (by kernel_rfl) (by kernel_rfl) (by kernel_rfl) (fun _ _ _ h=>h) (Or.inl ⟨by rfl,?_⟩) O_492 ?_
          rotate_left
          · intro w hSw;obtain ⟨e0,e1,e2,e3,e4,e5,e6⟩:=c7_of hSw;go_simp;with_reducible rfl
          try simp only [Act.put,uA,uB,uC,uD,uE,uF]
          refine wpAnyE.take (i:=7) (v:=?_) rfl (by kernel_rfl) (by kernel_rfl) (by kernel_rfl) (by kernel_rfl) (fun _ _ _ h=>h) (Or.inl ⟨by rfl,?_⟩) O_492 ?_
          rotate_left
          · intro w hSw;obtain ⟨e0,e1,e2,e3,e4,e5,e6⟩:=c7_of hSw;go_simp;with_reducible rfl
          try simp only [Act.put,uA,uB,uC,uD,uE,uF]
          refine wpAnyE.take (i:=8) (v:=?_) rfl (by kernel_rfl) (by kernel_rfl) (by kernel_rfl) (by kernel_rfl) (fun _ _ _ h=>h) (Or.inl ⟨by rfl,?_⟩) O_492 ?_
          rotate_left
          · intro w hSw;obtain ⟨e0,e1,e2,e3,e4,e5,e6⟩:=c7_of hSw;go_simp;with_reducible rfl
          try simp only [Act.put,uA,uB,uC,uD,uE,uF]
          refine wpAnyE.take (i:=9) (v:=?_) rfl (by kernel_rfl) (by kernel_rfl) (by kernel_rfl) (by kernel_rfl) (fun _ _ _ h=>h) (Or.inl ⟨by rfl,?_⟩) O_492 ?_
          rotate_left
          · intro w hSw;obtain ⟨e0,e1,e2,e3,e4,e5,e6⟩:=c7_of hSw;go_simp;with_reducible rfl
          try simp only [Act.put,uA,uB,uC,uD,uE,uF]
          refine wpAnyE.one (i:=11) (by kernel_rfl) rfl (fun K hK=>?_)
          have f_502:=f_of (o:=0) C_494
          have z_501:=c1_of C_494
          have s_503:=heap_setCell_same W_490 (W_375.heap.size) 0 _ _ (.slice (some ⟨BB,0,none⟩) 3 cap) C_494
          have hB_504 : Below _ _ (W_490.setCell ⟨W_375.heap.size,0,none⟩ (.slice (some ⟨BB,0,none⟩) 3 cap)):=hB_491.setCell (by have:=hB_491.size;show _ ≤ W_375.heap.size;omega) _
          have O_506:=(heap_setCell_other W_490 ⟨W_375.heap.size,0,none⟩ (p1) (.slice (some ⟨BB,0,none⟩) 3 cap) (by show p1 ≠ W_375.heap.size;omega)).trans O_492
          have A_507:=(heap_setCell_other W_490 ⟨W_375.heap.size,0,none⟩ (p2) (.slice (some ⟨BB,0,none⟩) 3 cap) (by show p2 ≠ W_375.heap.size;omega)).trans A_493
          have DO_508:=DO_496.set (p:=W_375.heap.size) (o:=0) (v:=.slice (some ⟨BB,0,none⟩) 3 cap) (by omega)
          have DA_509:=DA_497.set (p:=W_375.heap.size) (o:=0) (v:=.slice (some ⟨BB,0,none⟩) 3 cap) (by omega)
          have DQ_510:=hDQ.set (p:=W_375.heap.size) (o:=0) (v:=.slice (some ⟨BB,0,none⟩) 3 cap) (by omega)
          have hz_511 : W_490.heap.size ≤ (W_490.setCell ⟨W_375.heap.size,0,none⟩ (.slice (some ⟨BB,0,none⟩) 3 cap)).heap.size:=setcell_size _ _ _
          go_simp
          generalize (W_490.setCell ⟨W_375.heap.size,0,none⟩ (.slice (some ⟨BB,0,none⟩) 3 cap)) = W_505 at *
          clear z_501 f_502 O_492 A_493 C_494 DO_496 DA_497 hDQ hB_491
          simp only [List.setIfInBounds_toArray,List.set_cons_zero] at s_503
          refine hK _ _ (fun _=>O_506) ?_
          clear hK K
          try simp only [Act.put,uA,uB,uC,uD,uE,uF]
          refine wpAnyE.one (i:=12) (by kernel_rfl) rfl (fun K hK=>?_)
          go_simp
          refine hK _ _ (fun _=>O_506) ?_
          clear hK K
          try simp only [Act.put,uA,uB,uC,uD,uE,uF]
          refine wpAnyE.one (i:=13) (by kernel_rfl) rfl (fun K hK=>?_)
          go_simp
          refine hK _ _ (fun _=>O_506) ?_
          clear hK K
          try simp only [Act.put,uA,uB,uC,uD,uE,uF]
          refine wpAnyE.done (by kernel_rfl) ?_
          go_wp2
          go_meet
          case rel=>exact ⟨rfl,rfl,_,BB,cap,qs,rfl,s_503,HQS,DQ_510.here,A_507,DA_509.here,hB_504⟩
      · skip
        go_simp
        have hA_512:=below_alloc W_367 (.cells #[.slice none 0 0] 24)
        have C_513:=heap_alloc_new W_367 (.cells #[.slice none 0 0] 24)
        have hz_515 : W_367.heap.size < (W_367.alloc (.cells #[.slice none 0 0] 24)).heap.size:=by simp
        generalize W_367.alloc (.cells #[.slice none 0 0] 24) = W_514 at *
        have hB_516:=hB_368.trans (hA_512.mono hB_368.size)
        have O_517:=(hA_512.block _ (heap_lt O_369)).trans O_369
        have A_518:=(hA_512.block _ (heap_lt A_370)).trans A_370
        have DO_519:=DO_371.below hA_512
        have DA_520:=DA_372.below hA_512
        have Hh1_521:=hHh1.below hA_512
        have hs_522:=hA_512.size
        clear O_369 A_370 DO_371 DA_372 hHh1 hA_512 hB_368
        refine hK _ _ (fun _=>O_517) ?_
        clear hK K
        try simp only [Act.put,uA,uB,uC,uD,uE,uF]
        refine wpAnyE.one (i:=2) (by kernel_rfl) rfl (fun K hK=>?_)
        have hc_523:=host_any W_514
        go_simp
        refine hc_523.mono ?_
        clear hc_523
        rintro e W_524 ⟨h21,h22,rfl,hHh2,h⟩
        have hB_525:=hB_516.trans (h.mono hB_516.size)
        have O_526:=(h.block _ (heap_lt O_517)).trans O_517
        have A_527:=(h.block _ (heap_lt A_518)).trans A_518
        have C_528:=(h.block _ (heap_lt C_513)).trans C_513
        have DO_529:=DO_519.below h
        have DA_530:=DA_520.below h
        have Hh1_531:=Hh1_521.below h
        have hs_532:=h.size
        clear O_517 A_518 C_513 DO_519 DA_520 Hh1_521 h hB_516
        refine hK _ _ (fun _=>O_526) ?_
        clear hK K
        try simp only [Act.put,uA,uB,uC,uD,uE,uF]
        refine wpAnyE.one (i:=3) (by kernel_rfl) rfl (fun K hK=>?_)
        go_simp
        have hA_533:=below_alloc W_524 (.cells #[.slice (some ⟨h11,0,none⟩) 5 5,.slice (some ⟨h12,0,none⟩) 2 2,.int .i64 7,.int .i64 0,.slice none 0 0,.slice none 0 0,.bool false,.slice (some ⟨o1,0,none⟩) 3 5,.slice (some ⟨o2,0,none⟩) 1 2,.int .i64 2,.int .i64 0,.slice none 0 0,.slice none 0 0,.bool false,.slice (some ⟨h21,0,none⟩) 5 5,.slice (some ⟨h22,0,none⟩) 2 2,.int .i64 7,.int .i64 0,.slice none 0 0,.slice none 0 0,.bool false] 36)
        have R_534:=heap_alloc_new W_524 (.cells #[.slice (some ⟨h11,0,none⟩) 5 5,.slice (some ⟨h12,0,none⟩) 2 2,.int .i64 7,.int .i64 0,.slice none 0 0,.slice none 0 0,.bool false,.slice (some ⟨o1,0,none⟩) 3 5,.slice (some ⟨o2,0,none⟩) 1 2,.int .i64 2,.int .i64 0,.slice none 0 0,.slice none 0 0,.bool false,.slice (some ⟨h21,0,none⟩) 5 5,.slice (some ⟨h22,0,none⟩) 2 2,.int .i64 7,.int .i64 0,.slice none 0 0,.slice none 0 0,.bool false] 36)
        obtain ⟨pR,hpR⟩ : ∃ p,p = W_524.heap.size:=⟨_,rfl⟩
        rw [← hpR] at R_534 ⊢
        clear hpR
        generalize W_524.alloc (.cells #[.slice (some ⟨h11,0,none⟩) 5 5,.slice (some ⟨h12,0,none⟩) 2 2,.int .i64 7,.int .i64 0,.slice none 0 0,.slice none 0 0,.bool false,.slice (some ⟨o1,0,none⟩) 3 5,.slice (some ⟨o2,0,none⟩) 1 2,.int .i64 2,.int .i64 0,.slice none 0 0,.slice none 0 0,.bool false,.slice (some ⟨h21,0,none⟩) 5 5,.slice (some ⟨h22,0,none⟩) 2 2,.int .i64 7,.int .i64 0,.slice none 0 0,.slice none 0 0,.bool false] 36) = W_535 at *
        have hB_537:=hB_525.trans (hA_533.mono hB_525.size)
        have O_538:=(hA_533.block _ (heap_lt O_526)).trans O_526
        have A_539:=(hA_533.block _ (heap_lt A_527)).trans A_527
        have C_540:=(hA_533.block _ (heap_lt C_528)).trans C_528
        have DO_541:=DO_529.below hA_533
        have DA_542:=DA_530.below hA_533
        have Hh1_543:=Hh1_531.below hA_533
        have Hh2_544:=hHh2.below hA_533
        have hs_545:=hA_533.size
        clear O_526 A_527 C_528 DO_529 DA_530 Hh1_531 hHh2 hA_533 hB_525
        refine hK _ _ (fun _=>O_538) ?_
        clear hK K
        try simp only [Act.put,uA,uB,uC,uD,uE,uF]
        refine wpAnyE.take (i:=4) (v:=?_) rfl (by kernel_rfl) (by kernel_rfl) (by kernel_rfl) (by kernel_rfl) (fun _ _ _ h=>h) (Or.inl ⟨by rfl,?_⟩) O_538 ?_
        rotate_left
        · intro w hSw;obtain ⟨e0,e1,e2,e3,e4,e5,e6⟩:=c7_of hSw;go_simp;with_reducible rfl
        try simp only [Act.put,uA,uB,uC,uD,uE,uF]
        refine wpAnyE.one (i:=5) (by kernel_rfl) rfl (fun K hK=>?_)
        have hQ3 : HoldsQ W_535 (some ⟨pR,0,none⟩) [hostQ h11 h12,oldQ o1 o2,hostQ h21 h22]:=holds_three R_534 Hh1_543 DO_541.here Hh2_544
        have hc_546:=begAll W_535 (hg.below (hB_356.trans (hB_537.mono hB_356.size))) pR h11 h12 o1 o2 h21 h22 hQ3
        go_simp
        refine hc_546.mono ?_
        clear hc_546
        rintro e W_547 ⟨BB,cap,qs,rfl,HQS,hDQ,h⟩
        have hB_548:=hB_537.trans (h.mono hB_537.size)
        have O_549:=(h.block _ (heap_lt O_538)).trans O_538
        have A_550:=(h.block _ (heap_lt A_539)).trans A_539
        have C_551:=(h.block _ (heap_lt C_540)).trans C_540
        have R_552:=(h.block _ (heap_lt R_534)).trans R_534
        have DO_553:=DO_541.below h
        have DA_554:=DA_542.below h
        have Hh1_555:=Hh1_543.below h
        have Hh2_556:=Hh2_544.below h
        have hs_557:=h.size
        clear O_538 A_539 C_540 R_534 DO_541 DA_542 Hh1_543 Hh2_544 h hB_537
        clear Hh1_555 Hh2_556 R_552 hQ3
        refine hK _ _ (fun _=>O_549) ?_
        clear hK K
        try simp only [Act.put,uA,uB,uC,uD,uE,uF]
        refine wpAnyE.take (i:=6) (v:=?_) rfl (by kernel_rfl) (by kernel_rfl) (by kernel_rfl) (by kernel_rfl) (fun _ _ _ h=>h) (Or.inl ⟨by rfl,?_⟩) O_549 ?_
        rotate_left
        · intro w hSw;obtain ⟨e0,e1,e2,e3,e4,e5,e6⟩:=c7_of hSw;go_simp;with_reducible rfl
        try simp only [Act.put,uA,uB,uC,uD,uE,uF]
        refine wpAnyE.take (i:=7) (v:=?_) rfl (by kernel_rfl) (by kernel_rfl) (by kernel_rfl) (by kernel_rfl) (fun _ _ _ h=>h) (Or.inl ⟨by rfl,?_⟩) O_549 ?_
        rotate_left
        · intro w hSw;obtain ⟨e0,e1,e2,e3,e4,e5,e6⟩:=c7_of hSw;go_simp;with_reducible rfl
        try simp only [Act.put,uA,uB,uC,uD,uE,uF]
        refine wpAnyE.take (i:=8) (v:=?_) rfl (by kernel_rfl) (by kernel_rfl) (by kernel_rfl) (by kernel_rfl) (fun _ _ _ h=>h) (Or.inl ⟨by rfl,?_⟩) O_549 ?_
        rotate_left
        · intro w hSw;obtain ⟨e0,e1,e2,e3,e4,e5,e6⟩:=c7_of hSw;go_simp;with_reducible rfl
        try simp only [Act.put,uA,uB,uC,uD,uE,uF]
        refine wpAnyE.take (i:=9) (v:=?_) rfl (by kernel_rfl) (by kernel_rfl) (by kernel_rfl) (by kernel_rfl) (fun _ _ _ h=>h) (Or.inl ⟨by rfl,?_⟩) O_549 ?_
        rotate_left
        · intro w hSw;obtain ⟨e0,e1,e2,e3,e4,e5,e6⟩:=c7_of hSw;go_simp;with_reducible rfl
        try simp only [Act.put,uA,uB,uC,uD,uE,uF]
        refine wpAnyE.one (i:=11) (by kernel_rfl) rfl (fun K hK=>?_)
        have f_559:=f_of (o:=0) C_551
        have z_558:=c1_of C_551
        have s_560:=heap_setCell_same W_547 (W_367.heap.size) 0 _ _ (.slice (some ⟨BB,0,none⟩) 3 cap) C_551
        have hB_561 : Below _ _ (W_547.setCell ⟨W_367.heap.size,0,none⟩ (.slice (some ⟨BB,0,none⟩) 3 cap)):=hB_548.setCell (by have:=hB_548.size;show _ ≤ W_367.heap.size;omega) _
        have O_563:=(heap_setCell_other W_547 ⟨W_367.heap.size,0,none⟩ (p1) (.slice (some ⟨BB,0,none⟩) 3 cap) (by show p1 ≠ W_367.heap.size;omega)).trans O_549
        have A_564:=(heap_setCell_other W_547 ⟨W_367.heap.size,0,none⟩ (p2) (.slice (some ⟨BB,0,none⟩) 3 cap) (by show p2 ≠ W_367.heap.size;omega)).trans A_550
        have DO_565:=DO_553.set (p:=W_367.heap.size) (o:=0) (v:=.slice (some ⟨BB,0,none⟩) 3 cap) (by omega)
        have DA_566:=DA_554.set (p:=W_367.heap.size) (o:=0) (v:=.slice (some ⟨BB,0,none⟩) 3 cap) (by omega)
        have DQ_567:=hDQ.set (p:=W_367.heap.size) (o:=0) (v:=.slice (some ⟨BB,0,none⟩) 3 cap) (by omega)
        have hz_568 : W_547.heap.size ≤ (W_547.setCell ⟨W_367.heap.size,0,none⟩ (.slice (some ⟨BB,0,none⟩) 3 cap)).heap.size:=setcell_size _ _ _
        go_simp
        generalize (W_547.setCell ⟨W_367.heap.size,0,none⟩ (.slice (some ⟨BB,0,none⟩) 3 cap)) = W_562 at *
        clear z_558 f_559 O_549 A_550 C_551 DO_553 DA_554 hDQ hB_548
        simp only [List.setIfInBounds_toArray,List.set_cons_zero] at s_560
        refine hK _ _ (fun _=>O_563) ?_
        clear hK K
        try simp only [Act.put,uA,uB,uC,uD,uE,uF]
        refine wpAnyE.one (i:=12) (by kernel_rfl) rfl (fun K hK=>?_)
        go_simp
        refine hK _ _ (fun _=>O_563) ?_
        clear hK K
        try simp only [Act.put,uA,uB,uC,uD,uE,uF]
        refine wpAnyE.one (i:=13) (by kernel_rfl) rfl (fun K hK=>?_)
        go_simp
        refine hK _ _ (fun _=>O_563) ?_
        clear hK K
        try simp only [Act.put,uA,uB,uC,uD,uE,uF]
        refine wpAnyE.done (by kernel_rfl) ?_
        go_wp2
        go_meet
        case rel=>exact ⟨rfl,rfl,_,BB,cap,qs,rfl,s_560,HQS,DQ_567.here,A_564,DA_566.here,hB_561⟩
    · skip
      go_simp
      have hA_569:=below_alloc W_365 (.cells #[.slice none 0 0] 24)
      have C_570:=heap_alloc_new W_365 (.cells #[.slice none 0 0] 24)
      have hz_572 : W_365.heap.size < (W_365.alloc (.cells #[.slice none 0 0] 24)).heap.size:=by simp
      generalize W_365.alloc (.cells #[.slice none 0 0] 24) = W_571 at *
      have hB_573:=hB_359.trans (hA_569.mono hB_359.size)
      have O_574:=(hA_569.block _ (heap_lt O_360)).trans O_360
      have A_575:=(hA_569.block _ (heap_lt A_361)).trans A_361
      have DO_576:=DO_362.below hA_569
      have DA_577:=DA_363.below hA_569
      have hs_578:=hA_569.size
      clear O_360 A_361 DO_362 DA_363 hA_569 hB_359
      refine hK _ _ (fun _=>O_574) ?_
      clear hK K
      try simp only [Act.put,uA,uB,uC,uD,uE,uF]
      refine wpAnyE.one (i:=0) (by kernel_rfl) rfl (fun K hK=>?_)
      have hc_579:=host_any W_571
      go_simp
      refine hc_579.mono ?_
      clear hc_579
      rintro e W_580 ⟨h11,h12,rfl,hHh1,h⟩
      have hB_581:=hB_573.trans (h.mono hB_573.size)
      have O_582:=(h.block _ (heap_lt O_574)).trans O_574
      have A_583:=(h.block _ (heap_lt A_575)).trans A_575
      have C_584:=(h.block _ (heap_lt C_570)).trans C_570
      have DO_585:=DO_576.below h
      have DA_586:=DA_577.below h
      have hs_587:=h.size
      clear O_574 A_575 C_570 DO_576 DA_577 h hB_573
      refine hK _ _ (fun _=>O_582) ?_
      clear hK K
      try simp only [Act.put,uA,uB,uC,uD,uE,uF]
      refine wpAnyE.one (i:=2) (by kernel_rfl) rfl (fun K hK=>?_)
      have hc_588:=host_any W_580
      go_simp
      refine hc_588.mono ?_
      clear hc_588
      rintro e W_589 ⟨h21,h22,rfl,hHh2,h⟩
      have hB_590:=hB_581.trans (h.mono hB_581.size)
      have O_591:=(h.block _ (heap_lt O_582)).trans O_582
      have A_592:=(h.block _ (heap_lt A_583)).trans A_583
      have C_593:=(h.block _ (heap_lt C_584)).trans C_584
      have DO_594:=DO_585.below h
      have DA_595:=DA_586.below h
      have Hh1_596:=hHh1.below h
      have hs_597:=h.size
      clear O_582 A_583 C_584 DO_585 DA_586 hHh1 h hB_581
      refine hK _ _ (fun _=>O_591) ?_
      clear hK K
      try simp only [Act.put,uA,uB,uC,uD,uE,uF]
      refine wpAnyE.one (i:=3) (by kernel_rfl) rfl (fun K hK=>?_)
      go_simp
      have hA_598:=below_alloc W_589 (.cells #[.slice (some ⟨h11,0,none⟩) 5 5,.slice (some ⟨h12,0,none⟩) 2 2,.int .i64 7,.int .i64 0,.slice none 0 0,.slice none 0 0,.bool false,.slice (some ⟨o1,0,none⟩) 3 5,.slice (some ⟨o2,0,none⟩) 1 2,.int .i64 2,.int .i64 0,.slice none 0 0,.slice none 0 0,.bool false,.slice (some ⟨h21,0,none⟩) 5 5,.slice (some ⟨h22,0,none⟩) 2 2,.int .i64 7,.int .i64 0,.slice none 0 0,.slice none 0 0,.bool false] 36)
      have R_599:=heap_alloc_new W_589 (.cells #[.slice (some ⟨h11,0,none⟩) 5 5,.slice (some ⟨h12,0,none⟩) 2 2,.int .i64 7,.int .i64 0,.slice none 0 0,.slice none 0 0,.bool false,.slice (some ⟨o1,0,none⟩) 3 5,.slice (some ⟨o2,0,none⟩) 1 2,.int .i64 2,.int .i64 0,.slice none 0 0,.slice none 0 0,.bool false,.slice (some ⟨h21,0,none⟩) 5 5,.slice (some ⟨h22,0,none⟩) 2 2,.int .i64 7,.int .i64 0,.slice none 0 0,.slice none 0 0,.bool false] 36)
      obtain ⟨pR,hpR⟩ : ∃ p,p = W_589.heap.size:=⟨_,rfl⟩
      rw [← hpR] at R_599 ⊢
      clear hpR
      generalize W_589.alloc (.cells #[.slice (some ⟨h11,0,none⟩) 5 5,.slice (some ⟨h12,0,none⟩) 2 2,.int .i64 7,.int .i64 0,.slice none 0 0,.slice none 0 0,.bool false,.slice (some ⟨o1,0,none⟩) 3 5,.slice (some ⟨o2,0,none⟩) 1 2,.int .i64 2,.int .i64 0,.slice none 0 0,.slice none 0 0,.bool false,.slice (some ⟨h21,0,none⟩) 5 5,.slice (some ⟨h22,0,none⟩) 2 2,.int .i64 7,.int .i64 0,.slice none 0 0,.slice none 0 0,.bool false] 36) = W_600 at *
      have hB_602:=hB_590.trans (hA_598.mono hB_590.size)
      have O_603:=(hA_598.block _ (heap_lt O_591)).trans O_591
      have A_604:=(hA_598.block _ (heap_lt A_592)).trans A_592
      have C_605:=(hA_598.block _ (heap_lt C_593)).trans C_593
      have DO_606:=DO_594.below hA_598
      have DA_607:=DA_595.below hA_598
      have Hh1_608:=Hh1_596.below hA_598
      have Hh2_609:=hHh2.below hA_598
      have hs_610:=hA_598.size
      clear O_591 A_592 C_593 DO_594 DA_595 Hh1_596 hHh2 hA_598 hB_590
      refine hK _ _ (fun _=>O_603) ?_
      clear hK K
      try simp only [Act.put,uA,uB,uC,uD,uE,uF]
      refine wpAnyE.take (i:=4) (v:=?_) rfl (by kernel_rfl) (by kernel_rfl) (by kernel_rfl) (by kernel_rfl) (fun _ _ _ h=>h) (Or.inl ⟨by rfl,?_⟩) O_603 ?_
      rotate_left
      · intro w hSw;obtain ⟨e0,e1,e2,e3,e4,e5,e6⟩:=c7_of hSw;go_simp;with_reducible rfl
      try simp only [Act.put,uA,uB,uC,uD,uE,uF]
      refine wpAnyE.one (i:=5) (by kernel_rfl) rfl (fun K hK=>?_)
      have hQ3 : HoldsQ W_600 (some ⟨pR,0,none⟩) [hostQ h11 h12,oldQ o1 o2,hostQ h21 h22]:=holds_three R_599 Hh1_608 DO_606.here Hh2_609
      have hc_611:=begAll W_600 (hg.below (hB_356.trans (hB_602.mono hB_356.size))) pR h11 h12 o1 o2 h21 h22 hQ3
      go_simp
      refine hc_611.mono ?_
      clear hc_611
      rintro e W_612 ⟨BB,cap,qs,rfl,HQS,hDQ,h⟩
      have hB_613:=hB_602.trans (h.mono hB_602.size)
      have O_614:=(h.block _ (heap_lt O_603)).trans O_603
      have A_615:=(h.block _ (heap_lt A_604)).trans A_604
      have C_616:=(h.block _ (heap_lt C_605)).trans C_605
      have R_617:=(h.block _ (heap_lt R_599)).trans R_599
      have DO_618:=DO_606.below h
      have DA_619:=DA_607.below h
      have Hh1_620:=Hh1_608.below h
      have Hh2_621:=Hh2_609.below h
      have hs_622:=h.size
      clear O_603 A_604 C_605 R_599 DO_606 DA_607 Hh1_608 Hh2_609 h hB_602
      clear Hh1_620 Hh2_621 R_617 hQ3
      refine hK _ _ (fun _=>O_614) ?_
      clear hK K
      try simp only [Act.put,uA,uB,uC,uD,uE,uF]
      refine wpAnyE.take (i:=6) (v:=?_) rfl (by kernel_rfl) (by kernel_rfl) (by kernel_rfl) (by kernel_rfl) (fun _ _ _ h=>h) (Or.inl ⟨by rfl,?_⟩) O_614 ?_
      rotate_left
      · intro w hSw;obtain ⟨e0,e1,e2,e3,e4,e5,e6⟩:=c7_of hSw;go_simp;with_reducible rfl
      try simp only [Act.put,uA,uB,uC,uD,uE,uF]
      refine wpAnyE.take (i:=7) (v:=?_) rfl (by kernel_rfl) (by kernel_rfl) (by kernel_rfl) (by kernel_rfl) (fun _ _ _ h=>h) (Or.inl ⟨by rfl,?_⟩) O_614 ?_
      rotate_left
      · intro w hSw;obtain ⟨e0,e1,e2,e3,e4,e5,e6⟩:=c7_of hSw;go_simp;with_reducible rfl
      try simp only [Act.put,uA,uB,uC,uD,uE,uF]
      refine wpAnyE.take (i:=8) (v:=?_) rfl (by kernel_rfl) (by kernel_rfl) (by kernel_rfl) (by kernel_rfl) (fun _ _ _ h=>h) (Or.inl ⟨by rfl,?_⟩) O_614 ?_
      rotate_left
      · intro w hSw;obtain ⟨e0,e1,e2,e3,e4,e5,e6⟩:=c7_of hSw;go_simp;with_reducible rfl
      try simp only [Act.put,uA,uB,uC,uD,uE,uF]
      refine wpAnyE.take (i:=9) (v:=?_) rfl (by kernel_rfl) (by kernel_rfl) (by kernel_rfl) (by kernel_rfl) (fun _ _ _ h=>h) (Or.inl ⟨by rfl,?_⟩) O_614 ?_
      rotate_left
      · intro w hSw;obtain ⟨e0,e1,e2,e3,e4,e5,e6⟩:=c7_of hSw;go_simp;with_reducible rfl
      try simp only [Act.put,uA,uB,uC,uD,uE,uF]
      refine wpAnyE.one (i:=11) (by kernel_rfl) rfl (fun K hK=>?_)
      have f_624:=f_of (o:=0) C_616
      have z_623:=c1_of C_616
      have s_625:=heap_setCell_same W_612 (W_365.heap.size) 0 _ _ (.slice (some ⟨BB,0,none⟩) 3 cap) C_616
      have hB_626 : Below _ _ (W_612.setCell ⟨W_365.heap.size,0,none⟩ (.slice (some ⟨BB,0,none⟩) 3 cap)):=hB_613.setCell (by have:=hB_613.size;show _ ≤ W_365.heap.size;omega) _
      have O_628:=(heap_setCell_other W_612 ⟨W_365.heap.size,0,none⟩ (p1) (.slice (some ⟨BB,0,none⟩) 3 cap) (by show p1 ≠ W_365.heap.size;omega)).trans O_614
      have A_629:=(heap_setCell_other W_612 ⟨W_365.heap.size,0,none⟩ (p2) (.slice (some ⟨BB,0,none⟩) 3 cap) (by show p2 ≠ W_365.heap.size;omega)).trans A_615
      have DO_630:=DO_618.set (p:=W_365.heap.size) (o:=0) (v:=.slice (some ⟨BB,0,none⟩) 3 cap) (by omega)
      have DA_631:=DA_619.set (p:=W_365.heap.size) (o:=0) (v:=.slice (some ⟨BB,0,none⟩) 3 cap) (by omega)
      have DQ_632:=hDQ.set (p:=W_365.heap.size) (o:=0) (v:=.slice (some ⟨BB,0,none⟩) 3 cap) (by omega)
      have hz_633 : W_612.heap.size ≤ (W_612.setCell ⟨W_365.heap.size,0,none⟩ (.slice (some ⟨BB,0,none⟩) 3 cap)).heap.size:=setcell_size _ _ _
      go_simp
      generalize (W_612.setCell ⟨W_365.heap.size,0,none⟩ (.slice (some ⟨BB,0,none⟩) 3 cap)) = W_627 at *
      clear z_623 f_624 O_614 A_615 C_616 DO_618 DA_619 hDQ hB_613
      simp only [List.setIfInBounds_toArray,List.set_cons_zero] at s_625
      refine hK _ _ (fun _=>O_628) ?_
      clear hK K
      try simp only [Act.put,uA,uB,uC,uD,uE,uF]
      refine wpAnyE.one (i:=12) (by kernel_rfl) rfl (fun K hK=>?_)
      go_simp
      refine hK _ _ (fun _=>O_628) ?_
      clear hK K
      try simp only [Act.put,uA,uB,uC,uD,uE,uF]
      refine wpAnyE.one (i:=13) (by kernel_rfl) rfl (fun K hK=>?_)
      go_simp
      refine hK _ _ (fun _=>O_628) ?_
      clear hK K
      try simp only [Act.put,uA,uB,uC,uD,uE,uF]
      refine wpAnyE.done (by kernel_rfl) ?_
      go_wp2
      go_meet
      case rel=>exact ⟨rfl,rfl,_,BB,cap,qs,rfl,s_625,HQS,DQ_632.here,A_629,DA_631.here,hB_626⟩
  case rest =>
  clear DO DA kO kA
  obtain ⟨rfl,rfl,p6,BB,cap,qs,rfl,kC,HQS,HQ,kA,HA,h⟩:=hcut
  obtain ⟨wf,hwf⟩ : ∃ x,x = wc:=⟨_,rfl⟩
  subst hwf
  have hlAwf:=heap_lt kA
  have hB_634:=hB_356.trans (h.mono hB_356.size)
  have hs_635:=h.size
  clear h hB_356
  have hql : qs.length = 3:=rOf_len HQS.out rfl
  have hq1 : 1 < qs.length:=by omega
  clear hql
  have HQ1 : Hid (qs[1].r = hostP):=by
    have:=rOf_q HQS.out hq1
    exact this
  go_wp2_with fail
  have hd_636:=below_refl_drew wf
  have hB_637:=hB_634.trans (hd_636.mono hB_634.size)
  have C_638:=(hd_636.block _ (heap_lt kC)).trans kC
  have A_639:=(hd_636.block _ (heap_lt kA)).trans kA
  have HA_640:=HA.below hd_636
  have HQ_641:=HQ.below hd_636
  have hs_642:=hd_636.size
  clear kC kA HA HQ hd_636 hB_634
  refine wp_region_E (fun W=>(W.heap[p2]? = some (.cells #[.slice qa.aS qa.r.s.length qa.cs,.slice qa.al qa.r.l.length qa.cl,.int .i64 qa.r.g,.int .i64 qa.r.ph,.slice qa.a1 qa.r.m.length qa.c1,.slice qa.a2 qa.r.us.length qa.c2,.bool qa.r.f] 36)) ∧ (W.heap[p6]? = some (.cells #[.slice (some ⟨BB,0,none⟩) 3 cap] 24)) ∧ (HoldsQ W (some ⟨BB,0,none⟩) qs)) (fun _=>false) (by kernel_rfl) ⟨A_639,C_638,HQ_641⟩ (fun hS=>?_)
  clear hS
  generalize wf.drew = W_643 at *
  refine wpAnyE.take (i:=0) (v:=?_) rfl (by kernel_rfl) (by kernel_rfl) (by kernel_rfl) (by kernel_rfl) (fun _ _ _ h=>h) (Or.inl ⟨by rfl,?_⟩) ⟨A_639,C_638,HQ_641⟩ ?_
  rotate_left
  · intro w hSw;obtain ⟨f0,f1,f2⟩:=hSw;obtain ⟨e0,e1,e2,e3,e4,e5,e6⟩:=c7_of f0;have g0:=c1_of f1;obtain ⟨y0,y1,y2,y3,y4,y5,y6⟩:=(f2.at hq1).1;simp only [Nat.zero_add,Nat.one_mul] at y0 y1 y2 y3 y4 y5 y6;go_simp;with_reducible rfl
  try simp only [Act.put,uA,uC,uD,uE,uF]
  refine wpAnyE.take (i:=1) (v:=?_) rfl (by kernel_rfl) (by kernel_rfl) (by kernel_rfl) (by kernel_rfl) (fun _ _ _ h=>h) (Or.inl ⟨by rfl,?_⟩) ⟨A_639,C_638,HQ_641⟩ ?_
  rotate_left
  · intro w hSw;obtain ⟨f0,f1,f2⟩:=hSw;obtain ⟨e0,e1,e2,e3,e4,e5,e6⟩:=c7_of f0;have g0:=c1_of f1;obtain ⟨y0,y1,y2,y3,y4,y5,y6⟩:=(f2.at hq1).1;simp only [Nat.zero_add,Nat.one_mul] at y0 y1 y2 y3 y4 y5 y6;go_simp;with_reducible rfl
  try simp only [Act.put,uA,uB,uC,uD,uE,uF]
  refine wpAnyE.take (i:=2) (v:=?_) rfl (by kernel_rfl) (by kernel_rfl) (by kernel_rfl) (by kernel_rfl) (fun _ _ _ h=>h) (Or.inl ⟨by rfl,?_⟩) ⟨A_639,C_638,HQ_641⟩ ?_
  rotate_left
  · intro w hSw;obtain ⟨f0,f1,f2⟩:=hSw;obtain ⟨e0,e1,e2,e3,e4,e5,e6⟩:=c7_of f0;have g0:=c1_of f1;obtain ⟨y0,y1,y2,y3,y4,y5,y6⟩:=(f2.at hq1).1;simp only [Nat.zero_add,Nat.one_mul] at y0 y1 y2 y3 y4 y5 y6;go_simp;with_reducible rfl
  try simp only [Act.put,uA,uB,uC,uD,uE,uF]
  refine wpAnyE.take (i:=3) (v:=?_) rfl (by kernel_rfl) (by kernel_rfl) (by kernel_rfl) (by kernel_rfl) (fun _ _ _ h=>h) (Or.inl ⟨by rfl,?_⟩) ⟨A_639,C_638,HQ_641⟩ ?_
  rotate_left
  · intro w hSw;obtain ⟨f0,f1,f2⟩:=hSw;obtain ⟨e0,e1,e2,e3,e4,e5,e6⟩:=c7_of f0;have g0:=c1_of f1;obtain ⟨y0,y1,y2,y3,y4,y5,y6⟩:=(f2.at hq1).1;simp only [Nat.zero_add,Nat.one_mul] at y0 y1 y2 y3 y4 y5 y6;go_simp;with_reducible rfl
  try simp only [Act.put,uA,uB,uC,uD,uE,uF]
  refine wpAnyE.take (i:=4) (v:=?_) rfl (by kernel_rfl) (by kernel_rfl) (by kernel_rfl) (by kernel_rfl) (fun _ _ _ h=>h) (Or.inl ⟨by rfl,?_⟩) ⟨A_639,C_638,HQ_641⟩ ?_
  rotate_left
  · intro w hSw;obtain ⟨f0,f1,f2⟩:=hSw;obtain ⟨e0,e1,e2,e3,e4,e5,e6⟩:=c7_of f0;have g0:=c1_of f1;obtain ⟨y0,y1,y2,y3,y4,y5,y6⟩:=(f2.at hq1).1;simp only [Nat.zero_add,Nat.one_mul] at y0 y1 y2 y3 y4 y5 y6;go_simp;with_reducible rfl
  try simp only [Act.put,uA,uB,uC,uD,uE,uF]
  refine wpAnyE.take (i:=5) (v:=?_) rfl (by kernel_rfl) (by kernel_rfl) (by kernel_rfl) (by kernel_rfl) (fun _ _ _ h=>h) (Or.inl ⟨by rfl,?_⟩) ⟨A_639,C_638,HQ_641⟩ ?_
  rotate_left
  · intro w hSw;obtain ⟨f0,f1,f2⟩:=hSw;obtain ⟨e0,e1,e2,e3,e4,e5,e6⟩:=c7_of f0;have g0:=c1_of f1;obtain ⟨y0,y1,y2,y3,y4,y5,y6⟩:=(f2.at hq1).1;simp only [Nat.zero_add,Nat.one_mul] at y0 y1 y2 y3 y4 y5 y6;go_simp;with_reducible rfl
  try simp only [Act.put,uA,uB,uC,uD,uE,uF]
  refine wpAnyE.take (i:=6) (v:=?_) rfl (by kernel_rfl) (by kernel_rfl) (by kernel_rfl) (by kernel_rfl) (fun _ _ _ h=>h) (Or.inl ⟨by rfl,?_⟩) ⟨A_639,C_638,HQ_641⟩ ?_
  rotate_left
  · intro w hSw;obtain ⟨f0,f1,f2⟩:=hSw;obtain ⟨e0,e1,e2,e3,e4,e5,e6⟩:=c7_of f0;have g0:=c1_of f1;obtain ⟨y0,y1,y2,y3,y4,y5,y6⟩:=(f2.at hq1).1;simp only [Nat.zero_add,Nat.one_mul] at y0 y1 y2 y3 y4 y5 y6;go_simp;with_reducible rfl
  try simp only [Act.put,uA,uB,uC,uD,uE,uF]
  refine wpAnyE.take (i:=7) (v:=?_) rfl (by kernel_rfl) (by kernel_rfl) (by kernel_rfl) (by kernel_rfl) (fun _ _ _ h=>h) (Or.inl ⟨by rfl,?_⟩) ⟨A_639,C_638,HQ_641⟩ ?_
  rotate_left
  · intro w hSw;obtain ⟨f0,f1,f2⟩:=hSw;obtain ⟨e0,e1,e2,e3,e4,e5,e6⟩:=c7_of f0;have g0:=c1_of f1;obtain ⟨y0,y1,y2,y3,y4,y5,y6⟩:=(f2.at hq1).1;simp only [Nat.zero_add,Nat.one_mul] at y0 y1 y2 y3 y4 y5 y6;go_simp;with_reducible rfl
  try simp only [Act.put,uA,uB,uC,uD,uE,uF]
  refine wpAnyE.take (i:=8) (v:=?_) rfl (by kernel_rfl) (by kernel_rfl) (by kernel_rfl) (by kernel_rfl) (fun _ _ _ h=>h) (Or.inl ⟨by rfl,?_⟩) ⟨A_639,C_638,HQ_641⟩ ?_
  rotate_left
  · intro w hSw;obtain ⟨f0,f1,f2⟩:=hSw;obtain ⟨e0,e1,e2,e3,e4,e5,e6⟩:=c7_of f0;have g0:=c1_of f1;obtain ⟨y0,y1,y2,y3,y4,y5,y6⟩:=(f2.at hq1).1;simp only [Nat.zero_add,Nat.one_mul] at y0 y1 y2 y3 y4 y5 y6;go_simp;with_reducible rfl
  try simp only [Act.put,uA,uB,uC,uD,uE,uF]
  refine wpAnyE.take (i:=9) (v:=?_) rfl (by kernel_rfl) (by kernel_rfl) (by kernel_rfl) (by kernel_rfl) (fun _ _ _ h=>h) (Or.inl ⟨by rfl,?_⟩) ⟨A_639,C_638,HQ_641⟩ ?_
  rotate_left
  · intro w hSw;obtain ⟨f0,f1,f2⟩:=hSw;obtain ⟨e0,e1,e2,e3,e4,e5,e6⟩:=c7_of f0;have g0:=c1_of f1;obtain ⟨y0,y1,y2,y3,y4,y5,y6⟩:=(f2.at hq1).1;simp only [Nat.zero_add,Nat.one_mul] at y0 y1 y2 y3 y4 y5 y6;go_simp;with_reducible rfl
  try simp only [Act.put,uA,uB,uC,uD,uE,uF]
  refine wpAnyE.take (i:=10) (v:=?_) rfl (by kernel_rfl) (by kernel_rfl) (by kernel_rfl) (by kernel_rfl) (fun _ _ _ h=>h) (Or.inl ⟨by rfl,?_⟩) ⟨A_639,C_638,HQ_641⟩ ?_
  rotate_left
  · intro w hSw;obtain ⟨f0,f1,f2⟩:=hSw;obtain ⟨e0,e1,e2,e3,e4,e5,e6⟩:=c7_of f0;have g0:=c1_of f1;obtain ⟨y0,y1,y2,y3,y4,y5,y6⟩:=(f2.at hq1).1;simp only [Nat.zero_add,Nat.one_mul] at y0 y1 y2 y3 y4 y5 y6;go_simp;with_reducible rfl
  try simp only [Act.put,uA,uB,uC,uD,uE,uF]
  refine wpAnyE.take (i:=11) (v:=?_) rfl (by kernel_rfl) (by kernel_rfl) (by kernel_rfl) (by kernel_rfl) (fun _ _ _ h=>h) (Or.inl ⟨by rfl,?_⟩) ⟨A_639,C_638,HQ_641⟩ ?_
  rotate_left
  · intro w hSw;obtain ⟨f0,f1,f2⟩:=hSw;obtain ⟨e0,e1,e2,e3,e4,e5,e6⟩:=c7_of f0;have g0:=c1_of f1;obtain ⟨y0,y1,y2,y3,y4,y5,y6⟩:=(f2.at hq1).1;simp only [Nat.zero_add,Nat.one_mul] at y0 y1 y2 y3 y4 y5 y6;go_simp;with_reducible rfl
  try simp only [Act.put,uA,uB,uC,uD,uE,uF]
  refine wpAnyE.take (i:=12) (v:=?_) rfl (by kernel_rfl) (by kernel_rfl) (by kernel_rfl) (by kernel_rfl) (fun _ _ _ h=>h) (Or.inl ⟨by rfl,?_⟩) ⟨A_639,C_638,HQ_641⟩ ?_
  rotate_left
  · intro w hSw;obtain ⟨f0,f1,f2⟩:=hSw;obtain ⟨e0,e1,e2,e3,e4,e5,e6⟩:=c7_of f0;have g0:=c1_of f1;obtain ⟨y0,y1,y2,y3,y4,y5,y6⟩:=(f2.at hq1).1;simp only [Nat.zero_add,Nat.one_mul] at y0 y1 y2 y3 y4 y5 y6;go_simp;with_reducible rfl
  try simp only [Act.put,uA,uB,uC,uD,uE,uF]
  refine wpAnyE.take (i:=13) (v:=?_) rfl (by kernel_rfl) (by kernel_rfl) (by kernel_rfl) (by kernel_rfl) (fun _ _ _ h=>h) (Or.inl ⟨by rfl,?_⟩) ⟨A_639,C_638,HQ_641⟩ ?_
  rotate_left
  · intro w hSw;obtain ⟨f0,f1,f2⟩:=hSw;obtain ⟨e0,e1,e2,e3,e4,e5,e6⟩:=c7_of f0;have g0:=c1_of f1;obtain ⟨y0,y1,y2,y3,y4,y5,y6⟩:=(f2.at hq1).1;simp only [Nat.zero_add,Nat.one_mul] at y0 y1 y2 y3 y4 y5 y6;go_simp;with_reducible rfl
  try simp only [Act.put,uA,uB,uC,uD,uE,uF]
  refine wpAnyE.take (i:=14) (v:=?_) rfl (by kernel_rfl) (by kernel_rfl) (by kernel_rfl) (by kernel_rfl) (fun _ _ _ h=>h) (Or.inl ⟨by rfl,?_⟩) ⟨A_639,C_638,HQ_641⟩ ?_
  rotate_left
  · intro w hSw;obtain ⟨f0,f1,f2⟩:=hSw;obtain ⟨e0,e1,e2,e3,e4,e5,e6⟩:=c7_of f0;have g0:=c1_of f1;obtain ⟨y0,y1,y2,y3,y4,y5,y6⟩:=(f2.at hq1).1;simp only [Nat.zero_add,Nat.one_mul] at y0 y1 y2 y3 y4 y5 y6;go_simp;with_reducible rfl
  try simp only [Act.put,uA,uB,uC,uD,uE,uF]
  refine wpAnyE.take (i:=15) (v:=?_) rfl (by kernel_rfl) (by kernel_rfl) (by kernel_rfl) (by kernel_rfl) (fun _ _ _ h=>h) (Or.inl ⟨by rfl,?_⟩) ⟨A_639,C_638,HQ_641⟩ ?_
  rotate_left
  · intro w hSw;obtain ⟨f0,f1,f2⟩:=hSw;obtain ⟨e0,e1,e2,e3,e4,e5,e6⟩:=c7_of f0;have g0:=c1_of f1;obtain ⟨y0,y1,y2,y3,y4,y5,y6⟩:=(f2.at hq1).1;simp only [Nat.zero_add,Nat.one_mul] at y0 y1 y2 y3 y4 y5 y6;go_simp;with_reducible rfl
  try simp only [Act.put,uA,uB,uC,uD,uE,uF]
  refine wpAnyE.one (i:=16) (by kernel_rfl) rfl (fun K hK=>?_)
  have hc_644:=host_any W_643
  go_simp
  refine hc_644.mono ?_
  clear hc_644
  rintro e W_645 ⟨h1,h2,rfl,hHh,h⟩
  have hB_646:=hB_637.trans (h.mono hB_637.size)
  have C_647:=(h.block _ (heap_lt C_638)).trans C_638
  have A_648:=(h.block _ (heap_lt A_639)).trans A_639
  have HA_649:=HA_640.below h
  have HQ_650:=HQ_641.below h
  have hs_651:=h.size
  clear C_638 A_639 HA_640 HQ_641 h hB_637
  refine hK _ _ (fun _=>⟨A_648,C_647,HQ_650⟩) ?_
  clear hK K
  try simp only [Act.put,uA,uB,uC,uD,uE,uF]
  refine wpAnyE.one (i:=17) (by kernel_rfl) rfl (fun K hK=>?_)
  have hc_652:=begSame W_645 qa h1 h2 HQA.out HA_649 hHh
  go_simp
  refine hc_652.mono ?_
  clear hc_652
  rintro e W_653 ⟨rfl,h⟩
  have hB_654:=hB_646.trans (h.mono hB_646.size)
  have C_655:=(h.block _ (heap_lt C_647)).trans C_647
  have A_656:=(h.block _ (heap_lt A_648)).trans A_648
  have HA_657:=HA_649.below h
  have HQ_658:=HQ_650.below h
  have Hh_659:=hHh.below h
  have hs_660:=h.size
  clear C_647 A_648 HA_649 HQ_650 hHh h hB_646
  clear Hh_659
  refine hK _ _ (fun _=>⟨A_656,C_655,HQ_658⟩) ?_
  clear hK K
  try simp only [Act.put,uA,uB,uC,uD,uE,uF]
  refine wpAnyE.take (i:=18) (v:=?_) rfl (by kernel_rfl) (by kernel_rfl) (by kernel_rfl) (by kernel_rfl) (fun _ _ _ h=>h) (Or.inl ⟨by rfl,?_⟩) ⟨A_656,C_655,HQ_658⟩ ?_
  rotate_left
  · intro w hSw;obtain ⟨f0,f1,f2⟩:=hSw;obtain ⟨e0,e1,e2,e3,e4,e5,e6⟩:=c7_of f0;have g0:=c1_of f1;obtain ⟨y0,y1,y2,y3,y4,y5,y6⟩:=(f2.at hq1).1;simp only [Nat.zero_add,Nat.one_mul] at y0 y1 y2 y3 y4 y5 y6;go_simp;with_reducible rfl
  try simp only [Act.put,uA,uB,uC,uD,uE,uF]
  refine wpAnyE.take (i:=19) (v:=?_) rfl (by kernel_rfl) (by kernel_rfl) (by kernel_rfl) (by kernel_rfl) (fun _ _ _ h=>h) (Or.inl ⟨by rfl,?_⟩) ⟨A_656,C_655,HQ_658⟩ ?_
  rotate_left
  · intro w hSw;obtain ⟨f0,f1,f2⟩:=hSw;obtain ⟨e0,e1,e2,e3,e4,e5,e6⟩:=c7_of f0;have g0:=c1_of f1;obtain ⟨y0,y1,y2,y3,y4,y5,y6⟩:=(f2.at hq1).1;simp only [Nat.zero_add,Nat.one_mul] at y0 y1 y2 y3 y4 y5 y6;go_simp;with_reducible rfl
  try simp only [Act.put,uA,uB,uC,uD,uE,uF]
  refine wpAnyE.take (i:=20) (v:=?_) rfl (by kernel_rfl) (by kernel_rfl) (by kernel_rfl) (by kernel_rfl) (fun _ _ _ h=>h) (Or.inl ⟨by rfl,?_⟩) ⟨A_656,C_655,HQ_658⟩ ?_
  rotate_left
  · intro w hSw;obtain ⟨f0,f1,f2⟩:=hSw;obtain ⟨e0,e1,e2,e3,e4,e5,e6⟩:=c7_of f0;have g0:=c1_of f1;obtain ⟨y0,y1,y2,y3,y4,y5,y6⟩:=(f2.at hq1).1;simp only [Nat.zero_add,Nat.one_mul] at y0 y1 y2 y3 y4 y5 y6;go_simp;with_reducible rfl
  try simp only [Act.put,uA,uB,uC,uD,uE,uF]
  refine wpAnyE.take (i:=21) (v:=?_) rfl (by kernel_rfl) (by kernel_rfl) (by kernel_rfl) (by kernel_rfl) (fun _ _ _ h=>h) (Or.inl ⟨by rfl,?_⟩) ⟨A_656,C_655,HQ_658⟩ ?_
  rotate_left
  · intro w hSw;obtain ⟨f0,f1,f2⟩:=hSw;obtain ⟨e0,e1,e2,e3,e4,e5,e6⟩:=c7_of f0;have g0:=c1_of f1;obtain ⟨y0,y1,y2,y3,y4,y5,y6⟩:=(f2.at hq1).1;simp only [Nat.zero_add,Nat.one_mul] at y0 y1 y2 y3 y4 y5 y6;go_simp;with_reducible rfl
  try simp only [Act.put,uA,uB,uC,uD,uE,uF]
  refine wpAnyE.take (i:=22) (v:=?_) rfl (by kernel_rfl) (by kernel_rfl) (by kernel_rfl) (by kernel_rfl) (fun _ _ _ h=>h) (Or.inl ⟨by rfl,?_⟩) ⟨A_656,C_655,HQ_658⟩ ?_
  rotate_left
  · intro w hSw;obtain ⟨f0,f1,f2⟩:=hSw;obtain ⟨e0,e1,e2,e3,e4,e5,e6⟩:=c7_of f0;have g0:=c1_of f1;obtain ⟨y0,y1,y2,y3,y4,y5,y6⟩:=(f2.at hq1).1;simp only [Nat.zero_add,Nat.one_mul] at y0 y1 y2 y3 y4 y5 y6;go_simp;with_reducible rfl
  try simp only [Act.put,uA,uB,uC,uD,uE,uF]
  refine wpAnyE.take (i:=23) (v:=?_) rfl (by kernel_rfl) (by kernel_rfl) (by kernel_rfl) (by kernel_rfl) (fun _ _ _ h=>h) (Or.inl ⟨by rfl,?_⟩) ⟨A_656,C_655,HQ_658⟩ ?_
  rotate_left
  · intro w hSw;obtain ⟨f0,f1,f2⟩:=hSw;obtain ⟨e0,e1,e2,e3,e4,e5,e6⟩:=c7_of f0;have g0:=c1_of f1;obtain ⟨y0,y1,y2,y3,y4,y5,y6⟩:=(f2.at hq1).1;simp only [Nat.zero_add,Nat.one_mul] at y0 y1 y2 y3 y4 y5 y6;go_simp;with_reducible rfl
  try simp only [Act.put,uA,uB,uC,uD,uE,uF]
  refine wpAnyE.take (i:=24) (v:=?_) rfl (by kernel_rfl) (by kernel_rfl) (by kernel_rfl) (by kernel_rfl) (fun _ _ _ h=>h) (Or.inl ⟨by rfl,?_⟩) ⟨A_656,C_655,HQ_658⟩ ?_
  rotate_left
  · intro w hSw;obtain ⟨f0,f1,f2⟩:=hSw;obtain ⟨e0,e1,e2,e3,e4,e5,e6⟩:=c7_of f0;have g0:=c1_of f1;obtain ⟨y0,y1,y2,y3,y4,y5,y6⟩:=(f2.at hq1).1;simp only [Nat.zero_add,Nat.one_mul] at y0 y1 y2 y3 y4 y5 y6;go_simp;with_reducible rfl
  try simp only [Act.put,uA,uB,uC,uD,uE,uF]
  refine wpAnyE.take (i:=25) (v:=?_) rfl (by kernel_rfl) (by kernel_rfl) (by kernel_rfl) (by kernel_rfl) (fun _ _ _ h=>h) (Or.inl ⟨by rfl,?_⟩) ⟨A_656,C_655,HQ_658⟩ ?_
  rotate_left
  · intro w hSw;obtain ⟨f0,f1,f2⟩:=hSw;obtain ⟨e0,e1,e2,e3,e4,e5,e6⟩:=c7_of f0;have g0:=c1_of f1;obtain ⟨y0,y1,y2,y3,y4,y5,y6⟩:=(f2.at hq1).1;simp only [Nat.zero_add,Nat.one_mul] at y0 y1 y2 y3 y4 y5 y6;go_simp;with_reducible rfl
  try simp only [Act.put,uA,uB,uC,uD,uE,uF]
  refine wpAnyE.take (i:=26) (v:=?_) rfl (by kernel_rfl) (by kernel_rfl) (by kernel_rfl) (by kernel_rfl) (fun _ _ _ h=>h) (Or.inl ⟨by rfl,?_⟩) ⟨A_656,C_655,HQ_658⟩ ?_
  rotate_left
  · intro w hSw;obtain ⟨f0,f1,f2⟩:=hSw;obtain ⟨e0,e1,e2,e3,e4,e5,e6⟩:=c7_of f0;have g0:=c1_of f1;obtain ⟨y0,y1,y2,y3,y4,y5,y6⟩:=(f2.at hq1).1;simp only [Nat.zero_add,Nat.one_mul] at y0 y1 y2 y3 y4 y5 y6;go_simp;with_reducible rfl
  try simp only [Act.put,uA,uB,uC,uD,uE,uF]
  refine wpAnyE.take (i:=27) (v:=?_) rfl (by kernel_rfl) (by kernel_rfl) (by kernel_rfl) (by kernel_rfl) (fun _ _ _ h=>h) (Or.inl ⟨by rfl,?_⟩) ⟨A_656,C_655,HQ_658⟩ ?_
  rotate_left
  · intro w hSw;obtain ⟨f0,f1,f2⟩:=hSw;obtain ⟨e0,e1,e2,e3,e4,e5,e6⟩:=c7_of f0;have g0:=c1_of f1;obtain ⟨y0,y1,y2,y3,y4,y5,y6⟩:=(f2.at hq1).1;simp only [Nat.zero_add,Nat.one_mul] at y0 y1 y2 y3 y4 y5 y6;go_simp;with_reducible rfl
  try simp only [Act.put,uA,uB,uC,uD,uE,uF]
  refine wpAnyE.take (i:=28) (v:=?_) rfl (by kernel_rfl) (by kernel_rfl) (by kernel_rfl) (by kernel_rfl) (fun _ _ _ h=>h) (Or.inl ⟨by rfl,?_⟩) ⟨A_656,C_655,HQ_658⟩ ?_
  rotate_left
  · intro w hSw;obtain ⟨f0,f1,f2⟩:=hSw;obtain ⟨e0,e1,e2,e3,e4,e5,e6⟩:=c7_of f0;have g0:=c1_of f1;obtain ⟨y0,y1,y2,y3,y4,y5,y6⟩:=(f2.at hq1).1;simp only [Nat.zero_add,Nat.one_mul] at y0 y1 y2 y3 y4 y5 y6;go_simp;with_reducible rfl
  try simp only [Act.put,uA,uB,uC,uD,uE,uF]
  refine wpAnyE.take (i:=29) (v:=?_) rfl (by kernel_rfl) (by kernel_rfl) (by kernel_rfl) (by kernel_rfl) (fun _ _ _ h=>h) (Or.inl ⟨by rfl,?_⟩) ⟨A_656,C_655,HQ_658⟩ ?_
  rotate_left
  · intro w hSw;obtain ⟨f0,f1,f2⟩:=hSw;obtain ⟨e0,e1,e2,e3,e4,e5,e6⟩:=c7_of f0;have g0:=c1_of f1;obtain ⟨y0,y1,y2,y3,y4,y5,y6⟩:=(f2.at hq1).1;simp only [Nat.zero_add,Nat.one_mul] at y0 y1 y2 y3 y4 y5 y6;go_simp;with_reducible rfl
  try simp only [Act.put,uA,uB,uC,uD,uE,uF]
  refine wpAnyE.one (i:=30) (by kernel_rfl) rfl (fun K hK=>?_)
  have hc_661:=host_any W_653
  go_simp
  refine hc_661.mono ?_
  clear hc_661
  rintro e W_662 ⟨h1,h2,rfl,hHh,h⟩
  have hB_663:=hB_654.trans (h.mono hB_654.size)
  have C_664:=(h.block _ (heap_lt C_655)).trans C_655
  have A_665:=(h.block _ (heap_lt A_656)).trans A_656
  have HA_666:=HA_657.below h
  have HQ_667:=HQ_658.below h
  have hs_668:=h.size
  clear C_655 A_656 HA_657 HQ_658 h hB_654
  refine hK _ _ (fun _=>⟨A_665,C_664,HQ_667⟩) ?_
  clear hK K
  try simp only [Act.put,uA,uB,uC,uD,uE,uF]
  refine wpAnyE.one (i:=31) (by kernel_rfl) rfl (fun K hK=>?_)
  have hc_669:=begSame W_662 qs[1] h1 h2 HQ1.out ((HQ_667).at hq1).2 hHh
  go_simp
  refine hc_669.mono ?_
  clear hc_669
  rintro e W_670 ⟨rfl,h⟩
  have hB_671:=hB_663.trans (h.mono hB_663.size)
  have C_672:=(h.block _ (heap_lt C_664)).trans C_664
  have A_673:=(h.block _ (heap_lt A_665)).trans A_665
  have HA_674:=HA_666.below h
  have HQ_675:=HQ_667.below h
  have Hh_676:=hHh.below h
  have hs_677:=h.size
  clear C_664 A_665 HA_666 HQ_667 hHh h hB_663
  clear Hh_676
  refine hK _ _ (fun _=>⟨A_673,C_672,HQ_675⟩) ?_
  clear hK K
  try simp only [Act.put,uA,uB,uC,uD,uE,uF]
  refine wpAnyE.take (i:=32) (v:=?_) rfl (by kernel_rfl) (by kernel_rfl) (by kernel_rfl) (by kernel_rfl) (fun _ _ _ h=>h) (Or.inl ⟨by rfl,?_⟩) ⟨A_673,C_672,HQ_675⟩ ?_
  rotate_left
  · intro w hSw;obtain ⟨f0,f1,f2⟩:=hSw;obtain ⟨e0,e1,e2,e3,e4,e5,e6⟩:=c7_of f0;have g0:=c1_of f1;obtain ⟨y0,y1,y2,y3,y4,y5,y6⟩:=(f2.at hq1).1;simp only [Nat.zero_add,Nat.one_mul] at y0 y1 y2 y3 y4 y5 y6;go_simp;with_reducible rfl
  try simp only [Act.put,uA,uB,uC,uD,uE,uF]
  refine wpAnyE.one (i:=33) (by kernel_rfl) rfl (fun K hK=>?_)
  go_simp
  refine hK _ _ (fun _=>⟨A_673,C_672,HQ_675⟩) ?_
  clear hK K
  try simp only [Act.put,uA,uB,uC,uD,uE,uF]
  refine wpAnyE.done (by kernel_rfl) ?_
  go_wp2
  go_ret
  exact ⟨rfl,hB_671⟩
end Go.Proofs.YtehmlpkapjdhkaaGreatDoor
