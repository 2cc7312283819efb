import Derived.Test.YtehmlpkapjdhkaaGreatDoorML4
import Derived.Laws.EntriesVeiled
import Derived.Test.YtehmlpkapjdhkaaGreatDoorMX1
namespace Go.Proofs.YtehmlpkapjdhkaaGreatDoor
section
open Go.RowKit
set_option maxRecDepth 100000
theorem Ld.low {w : World} {z L B off cap : Nat} {Q : Nat → Rq} {V : Nat → ByteArray} (h : Ld w z L B off cap Q V) (p o : Nat) (v : Value) (hp : p < z) : Ld (w.setCell ⟨p,o,none⟩ v) z L B off cap Q V:=by
  have hzl:=h.zl
  have hzb:=h.zb
  have hot : ∀ k,k ≠ p → (w.setCell ⟨p,o,none⟩ v).heap[k]? = w.heap[k]?:=fun k hk=>heap_setCell_other w ⟨p,o,none⟩ k v hk
  refine ⟨?_,?_,h.zl,h.zb,h.ne,?_,?_,fun i hi=>(h.row i hi).block (hot B (by omega)),fun i hi=>(h.each i hi).next (P':=fun k=>k = B ∨ k = L) ⟨setcell_size _ _ _,fun k hk _ _=>hot k (by omega)⟩ (fun _ _ e=>e)⟩
  · obtain ⟨c,hc⟩:=h.hL;exact ⟨c,(hot L (by omega)).trans hc⟩
  · obtain ⟨c,hc⟩:=h.hB;exact ⟨c,(hot B (by omega)).trans hc⟩
  · exact (cell_blk w p L o 0 v (by omega)).trans h.head
  · intro i hi;exact (cell_blk w p L o (1 + i) v (by omega)).trans (h.vote i hi)
theorem cell_keep {B ab o : Nat} {w w' : World} {v : Value} (hb : Below B w w') (h : ab < B) (e : w.cell? ⟨ab,o,none⟩ = some v) : w'.cell? ⟨ab,o,none⟩ = some v:=(hb.cell (p:=⟨ab,o,none⟩) h).trans e
set_option maxHeartbeats 8000000 in
theorem push_any (a : Option Addr) (c : Nat) (l : List Rq) (am : Option Addr) (cm : Nat) (m : List Ob) (au : Option Addr) (cu : Nat) (us : List Up) (f : Bool) (up late : Int) (w : World) (hg : Glob w) (ht : Tab w) (h : HoldsQ w a l) (hlc : l.length ≤ c) (hcm : c ≤ 9223372036854775807)
    (hm : HoldsS w am m) (hml : m.length ≤ 9223372036854775807) (hu : HoldsU w au us) (hul : us.length ≤ 9223372036854775807) :
    Calls Tryz.prog 11 #[.agg #[.slice a l.length c],pushV am m.length cm au us.length cu f,.int .i64 up,.int .i64 late] w (PuPost (l.map Rq.r) m us f up late w):=by
  have hmf : ∀ (fn : Fn) (first cap : Array Value) (w : World),(Instr.makeFunc fn first cap).run Tryz.prog w = .ok (.func fn first cap) w:=fun _ _ _ _=>rfl
  obtain ⟨PO,HPO⟩ : ∃ P : Ending → World → Prop,Hid (P = PuPost (l.map Rq.r) m us f up late w):=⟨_,rfl⟩
  rw [← HPO.out]
  obtain ⟨hk0,hk1,hk2,hk3,hB⟩:=four_blocks w (.cells #[.slice a l.length c] 24) (.cells #[.slice am m.length cm,.slice au us.length cu,.bool f] 28) (.cells #[.int .i64 late] 3) (.cells #[.slice none 0 0] 24)
  have y0 : ((((w.alloc (.cells #[.slice a l.length c] 24)).alloc (.cells #[.slice am m.length cm,.slice au us.length cu,.bool f] 28)).alloc (.cells #[.int .i64 late] 3)).alloc (.cells #[.slice none 0 0] 24)).cell? ⟨w.heap.size,0,none⟩ = some (.slice a l.length c):=by rw [cell_of_row _ _ _ _ _ _ hk0];rfl
  have hcp:=checkPush_any a c l am cm m au cu us f up late _ (hg.below hB) (h.below hB) hlc hcm (hm.below hB) hml (hu.below hB) hul
  go_enter Tryz.func11,Tryz.ntmps11
  go_wp2_with fail
  generalize (((w.alloc (.cells #[.slice a l.length c] 24)).alloc (.cells #[.slice am m.length cm,.slice au us.length cu,.bool f] 28)).alloc (.cells #[.int .i64 late] 3)).alloc (.cells #[.slice none 0 0] 24) = W0 at *
  obtain ⟨E,HE⟩ : ∃ E,Hid (cpE (l.map Rq.r) m us up late = E):=⟨_,rfl⟩
  rw [HE.out] at hcp
  refine hcp.mono ?_
  clear hcp
  rintro e W1 ⟨rfl,hb1⟩
  have hB1:=hB.trans (hb1.mono hB.size)
  have k0:=(hb1.block _ (heap_lt hk0)).trans hk0
  have k1:=(hb1.block _ (heap_lt hk1)).trans hk1
  have k2:=(hb1.block _ (heap_lt hk2)).trans hk2
  have k3:=(hb1.block _ (heap_lt hk3)).trans hk3
  clear hk0 hk1 hk2 hk3 hb1 hB y0
  by_cases he : E = 0
  case neg =>
    have HF : Hid (∀ w',Below w.heap.size w w' → PO (.returned (.tuple #[.agg #[.slice none 0 0],.bool false,.int .i64 E])) w'):=fun w' hb=>by
      rw [HPO.out];exact PuPost.bad (by unfold pE;rw [HE.out,if_pos he]) he hb
    have he' : (E != 0) = true:=by simpa using he
    have z3 : W1.cell? ⟨w.heap.size + 3,0,none⟩ = some (.slice none 0 0):=by rw [cell_of_row _ _ _ _ _ _ k3];rfl
    have f3:=f_of (o:=0) k3
    have s5:=heap_setCell_same W1 (w.heap.size + 3) 0 _ 24 (.slice none 0 0) k3
    have y5 : (W1.setCell ⟨w.heap.size + 3,0,none⟩ (.slice none 0 0)).cell? ⟨w.heap.size + 3,0,none⟩ = some (.slice none 0 0):=by rw [cell_of_row _ _ _ _ _ _ s5];rfl
    have HB5 : Hid (Below w.heap.size w (W1.setCell ⟨w.heap.size + 3,0,none⟩ (.slice none 0 0))):=hB1.setCell (by show w.heap.size ≤ w.heap.size + 3;omega) _
    clear he s5
    go_wp2
    refine bodyPost_ret (v:=.tuple #[.agg #[.slice none 0 0],.bool false,.int .i64 E]) (by simp [results,Tryz.results11,go_sem,y5]) rfl ?_
    exact HF.out _ HB5.out
  subst he
  obtain ⟨HC,HPU,⟨hu0,hu1⟩,⟨hl0,hl1⟩⟩:=cpE_zero.1 HE.out
  have HPE : Hid (pE (l.map Rq.r) m us f up late = enE (l.map Rq.r) m us f up late):=by unfold Hid pE;rw [HE.out];rfl
  have H3 : l.length = 3:=by
    refine Classical.byContradiction fun hn=>?_
    unfold checkC at HC;rw [if_pos (by simpa using hn)] at HC;exact absurd HC (by decide)
  have HQE : Hid (∀ q ∈ l,q.r.err = 0):=by
    intro q hq
    have : firstE (l.map Rq.r) = 0:=by
      refine Classical.byContradiction fun hn=>?_
      unfold checkC at HC;rw [if_neg (by simpa using H3),if_pos hn] at HC;exact absurd HC hn
    exact firstE_zero.1 this _ (List.mem_map_of_mem hq)
  have z0 : W1.cell? ⟨w.heap.size,0,none⟩ = some (.slice a l.length c):=by rw [cell_of_row _ _ _ _ _ _ k0];rfl
  have hco:=copyC_any a c l W1 (h.below hB1) (by omega) HQE.out
  have H3h : Hid (l.length = 3):=H3
  clear HC HE H3
  go_wp2_with fail
  refine hco.mono ?_
  clear hco
  rintro e W2 ⟨v,qs,rfl,HM,SQ,hb2⟩
  have hql : qs.length = 3:=by have:=congrArg List.length HM;simpa [H3h.out] using this
  obtain ⟨B,cap,rfl,hcap,hcapm⟩ : ∃ B cap,v = .slice (some ⟨B,0,none⟩) 3 cap ∧ 3 ≤ cap ∧ cap ≤ 9223372036854775807:=by
    rcases SQ.own.2 with ⟨_,e⟩ | ⟨g,cp,cur,e,_,_,h5,h6,_⟩
    · omega
    · rw [hql] at e h5;exact ⟨g,cp,e,h5,by unfold maxLen at h6;omega⟩
  obtain ⟨Q,hQ⟩ : ∃ Q : Nat → Rq,Q = fun i=>qs.getD i ⟨⟨[],[],0,0,[],[],false⟩,none,0,none,0,none,0,none,0⟩:=⟨_,rfl⟩
  have HMi : Hid (∀ i,i < 3 → (Q i).r = rOf (l.map Rq.r) i):=by
    intro i hi
    rw [← HM,hQ]
    exact (rOf_map (by omega)).symm
  have hD2:=Ld.of_copy SQ hql ⟨⟨[],[],0,0,[],[],false⟩,none,0,none,0,none,0,none,0⟩ hb2.size
  rw [← hQ] at hD2
  clear hQ
  have hA3:=below_alloc W2 (.cells #[.slice (some ⟨B,0,none⟩) 3 cap,.string sNil,.string sNil,.string sNil] 89)
  have hA4:=below_alloc (W2.alloc (.cells #[.slice (some ⟨B,0,none⟩) 3 cap,.string sNil,.string sNil,.string sNil] 89)) (.cells #[.pointer (some ⟨W2.heap.size,0,none⟩)] 85)
  have kp4:=heap_alloc_new (W2.alloc (.cells #[.slice (some ⟨B,0,none⟩) 3 cap,.string sNil,.string sNil,.string sNil] 89)) (.cells #[.pointer (some ⟨W2.heap.size,0,none⟩)] 85)
  rw [show (W2.alloc (.cells #[.slice (some ⟨B,0,none⟩) 3 cap,.string sNil,.string sNil,.string sNil] 89)).heap.size = W2.heap.size + 1 by simp] at kp4
  have hb4:=hb2.trans (hA3.mono hb2.size)
  have hb4:=hb4.trans (hA4.mono hb4.size)
  have hD4:=hD2.below hA4
  have r1:=(hb4.block _ (heap_lt k1)).trans k1
  have p40 : ((W2.alloc (.cells #[.slice (some ⟨B,0,none⟩) 3 cap,.string sNil,.string sNil,.string sNil] 89)).alloc (.cells #[.pointer (some ⟨W2.heap.size,0,none⟩)] 85)).cell? ⟨W2.heap.size + 1,0,none⟩ = some (.pointer (some ⟨W2.heap.size,0,none⟩)):=by rw [cell_of_row _ _ _ _ _ _ kp4];rfl
  have q40 : ((W2.alloc (.cells #[.slice (some ⟨B,0,none⟩) 3 cap,.string sNil,.string sNil,.string sNil] 89)).alloc (.cells #[.pointer (some ⟨W2.heap.size,0,none⟩)] 85)).cell? ⟨w.heap.size + 1,0,none⟩ = some (.slice am m.length cm):=by rw [cell_of_row _ _ _ _ _ _ r1];rfl
  have q41 : ((W2.alloc (.cells #[.slice (some ⟨B,0,none⟩) 3 cap,.string sNil,.string sNil,.string sNil] 89)).alloc (.cells #[.pointer (some ⟨W2.heap.size,0,none⟩)] 85)).cell? ⟨w.heap.size + 1,1,none⟩ = some (.slice au us.length cu):=by rw [cell_of_row _ _ _ _ _ _ r1];rfl
  have q42 : ((W2.alloc (.cells #[.slice (some ⟨B,0,none⟩) 3 cap,.string sNil,.string sNil,.string sNil] 89)).alloc (.cells #[.pointer (some ⟨W2.heap.size,0,none⟩)] 85)).cell? ⟨w.heap.size + 1,2,none⟩ = some (.bool f):=by rw [cell_of_row _ _ _ _ _ _ r1];rfl
  have HQ3 : Hid (∀ i,i < 3 → (Q i).r.err = 0):=by
    intro i hi
    have hil : i < l.length:=by have:=H3h.out;omega
    rw [HMi.out i hi,rOf_map (d:=(⟨⟨[],[],0,0,[],[],false⟩,none,0,none,0,none,0,none,0⟩ : Rq)) hil]
    have e : l.getD i ⟨⟨[],[],0,0,[],[],false⟩,none,0,none,0,none,0,none,0⟩ = l[i]:=by simp [hil]
    rw [e];exact HQE.out _ (List.getElem_mem _)
  have hak:=ask_any W1 W2.heap.size B 0 cap Q am cm m au cu us f up _ (hg.below hB1) (ht.below hB1) (hm.below hB1) (hu.below hB1) HPU hu0 hu1 HQ3.out hb4 hD4
  clear hD2 hA3 hA4 HQE z0 SQ HM HQ3 h ht hm hu r1
  go_wp2_with fail
  generalize (W2.alloc (.cells #[.slice (some ⟨B,0,none⟩) 3 cap,.string sNil,.string sNil,.string sNil] 89)).alloc (.cells #[.pointer (some ⟨W2.heap.size,0,none⟩)] 85) = W4 at *
  refine hak.mono ?_
  clear hak p40 q40 q41 q42
  rintro e W5 ⟨rfl,hb5,HK5,Q5,hD5,HR5⟩
  have HR5' : Hid (∀ i,i < 3 → (Q5 i).r = askR m us f up (rOf (l.map Rq.r) i) i):=fun i hi=>by rw [HR5 i hi,HMi.out i hi]
  have hD5 : Ld W5 W1.heap.size W2.heap.size B 0 cap Q5 (vI (l.map Rq.r) m us f up):=hD5.same (fun i hi=>by unfold vI;rw [← HMi.out i hi])
  have hB4':=hD4.ltB
  have hLB:=hD4.ne
  have hzB:=hD4.zb
  have hzL:=hD4.zl
  have kp5:=(HK5.2 _ (heap_lt kp4) (by intro e;have:=hD4.hB;rw [← e,kp4] at this;obtain ⟨c0,q⟩:=this;simp at q) (by omega)).trans kp4
  have l3:=heap_lt k3
  have l2:=heap_lt k2
  have t2:=(hb5.block _ (heap_lt k2)).trans k2
  have t3:=(hb5.block _ (heap_lt k3)).trans k3
  have hB5:=hB1.trans (hb5.mono hB1.size)
  have hgt:=hg.below hB1
  clear HR5 HMi kp4 HK5 hD4 hb4 hb2 hg k0 k1 k2 k3
  have p50 : W5.cell? ⟨W2.heap.size + 1,0,none⟩ = some (.pointer (some ⟨W2.heap.size,0,none⟩)):=by rw [cell_of_row _ _ _ _ _ _ kp5];rfl
  have hta:=tally_yes (some ⟨W2.heap.size,1,none⟩) 3 (vI (l.map Rq.r) m us f up 0) (vI (l.map Rq.r) m us f up 1) (vI (l.map Rq.r) m us f up 2) W5 (fun i hi=>⟨W2.heap.size,1,rfl,hD5.ltL,fun j hj=>by
    have hj' : j = 0 ∨ j = 1 ∨ j = 2:=by simp at hj;omega
    rcases hj' with rfl | rfl | rfl
    · exact hD5.vote 0 (by omega)
    · exact hD5.vote 1 (by omega)
    · exact hD5.vote 2 (by omega)⟩)
  go_wp2_with fail
  refine hta.mono ?_
  clear hta
  rintro e W6 ⟨rfl,hb6⟩
  obtain ⟨sd,wn,HT⟩ : ∃ sd wn,Hid (tI (l.map Rq.r) m us f up = (sd,wn)):=⟨_,_,rfl⟩
  rw [show tal3 (vI (l.map Rq.r) m us f up 0) (vI (l.map Rq.r) m us f up 1) (vI (l.map Rq.r) m us f up 2) = (sd,wn) from HT.out]
  have HWI : Hid (∀ i,wouldB wn (vI (l.map Rq.r) m us f up i) sd late i = wI (l.map Rq.r) m us f up late i):=fun i=>by unfold wI;rw [HT.out]
  clear HT p50
  obtain ⟨h70,h71,h7w,hB7⟩:=three_blocks W6 (.cells #[.string sd] 9) (.cells #[.bool wn] 4) (.cells #[(.func (.func 47) #[] #[.pointer (some ⟨W6.heap.size + 1,0,none⟩),.pointer (some ⟨W2.heap.size + 1,0,none⟩),.pointer (some ⟨W6.heap.size,0,none⟩),.pointer (some ⟨w.heap.size + 2,0,none⟩)])] 94)
  have yw : (((W6.alloc (.cells #[.string sd] 9)).alloc (.cells #[.bool wn] 4)).alloc (.cells #[(.func (.func 47) #[] #[.pointer (some ⟨W6.heap.size + 1,0,none⟩),.pointer (some ⟨W2.heap.size + 1,0,none⟩),.pointer (some ⟨W6.heap.size,0,none⟩),.pointer (some ⟨w.heap.size + 2,0,none⟩)])] 94)).cell? ⟨W6.heap.size + 2,0,none⟩ = some (.func (.func 47) #[] #[.pointer (some ⟨W6.heap.size + 1,0,none⟩),.pointer (some ⟨W2.heap.size + 1,0,none⟩),.pointer (some ⟨W6.heap.size,0,none⟩),.pointer (some ⟨w.heap.size + 2,0,none⟩)]):=by rw [cell_of_row _ _ _ _ _ _ h7w];rfl
  have hb7:=hb6.trans (hB7.mono hb6.size)
  have hD7:=hD5.below hb7
  have kp7:=(hb7.block _ (heap_lt kp5)).trans kp5
  have t27:=(hb7.block _ (heap_lt t2)).trans t2
  have t37:=(hb7.block _ (heap_lt t3)).trans t3
  have hBw7:=hB5.trans (hb7.mono hB5.size)
  have hb17 : Below W1.heap.size W1 (((W6.alloc (.cells #[.string sd] 9)).alloc (.cells #[.bool wn] 4)).alloc (.cells #[(.func (.func 47) #[] #[.pointer (some ⟨W6.heap.size + 1,0,none⟩),.pointer (some ⟨W2.heap.size + 1,0,none⟩),.pointer (some ⟨W6.heap.size,0,none⟩),.pointer (some ⟨w.heap.size + 2,0,none⟩)])] 94)):=hb5.trans (hb7.mono hb5.size)
  have yp : (((W6.alloc (.cells #[.string sd] 9)).alloc (.cells #[.bool wn] 4)).alloc (.cells #[(.func (.func 47) #[] #[.pointer (some ⟨W6.heap.size + 1,0,none⟩),.pointer (some ⟨W2.heap.size + 1,0,none⟩),.pointer (some ⟨W6.heap.size,0,none⟩),.pointer (some ⟨w.heap.size + 2,0,none⟩)])] 94)).cell? ⟨W2.heap.size + 1,0,none⟩ = some (.pointer (some ⟨W2.heap.size,0,none⟩)):=by rw [cell_of_row _ _ _ _ _ _ kp7];rfl
  have yh:=hD7.head
  have hB6 : B < W6.heap.size:=Nat.lt_of_lt_of_le hD5.ltB hb6.size
  have hne1 : W2.heap.size + 1 ≠ B:=by
    intro e
    obtain ⟨cb,q⟩:=hD5.hB
    rw [← e,kp5] at q
    simp at q
  have HWD : ∀ (i : Nat) (W : World),i < 3 → (∀ k,k < (((W6.alloc (.cells #[.string sd] 9)).alloc (.cells #[.bool wn] 4)).alloc (.cells #[(.func (.func 47) #[] #[.pointer (some ⟨W6.heap.size + 1,0,none⟩),.pointer (some ⟨W2.heap.size + 1,0,none⟩),.pointer (some ⟨W6.heap.size,0,none⟩),.pointer (some ⟨w.heap.size + 2,0,none⟩)])] 94)).heap.size → k ≠ B → W.heap[k]? = (((W6.alloc (.cells #[.string sd] 9)).alloc (.cells #[.bool wn] 4)).alloc (.cells #[(.func (.func 47) #[] #[.pointer (some ⟨W6.heap.size + 1,0,none⟩),.pointer (some ⟨W2.heap.size + 1,0,none⟩),.pointer (some ⟨W6.heap.size,0,none⟩),.pointer (some ⟨w.heap.size + 2,0,none⟩)])] 94)).heap[k]?) → (((W6.alloc (.cells #[.string sd] 9)).alloc (.cells #[.bool wn] 4)).alloc (.cells #[(.func (.func 47) #[] #[.pointer (some ⟨W6.heap.size + 1,0,none⟩),.pointer (some ⟨W2.heap.size + 1,0,none⟩),.pointer (some ⟨W6.heap.size,0,none⟩),.pointer (some ⟨w.heap.size + 2,0,none⟩)])] 94)).heap.size ≤ W.heap.size → Calls Tryz.prog 47 #[.int .i64 i,.pointer (some ⟨W6.heap.size + 1,0,none⟩),.pointer (some ⟨W2.heap.size + 1,0,none⟩),.pointer (some ⟨W6.heap.size,0,none⟩),.pointer (some ⟨w.heap.size + 2,0,none⟩)] W (fun e w'=>e = .returned (.bool (wI (l.map Rq.r) m us f up late i)) ∧ Below W.heap.size W w'):=by
    intro i W hi hk hs
    have hL7:=hD7.ltL
    rw [← HWI.out i]
    exact would_any i hi (W6.heap.size + 1) (W2.heap.size + 1) W6.heap.size (w.heap.size + 2) W2.heap.size wn sd (vI (l.map Rq.r) m us f up i) late W hl0 hl1
      ((hk _ (heap_lt h71) (by omega)).trans h71) ((hk _ (heap_lt kp7) hne1).trans kp7) ((hk _ (heap_lt h70) (by omega)).trans h70) ((hk _ (heap_lt t27) (by omega)).trans t27)
      (by omega) ((World.cell?_of_block (a:=⟨W2.heap.size,1 + i,none⟩) (hk _ hL7 hLB)).trans (hD7.vote i hi))
  clear h70 h71 kp5 t2 t3 hB5 hb6 hB7 hb7 t27 hb5 hB4' hD5
  have HMO : ∀ W,Below (((W6.alloc (.cells #[.string sd] 9)).alloc (.cells #[.bool wn] 4)).alloc (.cells #[(.func (.func 47) #[] #[.pointer (some ⟨W6.heap.size + 1,0,none⟩),.pointer (some ⟨W2.heap.size + 1,0,none⟩),.pointer (some ⟨W6.heap.size,0,none⟩),.pointer (some ⟨w.heap.size + 2,0,none⟩)])] 94)).heap.size (((W6.alloc (.cells #[.string sd] 9)).alloc (.cells #[.bool wn] 4)).alloc (.cells #[(.func (.func 47) #[] #[.pointer (some ⟨W6.heap.size + 1,0,none⟩),.pointer (some ⟨W2.heap.size + 1,0,none⟩),.pointer (some ⟨W6.heap.size,0,none⟩),.pointer (some ⟨w.heap.size + 2,0,none⟩)])] 94)) W → Calls Tryz.prog 49 #[.slice (some ⟨B,0,none⟩) 3 cap,.func (.func 47) #[] #[.pointer (some ⟨W6.heap.size + 1,0,none⟩),.pointer (some ⟨W2.heap.size + 1,0,none⟩),.pointer (some ⟨W6.heap.size,0,none⟩),.pointer (some ⟨w.heap.size + 2,0,none⟩)]] W fun e w'=>e = .returned (.bool (doI (l.map Rq.r) m us f up late)) ∧ Below W.heap.size W w':=fun W hbW =>
    mostWould (some ⟨B,0,none⟩) cap 3 (W6.heap.size + 1) (W2.heap.size + 1) W6.heap.size (w.heap.size + 2) (wI (l.map Rq.r) m us f up late) W (by decide) (fun i W' hi hb=>HWD i W' hi (fun k hk _=>(hb.block k (Nat.lt_of_lt_of_le hk hbW.size)).trans (hbW.block k hk)) (Nat.le_trans hbW.size hb.size))
  obtain ⟨dn,HDN⟩ : ∃ dn,Hid (doI (l.map Rq.r) m us f up late = dn):=⟨_,rfl⟩
  rw [HDN.out] at HMO
  go_upto_region 10 with fail
  generalize (((W6.alloc (.cells #[.string sd] 9)).alloc (.cells #[.bool wn] 4)).alloc (.cells #[(.func (.func 47) #[] #[.pointer (some ⟨W6.heap.size + 1,0,none⟩),.pointer (some ⟨W2.heap.size + 1,0,none⟩),.pointer (some ⟨W6.heap.size,0,none⟩),.pointer (some ⟨w.heap.size + 2,0,none⟩)])] 94)) = W7 at *
  go_cut [17] from 49 to 67 (fun s17 wx=>∃ pd,s17 = .pointer (some ⟨pd,0,none⟩) ∧ wx.heap[pd]? = some (.cells #[.bool dn] 4) ∧ W7.heap.size ≤ pd ∧ Below W7.heap.size W7 wx)
  case first =>
    have hdr:=below_refl_drew W7
    have yw0:=cell_keep hdr (heap_lt h7w) yw
    have yp0:=cell_keep hdr (heap_lt kp7) yp
    have yh0:=cell_keep hdr hD7.ltL yh
    have hS0 : W7.drew.cell? ⟨W2.heap.size + 1,0,none⟩ = some (.pointer (some ⟨W2.heap.size,0,none⟩)) ∧ W7.drew.cell? ⟨W2.heap.size,0,none⟩ = some (.slice (some ⟨B,0,none⟩) 3 cap) ∧ W7.drew.cell? ⟨W6.heap.size + 2,0,none⟩ = some (.func (.func 47) #[] #[.pointer (some ⟨W6.heap.size + 1,0,none⟩),.pointer (some ⟨W2.heap.size + 1,0,none⟩),.pointer (some ⟨W6.heap.size,0,none⟩),.pointer (some ⟨w.heap.size + 2,0,none⟩)]):=⟨yp0,yh0,yw0⟩
    refine wp_region_E (fun W=>W.cell? ⟨W2.heap.size + 1,0,none⟩ = some (.pointer (some ⟨W2.heap.size,0,none⟩)) ∧ W.cell? ⟨W2.heap.size,0,none⟩ = some (.slice (some ⟨B,0,none⟩) 3 cap) ∧ W.cell? ⟨W6.heap.size + 2,0,none⟩ = some (.func (.func 47) #[] #[.pointer (some ⟨W6.heap.size + 1,0,none⟩),.pointer (some ⟨W2.heap.size + 1,0,none⟩),.pointer (some ⟨W6.heap.size,0,none⟩),.pointer (some ⟨w.heap.size + 2,0,none⟩)])) (fun _=>false) (by kernel_rfl) hS0 (fun hS=>?_)
    clear hS0 yw0 yp0 yh0
    have hlw:=heap_lt h7w
    have hlp:=heap_lt kp7
    have hlL:=hD7.ltL
    generalize W7.drew = V0 at *
    refine wpAnyE.take (i:=0) (v:=?_) rfl (by kernel_rfl) (by kernel_rfl) (by kernel_rfl) (by kernel_rfl) (fun _ _ _ h=>h) (Or.inl ⟨by rfl,?_⟩) (by assumption) ?_
    rotate_left
    · intro w hSw;obtain ⟨s0,s1,s2⟩:=hSw;go_simp;with_reducible rfl
    try simp only [Act.put,uA,uC,uD,uE,uF]
    refine wpAnyE.take (i:=1) (v:=?_) rfl (by kernel_rfl) (by kernel_rfl) (by kernel_rfl) (by kernel_rfl) (fun _ _ _ h=>h) (Or.inl ⟨by rfl,?_⟩) (by assumption) ?_
    rotate_left
    · intro w hSw;obtain ⟨s0,s1,s2⟩:=hSw;go_simp;with_reducible rfl
    try simp only [Act.put,uA,uB,uC,uD,uE,uF]
    refine wpAnyE.take (i:=2) (v:=?_) rfl (by kernel_rfl) (by kernel_rfl) (by kernel_rfl) (by kernel_rfl) (fun _ _ _ h=>h) (Or.inl ⟨by rfl,?_⟩) (by assumption) ?_
    rotate_left
    · intro w hSw;obtain ⟨s0,s1,s2⟩:=hSw;go_simp;with_reducible rfl
    try simp only [Act.put,uA,uB,uC,uD,uE,uF]
    refine wpAnyE.take (i:=3) (v:=?_) rfl (by kernel_rfl) (by kernel_rfl) (by kernel_rfl) (by kernel_rfl) (fun _ _ _ h=>h) (Or.inl ⟨by rfl,?_⟩) (by assumption) ?_
    rotate_left
    · intro w hSw;obtain ⟨s0,s1,s2⟩:=hSw;go_simp;with_reducible rfl
    try simp only [Act.put,uA,uB,uC,uD,uE,uF]
    refine wpAnyE.take (i:=4) (v:=?_) rfl (by kernel_rfl) (by kernel_rfl) (by kernel_rfl) (by kernel_rfl) (fun _ _ _ h=>h) (Or.inl ⟨by rfl,?_⟩) (by assumption) ?_
    rotate_left
    · intro w hSw;obtain ⟨s0,s1,s2⟩:=hSw;go_simp;with_reducible rfl
    try simp only [Act.put,uA,uB,uC,uD,uE,uF]
    refine wpAnyE.take (i:=5) (v:=?_) rfl (by kernel_rfl) (by kernel_rfl) (by kernel_rfl) (by kernel_rfl) (fun _ _ _ h=>h) (Or.inl ⟨by rfl,?_⟩) (by assumption) ?_
    rotate_left
    · intro w hSw;obtain ⟨s0,s1,s2⟩:=hSw;go_simp;with_reducible rfl
    try simp only [Act.put,uA,uB,uC,uD,uE,uF]
    refine wpAnyE.two (i:=6) (j:=7) (by kernel_rfl) rfl rfl (fun K hK=>?_) (fun K hK=>?_)
    · go_simp
      refine (HMO V0 hdr).mono ?_
      rintro e V1 ⟨rfl,hb⟩
      have hb1:=hdr.trans (hb.mono hdr.size)
      have hS1 : V1.cell? ⟨W2.heap.size + 1,0,none⟩ = some (.pointer (some ⟨W2.heap.size,0,none⟩)) ∧ V1.cell? ⟨W2.heap.size,0,none⟩ = some (.slice (some ⟨B,0,none⟩) 3 cap) ∧ V1.cell? ⟨W6.heap.size + 2,0,none⟩ = some (.func (.func 47) #[] #[.pointer (some ⟨W6.heap.size + 1,0,none⟩),.pointer (some ⟨W2.heap.size + 1,0,none⟩),.pointer (some ⟨W6.heap.size,0,none⟩),.pointer (some ⟨w.heap.size + 2,0,none⟩)]):=⟨cell_keep hb1 hlp yp,cell_keep hb1 hlL yh,cell_keep hb1 hlw yw⟩
      refine hK _ _ (fun _=>hS1) ?_
      clear hK K hS hb
      try simp only [Act.put,uA,uB,uC,uD,uE,uF]
      refine wpAnyE.one (i:=7) (by kernel_rfl) rfl (fun K hK=>?_)
      go_simp
      have hA:=below_alloc V1 (.cells #[.bool false] 4)
      have hb2:=hb1.trans (hA.mono hb1.size)
      have kd:=heap_alloc_new V1 (.cells #[.bool false] 4)
      have hS2 : (V1.alloc (.cells #[.bool false] 4)).cell? ⟨W2.heap.size + 1,0,none⟩ = some (.pointer (some ⟨W2.heap.size,0,none⟩)) ∧ (V1.alloc (.cells #[.bool false] 4)).cell? ⟨W2.heap.size,0,none⟩ = some (.slice (some ⟨B,0,none⟩) 3 cap) ∧ (V1.alloc (.cells #[.bool false] 4)).cell? ⟨W6.heap.size + 2,0,none⟩ = some (.func (.func 47) #[] #[.pointer (some ⟨W6.heap.size + 1,0,none⟩),.pointer (some ⟨W2.heap.size + 1,0,none⟩),.pointer (some ⟨W6.heap.size,0,none⟩),.pointer (some ⟨w.heap.size + 2,0,none⟩)]):=⟨cell_keep hb2 hlp yp,cell_keep hb2 hlL yh,cell_keep hb2 hlw yw⟩
      refine hK _ _ (fun _=>hS2) ?_
      clear hK K hS1
      try simp only [Act.put,uA,uB,uC,uD,uE,uF]
      refine wpAnyE.one (i:=8) (by kernel_rfl) rfl (fun K hK=>?_)
      have hA3:=below_alloc V1 (.cells #[.bool dn] 4)
      have kd2:=heap_alloc_new V1 (.cells #[.bool dn] 4)
      have hb3:=hb1.trans (hA3.mono hb1.size)
      have hS3 : (V1.alloc (.cells #[.bool dn] 4)).cell? ⟨W2.heap.size + 1,0,none⟩ = some (.pointer (some ⟨W2.heap.size,0,none⟩)) ∧ (V1.alloc (.cells #[.bool dn] 4)).cell? ⟨W2.heap.size,0,none⟩ = some (.slice (some ⟨B,0,none⟩) 3 cap) ∧ (V1.alloc (.cells #[.bool dn] 4)).cell? ⟨W6.heap.size + 2,0,none⟩ = some (.func (.func 47) #[] #[.pointer (some ⟨W6.heap.size + 1,0,none⟩),.pointer (some ⟨W2.heap.size + 1,0,none⟩),.pointer (some ⟨W6.heap.size,0,none⟩),.pointer (some ⟨w.heap.size + 2,0,none⟩)]):=⟨cell_keep hb3 hlp yp,cell_keep hb3 hlL yh,cell_keep hb3 hlw yw⟩
      go_simp
      refine hK _ _ (fun _=>hS3) ?_
      clear hK K hS2
      try simp only [Act.put,uA,uB,uC,uD,uE,uF]
      refine wpAnyE.done (by kernel_rfl) ?_
      go_wp2
      go_meet
      case rel=>exact ⟨_,rfl,kd2,hb1.size,hb3⟩
    · go_simp
      have hA:=below_alloc V0 (.cells #[.bool false] 4)
      have hb1:=hdr.trans (hA.mono hdr.size)
      have kd:=heap_alloc_new V0 (.cells #[.bool false] 4)
      have hS1 : (V0.alloc (.cells #[.bool false] 4)).cell? ⟨W2.heap.size + 1,0,none⟩ = some (.pointer (some ⟨W2.heap.size,0,none⟩)) ∧ (V0.alloc (.cells #[.bool false] 4)).cell? ⟨W2.heap.size,0,none⟩ = some (.slice (some ⟨B,0,none⟩) 3 cap) ∧ (V0.alloc (.cells #[.bool false] 4)).cell? ⟨W6.heap.size + 2,0,none⟩ = some (.func (.func 47) #[] #[.pointer (some ⟨W6.heap.size + 1,0,none⟩),.pointer (some ⟨W2.heap.size + 1,0,none⟩),.pointer (some ⟨W6.heap.size,0,none⟩),.pointer (some ⟨w.heap.size + 2,0,none⟩)]):=⟨cell_keep hb1 hlp yp,cell_keep hb1 hlL yh,cell_keep hb1 hlw yw⟩
      refine hK _ _ (fun _=>hS1) ?_
      clear hK K hS
      try simp only [Act.put,uA,uB,uC,uD,uE,uF]
      refine wpAnyE.one (i:=6) (by kernel_rfl) rfl (fun K hK=>?_)
      go_simp
      refine (HMO _ hb1).mono ?_
      rintro e V1 ⟨rfl,hb⟩
      have hb2:=hb1.trans (hb.mono hb1.size)
      have kd1:=(hb.block _ (heap_lt kd)).trans kd
      have hS2 : V1.cell? ⟨W2.heap.size + 1,0,none⟩ = some (.pointer (some ⟨W2.heap.size,0,none⟩)) ∧ V1.cell? ⟨W2.heap.size,0,none⟩ = some (.slice (some ⟨B,0,none⟩) 3 cap) ∧ V1.cell? ⟨W6.heap.size + 2,0,none⟩ = some (.func (.func 47) #[] #[.pointer (some ⟨W6.heap.size + 1,0,none⟩),.pointer (some ⟨W2.heap.size + 1,0,none⟩),.pointer (some ⟨W6.heap.size,0,none⟩),.pointer (some ⟨w.heap.size + 2,0,none⟩)]):=⟨cell_keep hb2 hlp yp,cell_keep hb2 hlL yh,cell_keep hb2 hlw yw⟩
      refine hK _ _ (fun _=>hS2) ?_
      clear hK K hS1 kd
      try simp only [Act.put,uA,uB,uC,uD,uE,uF]
      refine wpAnyE.one (i:=8) (by kernel_rfl) rfl (fun K hK=>?_)
      have zd : V1.cell? ⟨V0.heap.size,0,none⟩ = some (.bool false):=by rw [cell_of_row _ _ _ _ _ _ kd1];rfl
      have fd:=f_of (o:=0) kd1
      have kd2:=heap_setCell_same V1 V0.heap.size 0 _ 4 (.bool dn) kd1
      have hb3 : Below W7.heap.size W7 (V1.setCell ⟨V0.heap.size,0,none⟩ (.bool dn)):=hb2.setCell (by show W7.heap.size ≤ V0.heap.size;exact hdr.size) _
      have hS3 : (V1.setCell ⟨V0.heap.size,0,none⟩ (.bool dn)).cell? ⟨W2.heap.size + 1,0,none⟩ = some (.pointer (some ⟨W2.heap.size,0,none⟩)) ∧ (V1.setCell ⟨V0.heap.size,0,none⟩ (.bool dn)).cell? ⟨W2.heap.size,0,none⟩ = some (.slice (some ⟨B,0,none⟩) 3 cap) ∧ (V1.setCell ⟨V0.heap.size,0,none⟩ (.bool dn)).cell? ⟨W6.heap.size + 2,0,none⟩ = some (.func (.func 47) #[] #[.pointer (some ⟨W6.heap.size + 1,0,none⟩),.pointer (some ⟨W2.heap.size + 1,0,none⟩),.pointer (some ⟨W6.heap.size,0,none⟩),.pointer (some ⟨w.heap.size + 2,0,none⟩)]):=⟨cell_keep hb3 hlp yp,cell_keep hb3 hlL yh,cell_keep hb3 hlw yw⟩
      go_simp
      refine hK _ _ (fun _=>hS3) ?_
      clear hK K hS2
      try simp only [Act.put,uA,uB,uC,uD,uE,uF]
      refine wpAnyE.done (by kernel_rfl) ?_
      go_wp2
      go_meet
      case rel=>exact ⟨_,rfl,by simpa using kd2,hdr.size,hb3⟩
  case rest =>
  obtain ⟨pd,rfl,hn9,hpd,hb9⟩:=hcut
  have hD9:=hD7.below hb9
  have kp9:=(hb9.block _ (heap_lt kp7)).trans kp7
  have t39:=(hb9.block _ (heap_lt t37)).trans t37
  have h9w:=(hb9.block _ (heap_lt h7w)).trans h7w
  have hb19:=hb17.trans (hb9.mono hb17.size)
  have yp9 : wc.cell? ⟨W2.heap.size + 1,0,none⟩ = some (.pointer (some ⟨W2.heap.size,0,none⟩)):=by rw [cell_of_row _ _ _ _ _ _ kp9];rfl
  have h7lt:=heap_lt h7w
  have hpdB : pd ≠ B:=by omega
  have hfi:=finish_lead W1 W2.heap.size B 0 cap Q5 (vI (l.map Rq.r) m us f up) (cI (l.map Rq.r) m us f up late) pd (W6.heap.size + 2) wc hgt hb19 hD9 (fun i W hi hk=>by
    have hkb:=hk.2
    have:=commits_any i pd (W6.heap.size + 2) _ _ _ _ dn (wI (l.map Rq.r) m us f up late i) W ((hkb _ (heap_lt hn9) hpdB).trans hn9) ((hkb _ (heap_lt h9w) (by omega)).trans h9w)
      (HWD i W hi (fun k hk7 hn=>(hkb k (Nat.lt_of_lt_of_le hk7 hb9.size) hn).trans (hb9.block k hk7)) (Nat.le_trans hb9.size hk.1))
    rw [show (dn && wI (l.map Rq.r) m us f up late i) = cI (l.map Rq.r) m us f up late i by unfold cI;rw [HDN.out]] at this
    exact this)
  rw [show fstE (fun i=>finV (Q5 i).r (vI (l.map Rq.r) m us f up i) (cI (l.map Rq.r) m us f up late i)) = enE (l.map Rq.r) m us f up late by
    unfold enE fstE
    simp only [HR5'.out 0 (by decide),HR5'.out 1 (by decide),HR5'.out 2 (by decide)]] at hfi
  obtain ⟨E,HE⟩ : ∃ E,Hid (enE (l.map Rq.r) m us f up late = E):=⟨_,rfl⟩
  rw [HE.out] at hfi
  have hb17s:=hb17.size
  clear hD7 kp7 t37 h7w hb17 yw yp yh HWD HMO
  go_wp2_with fail
  refine hfi.mono ?_
  clear hfi
  rintro e W10 ⟨rfl,hb10,hK10,hgood⟩
  have hB10 : Below w.heap.size w W10:=hB1.trans (hb10.mono hB1.size)
  have t310:=(hb10.block _ l3).trans (((hb19.block _ l3).symm.trans t39) |> fun q=>q)
  by_cases he : E = 0
  case neg =>
    have HF : Hid (∀ w',Below w.heap.size w w' → PO (.returned (.tuple #[.agg #[.slice none 0 0],.bool false,.int .i64 E])) w'):=fun w' hb=>by
      rw [HPO.out];exact PuPost.bad (by rw [HPE.out];exact HE.out) he hb
    have he' : (E != 0) = true:=by simpa using he
    have z3 : W10.cell? ⟨w.heap.size + 3,0,none⟩ = some (.slice none 0 0):=by rw [cell_of_row _ _ _ _ _ _ t310];rfl
    have f3:=f_of (o:=0) t310
    have s5:=heap_setCell_same W10 (w.heap.size + 3) 0 _ 24 (.slice none 0 0) t310
    have y5 : (W10.setCell ⟨w.heap.size + 3,0,none⟩ (.slice none 0 0)).cell? ⟨w.heap.size + 3,0,none⟩ = some (.slice none 0 0):=by rw [cell_of_row _ _ _ _ _ _ s5];rfl
    have HB5 : Hid (Below w.heap.size w (W10.setCell ⟨w.heap.size + 3,0,none⟩ (.slice none 0 0))):=hB10.setCell (by show w.heap.size ≤ w.heap.size + 3;omega) _
    clear he s5 hgood
    go_wp2
    refine bodyPost_ret (v:=.tuple #[.agg #[.slice none 0 0],.bool false,.int .i64 E]) (by simp [results,Tryz.results11,go_sem,y5]) rfl ?_
    exact HF.out _ HB5.out
  subst he
  obtain ⟨Q',hL10,hR10⟩:=hgood rfl
  have kp10:=(hK10.2 _ (heap_lt kp9) hne1).trans kp9
  have hn10:=(hK10.2 _ (heap_lt hn9) hpdB).trans hn9
  go_upto_region 14 with fail
  have hdr:=below_refl_drew W10
  have kp11:=(hdr.block _ (heap_lt kp10)).trans kp10
  have hn11:=(hdr.block _ (heap_lt hn10)).trans hn10
  have t311:=(hdr.block _ (heap_lt t310)).trans t310
  have hL11:=hL10.below hdr
  have hB11:=hB10.trans (hdr.mono hB10.size)
  have hS0 : W10.drew.cell? ⟨W2.heap.size + 1,0,none⟩ = some (.pointer (some ⟨W2.heap.size,0,none⟩)) ∧ W10.drew.cell? ⟨pd,0,none⟩ = some (.bool dn) ∧ W10.drew.cell? ⟨W2.heap.size,0,none⟩ = some (.slice (some ⟨B,0,none⟩) 3 cap):=⟨by rw [cell_of_row _ _ _ _ _ _ kp11];rfl,by rw [cell_of_row _ _ _ _ _ _ hn11];rfl,hL11.head⟩
  refine wp_region_E (fun W=>W.cell? ⟨W2.heap.size + 1,0,none⟩ = some (.pointer (some ⟨W2.heap.size,0,none⟩)) ∧ W.cell? ⟨pd,0,none⟩ = some (.bool dn) ∧ W.cell? ⟨W2.heap.size,0,none⟩ = some (.slice (some ⟨B,0,none⟩) 3 cap)) (fun _=>false) (by kernel_rfl) hS0 (fun hS=>?_)
  clear hS0 hdr kp10 hn10 t310 hL10 hB10 hK10 hb10
  generalize W10.drew = W11 at *
  refine wpAnyE.take (i:=0) (v:=?_) rfl (by kernel_rfl) (by kernel_rfl) (by kernel_rfl) (by kernel_rfl) (fun _ _ _ h=>h) (Or.inl ⟨by rfl,?_⟩) (by assumption) ?_
  rotate_left
  · intro w hSw;obtain ⟨s0,s1,s2⟩:=hSw;go_simp;with_reducible rfl
  try simp only [Act.put,uA,uC,uD,uE,uF]
  refine wpAnyE.take (i:=1) (v:=?_) rfl (by kernel_rfl) (by kernel_rfl) (by kernel_rfl) (by kernel_rfl) (fun _ _ _ h=>h) (Or.inl ⟨by rfl,?_⟩) (by assumption) ?_
  rotate_left
  · intro w hSw;obtain ⟨s0,s1,s2⟩:=hSw;go_simp;with_reducible rfl
  try simp only [Act.put,uA,uB,uC,uD,uE,uF]
  refine wpAnyE.take (i:=2) (v:=?_) rfl (by kernel_rfl) (by kernel_rfl) (by kernel_rfl) (by kernel_rfl) (fun _ _ _ h=>h) (Or.inl ⟨by rfl,?_⟩) (by assumption) ?_
  rotate_left
  · intro w hSw;obtain ⟨s0,s1,s2⟩:=hSw;go_simp;with_reducible rfl
  try simp only [Act.put,uA,uB,uC,uD,uE,uF]
  refine wpAnyE.take (i:=3) (v:=?_) rfl (by kernel_rfl) (by kernel_rfl) (by kernel_rfl) (by kernel_rfl) (fun _ _ _ h=>h) (Or.inl ⟨by rfl,?_⟩) (by assumption) ?_
  rotate_left
  · intro w hSw;obtain ⟨s0,s1,s2⟩:=hSw;go_simp;with_reducible rfl
  try simp only [Act.put,uA,uB,uC,uD,uE,uF]
  refine wpAnyE.take (i:=4) (v:=?_) rfl (by kernel_rfl) (by kernel_rfl) (by kernel_rfl) (by kernel_rfl) (fun _ _ _ h=>h) (Or.inl ⟨by rfl,?_⟩) (by assumption) ?_
  rotate_left
  · intro w hSw;obtain ⟨s0,s1,s2⟩:=hSw;go_simp;with_reducible rfl
  try simp only [Act.put,uA,uB,uC,uD,uE,uF]
  refine wpAnyE.one (i:=5) (by kernel_rfl) rfl (fun K hK=>?_)
  have z3 : W11.cell? ⟨w.heap.size + 3,0,none⟩ = some (.slice none 0 0):=by rw [cell_of_row _ _ _ _ _ _ t311];rfl
  have f3:=f_of (o:=0) t311
  have s5:=heap_setCell_same W11 (w.heap.size + 3) 0 _ 24 (.slice (some ⟨B,0,none⟩) 3 cap) t311
  have hlow:=hL11.low (w.heap.size + 3) 0 (.slice (some ⟨B,0,none⟩) 3 cap) l3
  have y5 : (W11.setCell ⟨w.heap.size + 3,0,none⟩ (.slice (some ⟨B,0,none⟩) 3 cap)).cell? ⟨w.heap.size + 3,0,none⟩ = some (.slice (some ⟨B,0,none⟩) 3 cap):=by rw [cell_of_row _ _ _ _ _ _ s5];rfl
  have hot : ∀ k,k ≠ w.heap.size + 3 → (W11.setCell ⟨w.heap.size + 3,0,none⟩ (.slice (some ⟨B,0,none⟩) 3 cap)).heap[k]? = W11.heap[k]?:=fun k hk=>heap_setCell_other W11 ⟨w.heap.size + 3,0,none⟩ k (.slice (some ⟨B,0,none⟩) 3 cap) hk
  have hpd1 : pd ≠ w.heap.size + 3:=by
    have:=hb17s;omega
  have hS5 : (W11.setCell ⟨w.heap.size + 3,0,none⟩ (.slice (some ⟨B,0,none⟩) 3 cap)).cell? ⟨W2.heap.size + 1,0,none⟩ = some (.pointer (some ⟨W2.heap.size,0,none⟩)) ∧ (W11.setCell ⟨w.heap.size + 3,0,none⟩ (.slice (some ⟨B,0,none⟩) 3 cap)).cell? ⟨pd,0,none⟩ = some (.bool dn) ∧ (W11.setCell ⟨w.heap.size + 3,0,none⟩ (.slice (some ⟨B,0,none⟩) 3 cap)).cell? ⟨W2.heap.size,0,none⟩ = some (.slice (some ⟨B,0,none⟩) 3 cap):=⟨by rw [cell_of_row _ _ _ _ _ _ ((hot _ (by omega)).trans kp11)];rfl,by rw [cell_of_row _ _ _ _ _ _ ((hot _ hpd1).trans hn11)];rfl,hlow.head⟩
  have HLL : Hid (PO (.returned (.tuple #[.agg #[(.slice (some ⟨B,0,none⟩) 3 cap)],.bool dn,.int .i64 0])) (W11.setCell ⟨w.heap.size + 3,0,none⟩ (.slice (some ⟨B,0,none⟩) 3 cap))):=by
    rw [HPO.out]
    have hB1s:=hB1.size
    refine ⟨hB11.setCell (by show w.heap.size ≤ w.heap.size + 3;omega) _,.inr ⟨by rw [HPE.out];exact HE.out,B,cap,[Q' 0,Q' 1,Q' 2],by rw [HDN.out],?_,hlow.dep.widen hB1s,hcap,hcapm⟩⟩
    unfold eL eI
    simp only [List.map_cons,List.map_nil]
    rw [hR10 0 (by decide),hR10 1 (by decide),hR10 2 (by decide),HR5'.out 0 (by decide),HR5'.out 1 (by decide),HR5'.out 2 (by decide)]
  go_simp
  refine hK _ _ (fun _=>hS5) ?_
  clear hK K hS
  try simp only [Act.put,uA,uB,uC,uD,uE,uF]
  refine wpAnyE.one (i:=6) (by kernel_rfl) rfl (fun K hK=>?_)
  go_simp
  refine hK _ _ (fun _=>hS5) ?_
  clear hK K
  try simp only [Act.put,uA,uB,uC,uD,uE,uF]
  refine wpAnyE.one (i:=7) (by kernel_rfl) rfl (fun K hK=>?_)
  go_simp
  refine hK _ _ (fun _=>hS5) ?_
  clear hK K
  try simp only [Act.put,uA,uB,uC,uD,uE,uF]
  refine wpAnyE.done (by kernel_rfl) ?_
  clear hR10 hlow hL11 s5 hot kp11 hn11 t311
  generalize W11.setCell ⟨w.heap.size + 3,0,none⟩ (.slice (some ⟨B,0,none⟩) 3 cap) = W12 at *
  go_wp2
  refine bodyPost_ret (v:=.tuple #[.agg #[(.slice (some ⟨B,0,none⟩) 3 cap)],.bool dn,.int .i64 0]) (by simp [results,Tryz.results11,go_sem,y5]) rfl ?_
  exact HLL.out
end

section
open Go.RowKit
set_option maxRecDepth 100000
theorem HoldsQ.at {w : World} {b off : Nat} {l : List Rq} (h : HoldsQ w (some ⟨b,off,none⟩) l) {k : Nat} (hk : k < l.length) : QAt w b (off + k * 7) l[k] ∧ l[k].H w:=by
  obtain ⟨b',off',e,_,hc⟩:=h k hk
  cases e;exact hc k hk
theorem HoldsQ.some {w : World} {a : Option Addr} {l : List Rq} (h : HoldsQ w a l) (hl : 0 < l.length) : ∃ b off,a = some ⟨b,off,none⟩:=by
  obtain ⟨b,off,e,_⟩:=h 0 hl
  exact ⟨b,off,e⟩
def q0 : Rq:=⟨⟨[],[],0,0,[],[],false⟩,none,0,none,0,none,0,none,0⟩
def firstL : List Ob:=[o1,o2,o3]
def firstU : List Up:=[⟨{ data:=#[109,97,105,110] },0,3⟩]
theorem mk3 (w : World) : (Instr.makeSlice 22 (.int .i64 3) (.int .i64 3)).run Tryz.prog w = .ok (.slice (some ⟨w.heap.size,0,none⟩) 3 3) (w.alloc (.cells #[.slice none 0 0,.slice none 0 0,.int .i64 0,.int .i64 0,.slice none 0 0,.slice none 0 0,.bool false,.slice none 0 0,.slice none 0 0,.int .i64 0,.int .i64 0,.slice none 0 0,.slice none 0 0,.bool false,.slice none 0 0,.slice none 0 0,.int .i64 0,.int .i64 0,.slice none 0 0,.slice none 0 0,.bool false] 36)):=by kernel_rfl
theorem q0_H (w : World) : q0.H w:=⟨fun i hi=>absurd hi (Nat.not_lt_zero i),fun i hi=>absurd hi (Nat.not_lt_zero i),fun i hi=>absurd hi (Nat.not_lt_zero i),fun i hi=>absurd hi (Nat.not_lt_zero i),by decide,by decide,by decide,by decide⟩
theorem holds_q0 {w : World} {b : Nat} (k : w.heap[b]? = some (.cells #[.slice none 0 0,.slice none 0 0,.int .i64 0,.int .i64 0,.slice none 0 0,.slice none 0 0,.bool false,.slice none 0 0,.slice none 0 0,.int .i64 0,.int .i64 0,.slice none 0 0,.slice none 0 0,.bool false,.slice none 0 0,.slice none 0 0,.int .i64 0,.int .i64 0,.slice none 0 0,.slice none 0 0,.bool false] 36)) : HoldsQ w (some ⟨b,0,none⟩) [q0,q0,q0]:=by
  have hc : ∀ o,w.cell? ⟨b,o,none⟩ = (#[.slice none 0 0,.slice none 0 0,.int .i64 0,.int .i64 0,.slice none 0 0,.slice none 0 0,.bool false,.slice none 0 0,.slice none 0 0,.int .i64 0,.int .i64 0,.slice none 0 0,.slice none 0 0,.bool false,.slice none 0 0,.slice none 0 0,.int .i64 0,.int .i64 0,.slice none 0 0,.slice none 0 0,.bool false] : Array Value)[o]?:=fun o=>cell_of_row _ _ _ _ _ _ k
  intro i hi
  refine ⟨b,0,rfl,heap_lt k,fun j hj=>?_⟩
  have hj' : j = 0 ∨ j = 1 ∨ j = 2:=by simp at hj;omega
  rcases hj' with rfl | rfl | rfl
  all_goals exact ⟨⟨by rw [hc];rfl,by rw [hc];rfl,by rw [hc];rfl,by rw [hc];rfl,by rw [hc];rfl,by rw [hc];rfl,by rw [hc];rfl⟩,q0_H _⟩
set_option maxHeartbeats 2000000 in
theorem new_any (w : World) : Calls Tryz.prog 40 #[] w fun e w'=>∃ b,e = .returned (.agg #[.slice (some ⟨b,0,none⟩) 3 3]) ∧ HoldsQ w' (some ⟨b,0,none⟩) [q0,q0,q0] ∧ Below w.heap.size w w':=by
  have hm:=mk3 (w.alloc (.cells #[.slice none 0 0] 24))
  rw [show (w.alloc (.cells #[.slice none 0 0] 24)).heap.size = w.heap.size + 1 by simp] at hm
  have hA:=below_alloc2 w (.cells #[.slice (some ⟨w.heap.size + 1,0,none⟩) 3 3] 24) (.cells #[.slice none 0 0,.slice none 0 0,.int .i64 0,.int .i64 0,.slice none 0 0,.slice none 0 0,.bool false,.slice none 0 0,.slice none 0 0,.int .i64 0,.int .i64 0,.slice none 0 0,.slice none 0 0,.bool false,.slice none 0 0,.slice none 0 0,.int .i64 0,.int .i64 0,.slice none 0 0,.slice none 0 0,.bool false] 36)
  obtain ⟨k0,k1⟩:=two_blocks w (.cells #[.slice (some ⟨w.heap.size + 1,0,none⟩) 3 3] 24) (.cells #[.slice none 0 0,.slice none 0 0,.int .i64 0,.int .i64 0,.slice none 0 0,.slice none 0 0,.bool false,.slice none 0 0,.slice none 0 0,.int .i64 0,.int .i64 0,.slice none 0 0,.slice none 0 0,.bool false,.slice none 0 0,.slice none 0 0,.int .i64 0,.int .i64 0,.slice none 0 0,.slice none 0 0,.bool false] 36)
  have hq:=holds_q0 k1
  have y1:=c1_of k0
  clear k0 k1
  go_enter Tryz.func40,Tryz.ntmps40
  go_wp2
  refine bodyPost_ret (v:=.agg #[.slice (some ⟨w.heap.size + 1,0,none⟩) 3 3]) (by simp [results,Tryz.results40,go_sem]) rfl ?_
  exact ⟨_,rfl,hq,hA⟩
theorem noS3 {W : World} {R t : Nat} (h : W.heap[R]? = some (.cells #[.slice none 0 0,.slice none 0 0,.bool false] t)) : NoS W R:=by
  intro off x e
  rw [cell_of_row W R _ _ _ _ h] at e
  match off,e with
  | 0,e=>cases e
  | 1,e=>cases e
  | 2,e=>cases e
  | n + 3,e=>simp at e
theorem zero3 {W : World} {R t : Nat} (h : W.heap[R]? = some (.cells #[.slice none 0 0,.slice none 0 0,.bool false] t)) : Zero W R:=by
  intro off x e
  rw [cell_of_row W R _ _ _ _ h] at e
  match off,e with
  | 0,e=>cases e
  | 1,e=>cases e
  | 2,e=>cases e
  | n + 3,e=>simp at e
set_option maxHeartbeats 2000000 in
theorem first_any (w : World) : Calls Tryz.prog 52 #[] w fun e w'=>∃ g u,e = .returned (pushV (some ⟨g,0,none⟩) 3 5 (some ⟨u,0,none⟩) 1 1 false) ∧ HoldsS w' (some ⟨g,0,none⟩) firstL ∧ HoldsU w' (some ⟨u,0,none⟩) firstU ∧ Below w.heap.size w w':=by
  have hA:=below_alloc w (.cells #[.slice none 0 0,.slice none 0 0,.bool false] 28)
  have k0:=heap_alloc_new w (.cells #[.slice none 0 0,.slice none 0 0,.bool false] 28)
  go_enter Tryz.func52,Tryz.ntmps52
  go_wp2_with fail
  generalize w.alloc (.cells #[.slice none 0 0,.slice none 0 0,.bool false] 28) = W0 at *
  refine (shelf_holds _).mono ?_
  rintro e w1 ⟨g,rfl,hb,hS⟩
  have hB1:=hA.trans (hb.mono hA.size)
  have k1:=(hb.block _ (heap_lt k0)).trans k0
  have hA2:=below_alloc w1 (.cells #[.string { data:=#[109,97,105,110] },.int .i64 0,.int .i64 3] 40)
  have ku:=heap_alloc_new w1 (.cells #[.string { data:=#[109,97,105,110] },.int .i64 0,.int .i64 3] 40)
  have hB2:=hB1.trans (hA2.mono hB1.size)
  have hS2:=holds_take (hS.below hA2) 3
  have k2:=(hA2.block _ (heap_lt k1)).trans k1
  have hlt : w.heap.size < w1.heap.size:=heap_lt k1
  clear hA k0 hb hB1 hS
  obtain ⟨c0,c1,c2⟩:=c3_of k2
  have f0:=f_of (o:=0) k2
  have f1:=f_of (o:=1) k2
  have f2:=f_of (o:=2) k2
  obtain ⟨t1,t2,t3⟩:=set3_block _ w.heap.size (.slice (some ⟨g,0,none⟩) 3 5) (.slice (some ⟨w1.heap.size,0,none⟩) 1 1) (.bool false) k2
  have hB3:=hB2.trans t2
  obtain ⟨d0,d1,d2⟩:=c3_of t1
  have HU : Hid (HoldsU ((((w1.alloc (.cells #[.string { data:=#[109,97,105,110] },.int .i64 0,.int .i64 3] 40)).setCell ⟨w.heap.size,0,none⟩ (.slice (some ⟨g,0,none⟩) 3 5)).setCell ⟨w.heap.size,1,none⟩ (.slice (some ⟨w1.heap.size,0,none⟩) 1 1)).setCell ⟨w.heap.size,2,none⟩ (.bool false)) (some ⟨w1.heap.size,0,none⟩) firstU):=by
    intro i hi
    have e:=(t3 w1.heap.size (by omega)).trans ku
    refine ⟨_,_,rfl,heap_lt e,fun j hj=>?_⟩
    have hj0 : j = 0:=by simp [firstU] at hj;omega
    subst hj0
    exact c3_of e
  have HS : Hid (HoldsS ((((w1.alloc (.cells #[.string { data:=#[109,97,105,110] },.int .i64 0,.int .i64 3] 40)).setCell ⟨w.heap.size,0,none⟩ (.slice (some ⟨g,0,none⟩) 3 5)).setCell ⟨w.heap.size,1,none⟩ (.slice (some ⟨w1.heap.size,0,none⟩) 1 1)).setCell ⟨w.heap.size,2,none⟩ (.bool false)) (some ⟨g,0,none⟩) firstL):=HoldsS.no hS2 (noS3 k2) (zero3 k2) (check_pos (by decide)) (by simp) t3
  clear ku hS2 k2 t1 t2 t3 hB2 k1 hlt hA2
  go_wp2
  refine bodyPost_ret (v:=pushV (some ⟨g,0,none⟩) 3 5 (some ⟨w1.heap.size,0,none⟩) 1 1 false) (by simp [results,Tryz.results52,go_sem,d0,d1,d2]) rfl ?_
  exact ⟨_,_,rfl,HS.out,HU.out,hB3⟩
end

section
open Go.RowKit
set_option maxRecDepth 100000
def rpD : Rp:=⟨[],[],0,0,[],[],false⟩
theorem sameRq_any (x y : Rq) (w : World) (hx : x.H w) (hy : y.H w) : Calls Tryz.prog 14 #[x.val,y.val] w fun e w'=>∃ r,e = .returned (.bool r) ∧ (r = true ↔ x.r = y.r) ∧ Below w.heap.size w w' :=
  sameRep_all x.aS x.cs x.r.s x.al x.cl x.r.l x.r.g x.r.ph x.a1 x.c1 x.r.m x.a2 x.c2 x.r.us x.r.f y.aS y.cs y.r.s y.al y.cl y.r.l y.r.g y.r.ph y.a1 y.c1 y.r.m y.a2 y.c2 y.r.us y.r.f w hx hy
theorem rs_getD {l : List Rq} {k : Nat} (hk : k < l.length) : (l.map Rq.r).getD k rpD = l[k].r:=by simp [hk]
set_option maxHeartbeats 4000000 in
theorem sameCluster_any (a : Option Addr) (c : Nat) (l : List Rq) (a2 : Option Addr) (c2 : Nat) (l2 : List Rq) (w : World) (h : HoldsQ w a l) (h2 : HoldsQ w a2 l2) (hl : l.length ≤ 9223372036854775807) :
    Calls Tryz.prog 18 #[.agg #[.slice a l.length c],.agg #[.slice a2 l2.length c2]] w fun e w'=>∃ r,e = .returned (.bool r) ∧ (r = true ↔ l.map Rq.r = l2.map Rq.r) ∧ Below w.heap.size w w':=by
  have hA:=below_alloc2 w (.cells #[.slice a l.length c] 24) (.cells #[.slice a2 l2.length c2] 24)
  obtain ⟨k1,k2⟩:=two_blocks w (.cells #[.slice a l.length c] 24) (.cells #[.slice a2 l2.length c2] 24)
  have q1:=h.below hA
  have q2:=h2.below hA
  have y1:=c1_of k1
  have y2:=c1_of k2
  by_cases hn : l.length = l2.length
  case neg =>
    have hd : ((l.length : Int) != (l2.length : Int)) = true:=by simp;omega
    have HN : Hid (¬ l.map Rq.r = l2.map Rq.r):=fun e=>hn (by have:=congrArg List.length e;simpa using this)
    clear hn
    go_enter Tryz.func18,Tryz.ntmps18
    go_wp2
    go_ret
    exact ⟨false,rfl,⟨fun e=>(by cases e),fun e=>absurd e HN.out⟩,hA⟩
  have hd : ((l.length : Int) != (l2.length : Int)) = false:=by simp [hn]
  have HLN : Hid (l.length = l2.length):=hn
  clear hn
  go_enter Tryz.func18,Tryz.ntmps18
  go_wp2_with fail
  generalize (w.alloc (.cells #[.slice a l.length c] 24)).alloc (.cells #[.slice a2 l2.length c2] 24) = W0 at *
  go_loopw [5] (fun i wr=>∃ k : Nat,i = .int .i64 k ∧ k ≤ l.length ∧ Below W0.heap.size W0 wr ∧ Hid (∀ j,j < k → (l.map Rq.r).getD j rpD = (l2.map Rq.r).getD j rpD)) (fun i _=>l.length - (intOf i).toNat)
  case atStart=>exact ⟨0,rfl,Nat.zero_le _,Below.refl _ _,fun j hj=>absurd hj (Nat.not_lt_zero _)⟩
  case round =>
    obtain ⟨k,rfl,hk,hB,HI⟩:=hrel
    have k1r:=(hB.block _ (heap_lt k1)).trans k1
    have k2r:=(hB.block _ (heap_lt k2)).trans k2
    have z1:=c1_of k1r
    have z2:=c1_of k2r
    by_cases hlt : k < l.length
    · have hlt2 : k < l2.length := by have := HLN.out; omega
      obtain ⟨b,off,rfl⟩:=h.some (by omega)
      obtain ⟨b2,off2,rfl⟩:=h2.some (by omega)
      have hlt' : (k : Int) < (l.length : Int):=by omega
      have hlt2' : (k : Int) < (l2.length : Int):=by omega
      clear z1 z2
      have z1:=c1_of k1r
      have z2:=c1_of k2r
      go_upto_region 6 with fail
      clear z1 z2
      have hd_1:=below_refl_drew wr
      have hB_2:=hB.trans (hd_1.mono hB.size)
      have b1_3:=(hd_1.block _ (heap_lt k1r)).trans k1r
      have b2_4:=(hd_1.block _ (heap_lt k2r)).trans k2r
      have hs_5:=hd_1.size
      clear k1r k2r hd_1 hB
      refine wp_region_E (fun W=>(W.heap[w.heap.size]? = some (.cells #[.slice (some ⟨b,off,none⟩) l.length c] 24)) ∧ (W.heap[w.heap.size + 1]? = some (.cells #[.slice (some ⟨b2,off2,none⟩) l2.length c2] 24)) ∧ (HoldsQ W (some ⟨b,off,none⟩) l) ∧ (HoldsQ W (some ⟨b2,off2,none⟩) l2)) (fun _=>false) (by kernel_rfl) ⟨b1_3,b2_4,(q1.below hB_2),(q2.below hB_2)⟩ (fun hS=>?_)
      clear hS
      generalize wr.drew = W_6 at *
      refine wpAnyE.take (i:=0) (v:=?_) rfl (by kernel_rfl) (by kernel_rfl) (by kernel_rfl) (by kernel_rfl) (fun _ _ _ h=>h) (Or.inl ⟨by rfl,?_⟩) ⟨b1_3,b2_4,(q1.below hB_2),(q2.below hB_2)⟩ ?_
      rotate_left
      · intro w hSw;obtain ⟨s1,s2,s3,s4⟩:=hSw;have e1:=c1_of s1;have e2:=c1_of s2;obtain ⟨x0,x1,x2,x3,x4,x5,x6⟩:=(s3.at hlt).1;obtain ⟨v0,v1,v2,v3,v4,v5,v6⟩:=(s4.at hlt2).1;clear s1 s2 s3 s4;go_simp;with_reducible rfl
      try simp only [Act.put,uA,uC,uD,uE,uF]
      refine wpAnyE.take (i:=2) (v:=?_) rfl (by kernel_rfl) (by kernel_rfl) (by kernel_rfl) (by kernel_rfl) (fun _ _ _ h=>h) (Or.inl ⟨by rfl,?_⟩) ⟨b1_3,b2_4,(q1.below hB_2),(q2.below hB_2)⟩ ?_
      rotate_left
      · intro w hSw;obtain ⟨s1,s2,s3,s4⟩:=hSw;have e1:=c1_of s1;have e2:=c1_of s2;obtain ⟨x0,x1,x2,x3,x4,x5,x6⟩:=(s3.at hlt).1;obtain ⟨v0,v1,v2,v3,v4,v5,v6⟩:=(s4.at hlt2).1;clear s1 s2 s3 s4;go_simp;with_reducible rfl
      try simp only [Act.put,uA,uB,uC,uD,uE,uF]
      refine wpAnyE.take (i:=5) (v:=?_) rfl (by kernel_rfl) (by kernel_rfl) (by kernel_rfl) (by kernel_rfl) (fun _ _ _ h=>h) (Or.inl ⟨by rfl,?_⟩) ⟨b1_3,b2_4,(q1.below hB_2),(q2.below hB_2)⟩ ?_
      rotate_left
      · intro w hSw;obtain ⟨s1,s2,s3,s4⟩:=hSw;have e1:=c1_of s1;have e2:=c1_of s2;obtain ⟨x0,x1,x2,x3,x4,x5,x6⟩:=(s3.at hlt).1;obtain ⟨v0,v1,v2,v3,v4,v5,v6⟩:=(s4.at hlt2).1;clear s1 s2 s3 s4;go_simp;with_reducible rfl
      try simp only [Act.put,uA,uB,uC,uD,uE,uF]
      refine wpAnyE.take (i:=7) (v:=?_) rfl (by kernel_rfl) (by kernel_rfl) (by kernel_rfl) (by kernel_rfl) (fun _ _ _ h=>h) (Or.inl ⟨by rfl,?_⟩) ⟨b1_3,b2_4,(q1.below hB_2),(q2.below hB_2)⟩ ?_
      rotate_left
      · intro w hSw;obtain ⟨s1,s2,s3,s4⟩:=hSw;have e1:=c1_of s1;have e2:=c1_of s2;obtain ⟨x0,x1,x2,x3,x4,x5,x6⟩:=(s3.at hlt).1;obtain ⟨v0,v1,v2,v3,v4,v5,v6⟩:=(s4.at hlt2).1;clear s1 s2 s3 s4;go_simp;with_reducible rfl
      try simp only [Act.put,uA,uB,uC,uD,uE,uF]
      refine wpAnyE.take (i:=1) (v:=?_) rfl (by kernel_rfl) (by kernel_rfl) (by kernel_rfl) (by kernel_rfl) (fun _ _ _ h=>h) (Or.inl ⟨by rfl,?_⟩) ⟨b1_3,b2_4,(q1.below hB_2),(q2.below hB_2)⟩ ?_
      rotate_left
      · intro w hSw;obtain ⟨s1,s2,s3,s4⟩:=hSw;have e1:=c1_of s1;have e2:=c1_of s2;obtain ⟨x0,x1,x2,x3,x4,x5,x6⟩:=(s3.at hlt).1;obtain ⟨v0,v1,v2,v3,v4,v5,v6⟩:=(s4.at hlt2).1;clear s1 s2 s3 s4;go_simp;with_reducible rfl
      try simp only [Act.put,uA,uB,uC,uD,uE,uF]
      refine wpAnyE.take (i:=6) (v:=?_) rfl (by kernel_rfl) (by kernel_rfl) (by kernel_rfl) (by kernel_rfl) (fun _ _ _ h=>h) (Or.inl ⟨by rfl,?_⟩) ⟨b1_3,b2_4,(q1.below hB_2),(q2.below hB_2)⟩ ?_
      rotate_left
      · intro w hSw;obtain ⟨s1,s2,s3,s4⟩:=hSw;have e1:=c1_of s1;have e2:=c1_of s2;obtain ⟨x0,x1,x2,x3,x4,x5,x6⟩:=(s3.at hlt).1;obtain ⟨v0,v1,v2,v3,v4,v5,v6⟩:=(s4.at hlt2).1;clear s1 s2 s3 s4;go_simp;with_reducible rfl
      try simp only [Act.put,uA,uB,uC,uD,uE,uF]
      refine wpAnyE.take (i:=3) (v:=?_) rfl (by kernel_rfl) (by kernel_rfl) (by kernel_rfl) (by kernel_rfl) (fun _ _ _ h=>h) (Or.inl ⟨by rfl,?_⟩) ⟨b1_3,b2_4,(q1.below hB_2),(q2.below hB_2)⟩ ?_
      rotate_left
      · intro w hSw;obtain ⟨s1,s2,s3,s4⟩:=hSw;have e1:=c1_of s1;have e2:=c1_of s2;obtain ⟨x0,x1,x2,x3,x4,x5,x6⟩:=(s3.at hlt).1;obtain ⟨v0,v1,v2,v3,v4,v5,v6⟩:=(s4.at hlt2).1;clear s1 s2 s3 s4;go_simp;with_reducible rfl
      try simp only [Act.put,uA,uB,uC,uD,uE,uF]
      refine wpAnyE.take (i:=8) (v:=?_) rfl (by kernel_rfl) (by kernel_rfl) (by kernel_rfl) (by kernel_rfl) (fun _ _ _ h=>h) (Or.inl ⟨by rfl,?_⟩) ⟨b1_3,b2_4,(q1.below hB_2),(q2.below hB_2)⟩ ?_
      rotate_left
      · intro w hSw;obtain ⟨s1,s2,s3,s4⟩:=hSw;have e1:=c1_of s1;have e2:=c1_of s2;obtain ⟨x0,x1,x2,x3,x4,x5,x6⟩:=(s3.at hlt).1;obtain ⟨v0,v1,v2,v3,v4,v5,v6⟩:=(s4.at hlt2).1;clear s1 s2 s3 s4;go_simp;with_reducible rfl
      try simp only [Act.put,uA,uB,uC,uD,uE,uF]
      refine wpAnyE.take (i:=4) (v:=?_) rfl (by kernel_rfl) (by kernel_rfl) (by kernel_rfl) (by kernel_rfl) (fun _ _ _ h=>h) (Or.inl ⟨by rfl,?_⟩) ⟨b1_3,b2_4,(q1.below hB_2),(q2.below hB_2)⟩ ?_
      rotate_left
      · intro w hSw;obtain ⟨s1,s2,s3,s4⟩:=hSw;have e1:=c1_of s1;have e2:=c1_of s2;obtain ⟨x0,x1,x2,x3,x4,x5,x6⟩:=(s3.at hlt).1;obtain ⟨v0,v1,v2,v3,v4,v5,v6⟩:=(s4.at hlt2).1;clear s1 s2 s3 s4;go_simp;with_reducible rfl
      try simp only [Act.put,uA,uB,uC,uD,uE,uF]
      refine wpAnyE.take (i:=9) (v:=?_) rfl (by kernel_rfl) (by kernel_rfl) (by kernel_rfl) (by kernel_rfl) (fun _ _ _ h=>h) (Or.inl ⟨by rfl,?_⟩) ⟨b1_3,b2_4,(q1.below hB_2),(q2.below hB_2)⟩ ?_
      rotate_left
      · intro w hSw;obtain ⟨s1,s2,s3,s4⟩:=hSw;have e1:=c1_of s1;have e2:=c1_of s2;obtain ⟨x0,x1,x2,x3,x4,x5,x6⟩:=(s3.at hlt).1;obtain ⟨v0,v1,v2,v3,v4,v5,v6⟩:=(s4.at hlt2).1;clear s1 s2 s3 s4;go_simp;with_reducible rfl
      try simp only [Act.put,uA,uB,uC,uD,uE,uF]
      refine wpAnyE.one (i:=10) (by kernel_rfl) rfl (fun K hK=>?_)
      have hc_7:=sameRq_any l[k] l2[k] W_6 ((q1.below hB_2).at hlt).2 ((q2.below hB_2).at hlt2).2
      go_simp
      refine hc_7.mono ?_
      clear hc_7
      rintro e W_8 ⟨r,rfl,hr,h⟩
      have hB_9:=hB_2.trans (h.mono hB_2.size)
      have b1_10:=(h.block _ (heap_lt b1_3)).trans b1_3
      have b2_11:=(h.block _ (heap_lt b2_4)).trans b2_4
      have hs_12:=h.size
      clear b1_3 b2_4 h hB_2
      refine hK _ _ (fun _=>⟨b1_10,b2_11,(q1.below hB_9),(q2.below hB_9)⟩) ?_
      clear hK K
      try simp only [Act.put,uA,uB,uC,uD,uE,uF]
      refine wpAnyE.take (i:=11) (v:=?_) rfl (by kernel_rfl) (by kernel_rfl) (by kernel_rfl) (by kernel_rfl) (fun _ _ _ h=>h) (Or.inl ⟨by rfl,?_⟩) ⟨b1_10,b2_11,(q1.below hB_9),(q2.below hB_9)⟩ ?_
      rotate_left
      · intro w hSw;obtain ⟨s1,s2,s3,s4⟩:=hSw;have e1:=c1_of s1;have e2:=c1_of s2;obtain ⟨x0,x1,x2,x3,x4,x5,x6⟩:=(s3.at hlt).1;obtain ⟨v0,v1,v2,v3,v4,v5,v6⟩:=(s4.at hlt2).1;clear s1 s2 s3 s4;go_simp;with_reducible rfl
      try simp only [Act.put,uA,uB,uC,uD,uE,uF]
      refine wpAnyE.done (by kernel_rfl) ?_
      have HB:=hB_9
      cases r with
      | false =>
        have HN : Hid (¬ l.map Rq.r = l2.map Rq.r):=fun e=>by
          have:=hr.2 (by rw [← rs_getD hlt,← rs_getD hlt2,e])
          cases this
        clear hr
        go_wp2
        go_ret
        exact ⟨false,rfl,⟨fun e=>(by cases e),fun e=>absurd e HN.out⟩,hA.trans (HB.mono hA.size)⟩
      | true =>
        have HI2 : Hid (∀ j,j < k + 1 → (l.map Rq.r).getD j rpD = (l2.map Rq.r).getD j rpD):=fun j hj=>by
          by_cases e : j = k
          · subst e;rw [rs_getD hlt,rs_getD hlt2];exact hr.1 rfl
          · exact HI.out j (by omega)
        clear hr HI
        go_wp2
        go_roundw
        case rel=>exact ⟨k + 1,by go_num,by omega,HB,HI2⟩
        case measure=>simp [intOf];omega
    · have hke : k = l.length := by omega
      have HE : Hid (l.map Rq.r = l2.map Rq.r):=by
        refine List.ext_getElem (by simp [HLN.out]) fun i h1 h2=>?_
        have:=HI.out i (by simp at h1;omega)
        simpa [List.getD_eq_getElem?_getD,List.getElem?_eq_getElem h1,List.getElem?_eq_getElem h2] using this
      go_wp2
      go_ret
      exact ⟨true,rfl,⟨fun _=>HE.out,fun _=>rfl⟩,hA.trans (hB.mono hA.size)⟩
end
end Go.Proofs.YtehmlpkapjdhkaaGreatDoor
