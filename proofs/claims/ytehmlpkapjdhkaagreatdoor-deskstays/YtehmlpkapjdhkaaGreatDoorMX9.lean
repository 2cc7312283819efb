import Derived.Test.YtehmlpkapjdhkaaGreatDoorMX6
import Derived.Test.YtehmlpkapjdhkaaGreatDoorML5
import Derived.Test.YtehmlpkapjdhkaaGreatDoorMX8
namespace Go.Proofs.YtehmlpkapjdhkaaGreatDoor
section
open Go.RowKit
set_option maxRecDepth 100000
theorem set_from (w : World) (q t : Nat) (x0 : Value) {y0 y1 y2 y3 y4 y5 y6 : Value} (h : w.heap[q]? = some (.cells #[y0,y1,y2,y3,y4,y5,y6] t)) :
    (((((w.setCell ⟨q,0,none⟩ x0).setCell ⟨q,3,none⟩ (.int .i64 0)).setCell ⟨q,4,none⟩ (.slice none 0 0)).setCell ⟨q,5,none⟩ (.slice none 0 0)).setCell ⟨q,6,none⟩ (.bool false)).heap[q]? = some (.cells #[x0,y1,y2,.int .i64 0,.slice none 0 0,.slice none 0 0,.bool false] t) ∧
    Below q w (((((w.setCell ⟨q,0,none⟩ x0).setCell ⟨q,3,none⟩ (.int .i64 0)).setCell ⟨q,4,none⟩ (.slice none 0 0)).setCell ⟨q,5,none⟩ (.slice none 0 0)).setCell ⟨q,6,none⟩ (.bool false)) ∧
      ∀ k,k ≠ q → (((((w.setCell ⟨q,0,none⟩ x0).setCell ⟨q,3,none⟩ (.int .i64 0)).setCell ⟨q,4,none⟩ (.slice none 0 0)).setCell ⟨q,5,none⟩ (.slice none 0 0)).setCell ⟨q,6,none⟩ (.bool false)).heap[k]? = w.heap[k]?:=by
  have h1:=heap_setCell_same w q 0 _ t x0 h
  have h2:=heap_setCell_same _ q 3 _ t (.int .i64 0) h1
  have h3:=heap_setCell_same _ q 4 _ t (.slice none 0 0) h2
  have h4:=heap_setCell_same _ q 5 _ t (.slice none 0 0) h3
  have h5:=heap_setCell_same _ q 6 _ t (.bool false) h4
  refine ⟨by simpa using h5,(((((Below.refl q w).setCell (Nat.le_refl _) _).setCell (Nat.le_refl _) _).setCell (Nat.le_refl _) _).setCell (Nat.le_refl _) _).setCell (Nat.le_refl _) _,fun k hk=>?_⟩
  rw [heap_setCell_other _ ⟨q,6,none⟩ k _ hk,heap_setCell_other _ ⟨q,5,none⟩ k _ hk,heap_setCell_other _ ⟨q,4,none⟩ k _ hk,heap_setCell_other _ ⟨q,3,none⟩ k _ hk,heap_setCell_other _ ⟨q,0,none⟩ k _ hk]
abbrev FromPost (n r : Rp) (w : World) : Ending → World → Prop:=RepPost (fromE n r) (fromR n r).s n.l n.g 0 [] [] false w
theorem fromE_eq (n r : Rp) : fromE n r = if fchkE n r ≠ 0 then fchkE n r else togE n.s r.s:=by
  unfold fromE fchkE
  by_cases h1 : n.err = 0
  · by_cases h2 : r.err = 0
    · by_cases h3 : n.g < r.g
      · simp [h1,h2,h3]
      · simp [h1,h2,h3]
    · simp [h1,h2]
  · simp [h1]
set_option maxHeartbeats 4000000 in
theorem from_any (n r : Rq) (w : World) (hg : Glob w) (hn : n.H w) (hr : r.H w) : Calls Tryz.prog 25 #[n.val,r.val] w (FromPost n.r r.r w):=by
  obtain ⟨PO,HPO⟩ : ∃ P : Ending → World → Prop,Hid (P = FromPost n.r r.r w):=⟨_,rfl⟩
  rw [← HPO.out]
  obtain ⟨hk1,hk2,hk3,hB⟩:=three_blocks w n.blk r.blk zero28
  obtain ⟨y0,y1,y2,y3,y4,y5,y6⟩:=c7_of hk1
  obtain ⟨x0,x1,x2,x3,x4,x5,x6⟩:=c7_of hk2
  have hc:=fcheck_any n r _ (hg.below hB) (hn.below hB) (hr.below hB)
  have HZ0 : Hid (w.heap.size + 2 < (((w.alloc n.blk).alloc r.blk).alloc zero28).heap.size):=heap_lt hk3
  have HE : Hid (fromE n.r r.r = if fchkE n.r r.r ≠ 0 then fchkE n.r r.r else togE n.r.s r.r.s):=fromE_eq _ _
  go_enter Tryz.func25,Tryz.ntmps25
  go_wp2_with fail
  generalize (((w.alloc n.blk).alloc r.blk).alloc zero28) = W0 at *
  refine hc.mono ?_
  clear hc
  rintro e W1 ⟨rfl,hb1⟩
  have hB1:=hB.trans (hb1.mono hB.size)
  have k1:=(hb1.block _ (heap_lt hk1)).trans hk1
  have k2:=(hb1.block _ (heap_lt hk2)).trans hk2
  have k3:=(hb1.block _ (heap_lt hk3)).trans hk3
  have HZ1 : Hid (w.heap.size + 2 < W1.heap.size):=heap_lt k3
  clear y0 y1 y2 y3 y4 y5 y6 x0 x1 x2 x3 x4 x5 x6 hk1 hk2 hk3 hB hb1 HZ0
  by_cases e1 : fchkE n.r r.r = 0
  case neg =>
    have HF : Hid (∀ w',Below w.heap.size w w' → PO (.returned (.tuple #[zeroV,.int .i64 (fchkE n.r r.r)])) w'):=fun w' hb=>by
      rw [HPO.out];exact RepPost.bad (by rw [HE.out,if_pos e1]) e1 hb
    have q1 : (fchkE n.r r.r != 0) = true:=by simpa using e1
    clear e1 HE
    generalize fchkE n.r r.r = E at *
    have hzs:=set7_same W1 (w.heap.size + 2) 36 (.slice none 0 0) (.slice none 0 0) (.int .i64 0) (.int .i64 0) (.slice none 0 0) (.slice none 0 0) (.bool false) k3
    obtain ⟨o0,o1,o2,o3,o4,o5,o6⟩:=c7_of k3
    have fz0:=f_of (o:=0) k3
    have fz1:=f_of (o:=1) k3
    have fz2:=f_of (o:=2) k3
    have fz3:=f_of (o:=3) k3
    have fz4:=f_of (o:=4) k3
    have fz5:=f_of (o:=5) k3
    have fz6:=f_of (o:=6) k3
    obtain ⟨i0,i1,i2,i3,i4,i5,i6⟩:=c7_of ((hzs.block _ (heap_lt k3)).trans k3)
    have HB : Hid (Below w.heap.size w _):=hB1.trans (hzs.mono hB1.size)
    clear k1 k2 k3 hB1 hzs
    go_wp2
    refine bodyPost_ret (v:=.tuple #[zeroV,.int .i64 E]) (by simp [results,Tryz.results25,go_sem,i0,i1,i2,i3,i4,i5,i6]) rfl ?_
    exact HF.out _ HB.out
  have HE1 : Hid (fromE n.r r.r = togE n.r.s r.r.s):=by unfold Hid;rw [HE.out,if_neg (fun e=>e e1)]
  rw [e1]
  obtain ⟨HC1,HC2⟩ : n.r.err = 0 ∧ r.r.err = 0:=by
    unfold fchkE at e1
    split at e1
    · rename_i c;exact absurd e1 c
    · rename_i c
      split at e1
      · rename_i c2;exact absurd e1 c2
      · rename_i c2;exact ⟨Classical.byContradiction c,Classical.byContradiction c2⟩
  have HC : Hid (n.r.err = 0):=HC1
  clear e1 HE HC1 HC2
  obtain ⟨y0,y1,y2,y3,y4,y5,y6⟩:=c7_of k1
  obtain ⟨x0,x1,x2,x3,x4,x5,x6⟩:=c7_of k2
  have hn1:=hn.below hB1
  have hr1:=hr.below hB1
  have hc:=together_any n.aS n.cs n.r.s r.aS r.cs r.r.s W1 hn1.hs hn1.ns hr1.hs hr1.ns
  clear hr1
  go_wp2_with fail
  refine hc.mono ?_
  clear hc
  rintro e W2 ⟨hb2,⟨hne,rfl⟩ | ⟨hz,v,rs,rfl,hrs,O2⟩⟩
  · have hB2 := hB1.trans (hb2.mono hB1.size)
    have k3':=(hb2.block _ (heap_lt k3)).trans k3
    have HF : Hid (∀ w',Below w.heap.size w w' → PO (.returned (.tuple #[zeroV,.int .i64 (togE n.r.s r.r.s)])) w'):=fun w' hb=>by
      rw [HPO.out];exact RepPost.bad HE1.out hne hb
    have q1 : (togE n.r.s r.r.s != 0) = true:=by simpa using hne
    clear hne HE1 hb2 k1 k2 k3 hB1 y0 y1 y2 y3 y4 y5 y6 x0 x1 x2 x3 x4 x5 x6 hn1
    generalize togE n.r.s r.r.s = E at *
    have hzs:=set7_same W2 (w.heap.size + 2) 36 (.slice none 0 0) (.slice none 0 0) (.int .i64 0) (.int .i64 0) (.slice none 0 0) (.slice none 0 0) (.bool false) k3'
    obtain ⟨o0,o1,o2,o3,o4,o5,o6⟩:=c7_of k3'
    have fz0:=f_of (o:=0) k3'
    have fz1:=f_of (o:=1) k3'
    have fz2:=f_of (o:=2) k3'
    have fz3:=f_of (o:=3) k3'
    have fz4:=f_of (o:=4) k3'
    have fz5:=f_of (o:=5) k3'
    have fz6:=f_of (o:=6) k3'
    obtain ⟨i0,i1,i2,i3,i4,i5,i6⟩:=c7_of ((hzs.block _ (heap_lt k3')).trans k3')
    have HB : Hid (Below w.heap.size w _):=hB2.trans (hzs.mono hB2.size)
    clear k3' hB2 hzs
    go_wp2
    refine bodyPost_ret (v:=.tuple #[zeroV,.int .i64 E]) (by simp [results,Tryz.results25,go_sem,i0,i1,i2,i3,i4,i5,i6]) rfl ?_
    exact HF.out _ HB.out
  · have hB2 := hB1.trans (hb2.mono hB1.size)
    have j1:=(hb2.block _ (heap_lt k1)).trans k1
    have j3:=(hb2.block _ (heap_lt k3)).trans k3
    obtain ⟨b0,d0,rfl⟩:=objs_slice hrs O2
    have HE2 : Hid (fromE n.r r.r = 0):=HE1.out.trans hz
    have hs2:=hb2.size
    have hn2:=hn1.below hb2
    obtain ⟨s1,s2,s3,s4,s5,s6⟩:=rep_small HC.out
    clear hb2 k1 k2 k3 y0 y1 y2 y3 y4 y5 y6 x0 x1 x2 x3 x4 x5 x6 hn1 hB1 HE1 hz
    obtain ⟨y0,y1,y2,y3,y4,y5,y6⟩:=c7_of j1
    have hc:=copyRep_any n.aS n.cs n.r.s n.al n.cl n.r.l n.r.g n.r.ph n.a1 n.c1 n.r.m n.a2 n.c2 n.r.us n.r.f W2 hn2.hs (by omega) s2 hn2.hl (by omega) hn2.hm (by omega) s5 hn2.hu (by omega)
    go_wp2_with fail
    refine hc.mono ?_
    clear hc
    rintro e W3 ⟨t0,u0,b1,d1,t2,u2,t3,u3,rfl,F3,hb3⟩
    have hB3:=hB2.trans (hb3.mono hB2.size)
    have j3':=(hb3.block _ (heap_lt j3)).trans j3
    have hs3:=hb3.size
    have HKb : Hid (∀ k,k < W2.heap.size → W3.heap[k]? = W2.heap[k]?):=fun k hk=>hb3.block k hk
    obtain ⟨S',hS⟩ : ∃ S',S' = takeRes r.r.s (missL n.r.s r.r.s):=⟨_,rfl⟩
    have HS : Hid (S' = (fromR n.r r.r).s):=hS
    rw [← hS] at hrs O2 ⊢
    have hS40 : S'.length ≤ 40:=by
      rw [hS]
      exact (checkS_zero (from_store HE2.out)).1
    clear hS hb3 j1 j3 y0 y1 y2 y3 y4 y5 y6 hn2 hB2
    have hA:=below_alloc W3 (repB t0 n.r.s.length u0 b1 n.r.l.length d1 n.r.g n.r.ph t2 n.r.m.length u2 t3 n.r.us.length u3 n.r.f 36)
    have k9:=heap_alloc_new W3 (repB t0 n.r.s.length u0 b1 n.r.l.length d1 n.r.g n.r.ph t2 n.r.m.length u2 t3 n.r.us.length u3 n.r.f 36)
    have k3:=(hA.block _ (heap_lt j3')).trans j3'
    have hB4:=hB3.trans (hA.mono hB3.size)
    have hs4 : (W3.alloc (repB t0 n.r.s.length u0 b1 n.r.l.length d1 n.r.g n.r.ph t2 n.r.m.length u2 t3 n.r.us.length u3 n.r.f 36)).heap.size = W3.heap.size + 1:=by simp
    have HA : Hid (∀ k,k < W3.heap.size → (W3.alloc (repB t0 n.r.s.length u0 b1 n.r.l.length d1 n.r.g n.r.ph t2 n.r.m.length u2 t3 n.r.us.length u3 n.r.f 36)).heap[k]? = W3.heap[k]?):=fun k hk=>hA.block k hk
    have Hlt3 : Hid (w.heap.size + 2 < W3.heap.size):=heap_lt j3'
    clear hA j3'
    go_upto_region 8 with fail
    generalize W3.alloc (repB t0 n.r.s.length u0 b1 n.r.l.length d1 n.r.g n.r.ph t2 n.r.m.length u2 t3 n.r.us.length u3 n.r.f 36) = W4 at *
    have hlt3:=Hlt3.out
    obtain ⟨y0,y1,y2,y3,y4,y5,y6⟩:=c7_of k9
    have f0:=f_of (o:=0) k9
    have f3:=f_of (o:=3) k9
    have f4:=f_of (o:=4) k9
    have f5:=f_of (o:=5) k9
    have f6:=f_of (o:=6) k9
    obtain ⟨p1,p2,p3⟩:=set_from W4 W3.heap.size 36 (.slice b0 S'.length d0) k9
    have m3:=(p3 (w.heap.size + 2) (by omega)).trans k3
    obtain ⟨q1,q2,q3⟩:=set7_block (((((W4.setCell ⟨W3.heap.size,0,none⟩ (.slice b0 S'.length d0)).setCell ⟨W3.heap.size,3,none⟩ (.int .i64 0)).setCell ⟨W3.heap.size,4,none⟩ (.slice none 0 0)).setCell ⟨W3.heap.size,5,none⟩ (.slice none 0 0)).setCell ⟨W3.heap.size,6,none⟩ (.bool false)) (w.heap.size + 2) 36 (.slice b0 S'.length d0) (.slice b1 n.r.l.length d1) (.int .i64 n.r.g) (.int .i64 0) (.slice none 0 0) (.slice none 0 0) (.bool false) m3
    obtain ⟨x0,x1,x2,x3,x4,x5,x6⟩:=c7_of p1
    obtain ⟨o0,o1,o2,o3,o4,o5,o6⟩:=c7_of m3
    have fz0:=f_of (o:=0) m3
    have fz1:=f_of (o:=1) m3
    have fz2:=f_of (o:=2) m3
    have fz3:=f_of (o:=3) m3
    have fz4:=f_of (o:=4) m3
    have fz5:=f_of (o:=5) m3
    have fz6:=f_of (o:=6) m3
    obtain ⟨i0,i1,i2,i3,i4,i5,i6⟩:=c7_of q1
    have hp2:=p2.size
    have hq2:=q2.size
    have hz1:=HZ1.out
    have HW : Hid (∀ k,k ≠ w.heap.size + 2 → k < W3.heap.size → (((((((((((((W4.setCell ⟨W3.heap.size,0,none⟩ (.slice b0 S'.length d0)).setCell ⟨W3.heap.size,3,none⟩ (.int .i64 0)).setCell ⟨W3.heap.size,4,none⟩ (.slice none 0 0)).setCell ⟨W3.heap.size,5,none⟩ (.slice none 0 0)).setCell ⟨W3.heap.size,6,none⟩ (.bool false))).setCell ⟨w.heap.size + 2,0,none⟩ (.slice b0 S'.length d0)).setCell ⟨w.heap.size + 2,1,none⟩ (.slice b1 n.r.l.length d1)).setCell ⟨w.heap.size + 2,2,none⟩ (.int .i64 n.r.g)).setCell ⟨w.heap.size + 2,3,none⟩ (.int .i64 0)).setCell ⟨w.heap.size + 2,4,none⟩ (.slice none 0 0)).setCell ⟨w.heap.size + 2,5,none⟩ (.slice none 0 0)).setCell ⟨w.heap.size + 2,6,none⟩ (.bool false)).heap[k]? = W3.heap[k]?):=fun k h1 h2 =>
      (q3 k h1).trans ((p3 k (by omega)).trans (HA.out k h2))
    have hO:=O2.kept (Nat.le_trans hs3 (by omega)) (fun k h1 h2=>(HW.out k (by omega) (by omega)).trans (HKb.out k h2))
    have hR:=ownsRow_kept F3.refs (fun g hg=>HW.out g (by have:=(F3.refs.lt g hg).1;omega) (F3.refs.lt g hg).2)
    have hFr : FreshR _ w.heap.size S' n.r.l [] [] b0 d0 b1 d1 none 0 none 0:=⟨⟨rs,hrs,hO.from (by omega)⟩,ownsRow_from hR (by omega),FreshP.nil _ _⟩
    have hFin : RepF _ w.heap.size b0 d0 S' b1 d1 n.r.l none 0 [] none 0 []:=⟨⟨hFr.holds.1,hFr.holds.2.1,hFr.holds.2.2.1,hFr.holds.2.2.2,by omega,by omega,by simp,by simp⟩,hFr⟩
    have HF : Hid (PO (.returned (.tuple #[RV b0 d0 S' b1 d1 n.r.l n.r.g 0 none 0 [] none 0 [] false,.int .i64 0])) ((((((((((((((W4.setCell ⟨W3.heap.size,0,none⟩ (.slice b0 S'.length d0)).setCell ⟨W3.heap.size,3,none⟩ (.int .i64 0)).setCell ⟨W3.heap.size,4,none⟩ (.slice none 0 0)).setCell ⟨W3.heap.size,5,none⟩ (.slice none 0 0)).setCell ⟨W3.heap.size,6,none⟩ (.bool false))).setCell ⟨w.heap.size + 2,0,none⟩ (.slice b0 S'.length d0)).setCell ⟨w.heap.size + 2,1,none⟩ (.slice b1 n.r.l.length d1)).setCell ⟨w.heap.size + 2,2,none⟩ (.int .i64 n.r.g)).setCell ⟨w.heap.size + 2,3,none⟩ (.int .i64 0)).setCell ⟨w.heap.size + 2,4,none⟩ (.slice none 0 0)).setCell ⟨w.heap.size + 2,5,none⟩ (.slice none 0 0)).setCell ⟨w.heap.size + 2,6,none⟩ (.bool false)))):=by
      unfold Hid
      rw [HPO.out]
      refine ⟨hB4.trans ((p2.mono (by omega)).trans (q2.mono (by omega))),.inr ⟨HE2.out,b0,d0,b1,d1,none,0,none,0,?_,?_⟩⟩
      · rw [← HS.out]
      · rw [← HS.out];exact hFin
    clear HW hO hR hFr hFin q1 q2 q3 p1 p2 p3 m3 k3 k9 HA hB4 hB3 hp2 hq2 hs4 hs3 hs2 hz1 hS40 O2 F3 hrs hlt3 Hlt3 HKb
    go_wp2
    refine bodyPost_ret (v:=.tuple #[RV b0 d0 S' b1 d1 n.r.l n.r.g 0 none 0 [] none 0 [] false,.int .i64 0]) (by simp [results,Tryz.results25,go_sem,i0,i1,i2,i3,i4,i5,i6]) rfl ?_
    exact HF.out
end

section
open Go.RowKit
set_option maxRecDepth 100000
structure Rw (w : World) (z L B off : Nat) (Q : Nat → Rq) : Prop where
  hB : ∃ cur,w.heap[B]? = some (.cells cur 36)
  zb : z ≤ B
  ne : L ≠ B
  row : ∀ i,i < 3 → QAt w B (off + i * 7) (Q i)
  each : ∀ i,i < 3 → Away w z (fun k=>k = B ∨ k = L) (Q i)
theorem Rw.ltB {w : World} {z L B off : Nat} {Q : Nat → Rq} (h : Rw w z L B off Q) : B < w.heap.size:=by
  obtain ⟨c,q⟩:=h.hB;exact heap_lt q
theorem Rw.below {w w' : World} {z L B off : Nat} {Q : Nat → Rq} (h : Rw w z L B off Q) (hb : Below w.heap.size w w') : Rw w' z L B off Q:=by
  obtain ⟨c2,q2⟩:=h.hB
  exact ⟨⟨c2,(hb.block _ h.ltB).trans q2⟩,h.zb,h.ne,fun i hi=>(h.row i hi).block (hb.block B h.ltB),fun i hi=>(h.each i hi).below hb⟩
theorem Rw.box {w : World} {z L B off : Nat} {Q : Nat → Rq} (h : Rw w z L B off Q) (o : Nat) (v : Value) : Rw (w.setCell ⟨L,o,none⟩ v) z L B off Q :=
  ⟨cells_set _ h.hB,h.zb,h.ne,fun i hi=>(h.row i hi).block (heap_setCell_other w ⟨L,o,none⟩ B _ (fun e=>h.ne e.symm)),fun i hi=>(h.each i hi).next (like_set w z L o _ _ (.inr rfl)) (fun _ _ e=>e)⟩
theorem Rw.low {w : World} {z L B off : Nat} {Q : Nat → Rq} (h : Rw w z L B off Q) (p o : Nat) (v : Value) (hp : p < z) : Rw (w.setCell ⟨p,o,none⟩ v) z L B off Q:=by
  have hl : Like z (fun k=>k = B ∨ k = L) w (w.setCell ⟨p,o,none⟩ v):=⟨setcell_size _ _ _,fun k h1 _ _=>heap_setCell_other w ⟨p,o,none⟩ k v (by show k ≠ p;omega)⟩
  exact ⟨cells_set _ h.hB,h.zb,h.ne,fun i hi=>(h.row i hi).block (heap_setCell_other w ⟨p,o,none⟩ B _ (by have:=h.zb;show B ≠ p;omega)),fun i hi=>(h.each i hi).next hl (fun _ _ e=>e)⟩
theorem Rw.row_set {w : World} {z L B off k : Nat} {Q : Nat → Rq} (h : Rw w z L B off Q) (hk : k < 3) (q : Rq) (hq : Away w z (fun k=>k = B ∨ k = L) q) :
    Rw (set7 w B (off + k * 7) (.slice q.aS q.r.s.length q.cs) (.slice q.al q.r.l.length q.cl) (.int .i64 q.r.g) (.int .i64 q.r.ph) (.slice q.a1 q.r.m.length q.c1) (.slice q.a2 q.r.us.length q.c2) (.bool q.r.f)) z L B off (upd Q k q):=by
  have hl:=set7_like w z B (off + k * 7) (.slice q.aS q.r.s.length q.cs) (.slice q.al q.r.l.length q.cl) (.int .i64 q.r.g) (.int .i64 q.r.ph) (.slice q.a1 q.r.m.length q.c1) (.slice q.a2 q.r.us.length q.c2) (.bool q.r.f) (fun k=>k = B ∨ k = L) (.inl rfl)
  refine ⟨?_,h.zb,h.ne,fun i hi=>?_,fun i hi=>?_⟩
  · unfold set7
    exact cells_set _ (cells_set _ (cells_set _ (cells_set _ (cells_set _ (cells_set _ (cells_set _ h.hB))))))
  · by_cases e : i = k
    · subst e;rw [upd_same];exact set7_at (h.row i hi) q
    · rw [upd_other _ _ e]
      obtain ⟨h0,h1,h2,h3,h4,h5,h6⟩:=h.row i hi
      constructor
      · rw [set7_off _ _ _ _ _ _ _ _ _ _ _ (by omega)];exact h0
      · rw [set7_off _ _ _ _ _ _ _ _ _ _ _ (by omega)];exact h1
      · rw [set7_off _ _ _ _ _ _ _ _ _ _ _ (by omega)];exact h2
      · rw [set7_off _ _ _ _ _ _ _ _ _ _ _ (by omega)];exact h3
      · rw [set7_off _ _ _ _ _ _ _ _ _ _ _ (by omega)];exact h4
      · rw [set7_off _ _ _ _ _ _ _ _ _ _ _ (by omega)];exact h5
      · rw [set7_off _ _ _ _ _ _ _ _ _ _ _ (by omega)];exact h6
  · by_cases e : i = k
    · subst e;rw [upd_same];exact hq.next hl (fun _ _ e=>e)
    · rw [upd_other _ _ e];exact (h.each i hi).next hl (fun _ _ e=>e)
theorem Rw.dep {w : World} {z L B : Nat} {Q : Nat → Rq} (h : Rw w z L B 0 Q) : Dep w z w.heap.size (fun W=>HoldsQ W (some ⟨B,0,none⟩) [Q 0,Q 1,Q 2]) :=
  ⟨Nat.le_refl _,fun w' hs hk=>by
    have hB:=(hk B h.zb h.ltB)
    have hl : Like z (fun k=>k = B ∨ k = L) w w':=⟨hs,fun k q1 q2 _=>hk k q1 q2⟩
    intro i hi
    refine ⟨B,0,rfl,Nat.lt_of_lt_of_le h.ltB hs,fun j hj=>?_⟩
    have hj' : j = 0 ∨ j = 1 ∨ j = 2:=by simp at hj;omega
    rcases hj' with rfl | rfl | rfl
    · exact ⟨(h.row 0 (by omega)).block hB,h.each 0 (by omega) w' hl⟩
    · exact ⟨(h.row 1 (by omega)).block hB,h.each 1 (by omega) w' hl⟩
    · exact ⟨(h.row 2 (by omega)).block hB,h.each 2 (by omega) w' hl⟩⟩
theorem Rw.of_copy {w : World} {z B cap : Nat} {qs : List Rq} (h : Qs w z (.slice (some ⟨B,0,none⟩) 3 cap) qs) (hl : qs.length = 3) (d : Rq) (o : Obj) :
    Rw (w.alloc o) z w.heap.size B 0 (fun i=>qs.getD i d):=by
  have hA:=below_alloc w o
  have hlt:=h.own.lt B rfl
  have hcl:=h.own.cells (g:=B) rfl
  have hadd : ∀ j,(⟨B,0,none⟩ : Addr).add j = ⟨B,0 + j,none⟩:=fun j=>by unfold Addr.add;split <;> simp_all
  have hat : ∀ i,i < 3 → QAt w B (0 + i * 7) (qs.getD i d):=by
    intro i hi
    have hiq : i < qs.length:=by omega
    have e : qs.getD i d = qs[i]:=by simp [hiq]
    rw [e]
    have hr : ∀ j u,j < 7 → (qs[i].cells)[j]? = some u → w.cell? ⟨B,0 + i * 7 + j,none⟩ = some u:=by
      intro j u hj hu
      have:=hcl (i * 7 + j) u (by rw [rowQ_get qs i j hiq hj];exact hu)
      rw [hadd] at this
      rw [show 0 + i * 7 + j = 0 + (i * 7 + j) by omega];exact this
    exact ⟨hr 0 _ (by omega) rfl,hr 1 _ (by omega) rfl,hr 2 _ (by omega) rfl,hr 3 _ (by omega) rfl,hr 4 _ (by omega) rfl,hr 5 _ (by omega) rfl,hr 6 _ (by omega) rfl⟩
  refine ⟨?_,hlt.1,by omega,fun i hi=>(hat i hi).block (hA.block B hlt.2),?_⟩
  · rcases h.own.2 with ⟨e, _⟩ | ⟨g, c2, cur, e, _, hg, _⟩
    · cases e
    · have hgB : some g = some B := by have := congrArg Value.ownBlock e; simpa [Value.ownBlock] using this.symm
      cases hgB
      exact ⟨cur,(hA.block _ hlt.2).trans hg⟩
  · intro i hi
    have hm : qs.getD i d ∈ qs:=by
      have hiq : i < qs.length:=by omega
      have e : qs.getD i d = qs[i]:=by simp [hiq]
      rw [e];exact List.getElem_mem _
    refine (h.each _ hm).next (Like.of_below hA) (fun j hj e=>?_)
    rcases e with rfl | rfl
    · rfl
    · exact absurd hj (Nat.lt_irrefl _)
set_option maxHeartbeats 4000000 in
theorem all1_any (n r : Rq) (p : Nat) (w : World) (hg : Glob w) (hp : w.heap[p]? = some n.blk) (hn : n.H w) (hr : r.H w) : Calls Tryz.prog 85 #[r.val,.pointer (some ⟨p,0,none⟩)] w (FromPost n.r r.r w):=by
  obtain ⟨PO,HPO⟩ : ∃ P : Ending → World → Prop,Hid (P = FromPost n.r r.r w):=⟨_,rfl⟩
  rw [← HPO.out]
  obtain ⟨hk1,hk2⟩:=two_blocks w r.blk zero28
  have hB:=below_alloc2 w r.blk zero28
  have hp':=(hB.block _ (heap_lt hp)).trans hp
  obtain ⟨y0,y1,y2,y3,y4,y5,y6⟩:=c7_of hk1
  obtain ⟨x0,x1,x2,x3,x4,x5,x6⟩:=c7_of hp'
  have hc:=from_any n r _ (hg.below hB) (hn.below hB) (hr.below hB)
  have HZ0 : Hid (w.heap.size + 1 < ((w.alloc r.blk).alloc zero28).heap.size):=heap_lt hk2
  go_enter Tryz.func85,Tryz.ntmps85
  go_wp2_with fail
  generalize ((w.alloc r.blk).alloc zero28) = W0 at *
  refine hc.mono ?_
  clear hc
  rintro e W1 ⟨hb1,hpost⟩
  have kk1:=(hb1.block _ (heap_lt hk2)).trans hk2
  have hB1:=hB.trans (hb1.mono hB.size)
  clear y0 y1 y2 y3 y4 y5 y6 x0 x1 x2 x3 x4 x5 x6 hk1 hk2 hB hb1 hp'
  rcases hpost with ⟨hne,rfl⟩ | ⟨hz,b0,d0,b1,d1,b2,d2,b3,d3,rfl,H1⟩
  · have hzs := set7_same W1 (w.heap.size + 1) 36 (.slice none 0 0) (.slice none 0 0) (.int .i64 0) (.int .i64 0) (.slice none 0 0) (.slice none 0 0) (.bool false) kk1
    obtain ⟨o0,o1,o2,o3,o4,o5,o6⟩:=c7_of kk1
    have fz0:=f_of (o:=0) kk1
    have fz1:=f_of (o:=1) kk1
    have fz2:=f_of (o:=2) kk1
    have fz3:=f_of (o:=3) kk1
    have fz4:=f_of (o:=4) kk1
    have fz5:=f_of (o:=5) kk1
    have fz6:=f_of (o:=6) kk1
    obtain ⟨i0,i1,i2,i3,i4,i5,i6⟩:=c7_of ((hzs.block _ (heap_lt kk1)).trans kk1)
    have HF : Hid (∀ w',Below w.heap.size w w' → PO (.returned (.tuple #[zeroV,.int .i64 (fromE n.r r.r)])) w'):=fun w' hb=>by
      rw [HPO.out];exact RepPost.bad rfl hne hb
    have HB : Hid (Below w.heap.size w _):=hB1.trans (hzs.mono hB1.size)
    clear hne kk1 hB1 hzs
    generalize fromE n.r r.r = E at *
    go_wp2
    refine bodyPost_ret (v:=.tuple #[zeroV,.int .i64 E]) (by simp [results,Tryz.results85,go_sem,i0,i1,i2,i3,i4,i5,i6]) rfl ?_
    exact HF.out _ HB.out
  · obtain ⟨o0, o1, o2, o3, o4, o5, o6⟩ := c7_of kk1
    have fz0:=f_of (o:=0) kk1
    have fz1:=f_of (o:=1) kk1
    have fz2:=f_of (o:=2) kk1
    have fz3:=f_of (o:=3) kk1
    have fz4:=f_of (o:=4) kk1
    have fz5:=f_of (o:=5) kk1
    have fz6:=f_of (o:=6) kk1
    obtain ⟨S',hS⟩ : ∃ S',S' = (fromR n.r r.r).s:=⟨_,rfl⟩
    have HS : Hid (S' = (fromR n.r r.r).s):=hS
    rw [← hS] at H1 ⊢
    clear hS
    obtain ⟨s1,s2,s3⟩:=set7_block W1 (w.heap.size + 1) 36 (.slice b0 S'.length d0) (.slice b1 n.r.l.length d1) (.int .i64 n.r.g) (.int .i64 0) (.slice b2 0 d2) (.slice b3 0 d3) (.bool false) kk1
    obtain ⟨i0,i1,i2,i3,i4,i5,i6⟩:=c7_of s1
    have HF : Hid (PO (.returned (.tuple #[RV b0 d0 S' b1 d1 n.r.l n.r.g 0 b2 d2 [] b3 d3 [] false,.int .i64 0])) (((((((W1.setCell ⟨w.heap.size + 1,0,none⟩ (.slice b0 S'.length d0)).setCell ⟨w.heap.size + 1,1,none⟩ (.slice b1 n.r.l.length d1)).setCell ⟨w.heap.size + 1,2,none⟩ (.int .i64 n.r.g)).setCell ⟨w.heap.size + 1,3,none⟩ (.int .i64 0)).setCell ⟨w.heap.size + 1,4,none⟩ (.slice b2 0 d2)).setCell ⟨w.heap.size + 1,5,none⟩ (.slice b3 0 d3)).setCell ⟨w.heap.size + 1,6,none⟩ (.bool false))):=by
      unfold Hid
      rw [HPO.out]
      refine ⟨hB1.trans (s2.mono (by omega)),.inr ⟨hz,b0,d0,b1,d1,b2,d2,b3,d3,?_,?_⟩⟩
      · rw [← HS.out]
      · rw [← HS.out];exact (H1.keep s2.size (fun k hk=>s3 k (by have:=HZ0.out;omega))).from (by have:=HZ0.out;omega)
    clear s1 s2 s3 H1 hz hB1 kk1
    go_wp2
    refine bodyPost_ret (v:=.tuple #[RV b0 d0 S' b1 d1 n.r.l n.r.g 0 b2 d2 [] b3 d3 [] false,.int .i64 0]) (by simp [results,Tryz.results85,go_sem,i0,i1,i2,i3,i4,i5,i6]) rfl ?_
    exact HF.out
end

section
open Go.RowKit
set_option maxRecDepth 100000
def mdB (r : Rp) (g : Int) : Bool:=!(r.g == g)
def mdV (n r : Rp) (g : Int) : Int:=if mdB r g = true then fromE n r else 0
def mdR (n r : Rp) (g : Int) : Rp:=if mdB r g = true then fromR n r else r
abbrev boxM (B off cap : Nat) (c : Nat) : Obj:=.cells #[.slice (some ⟨B,off,none⟩) 3 cap,.int .i64 (c : Int)] 127
set_option maxHeartbeats 8000000 in
theorem mend_any (w0 : World) (L B off cap : Nat) (Q : Nat → Rq) (g : Int) (n : Rq) (p : Nat) (w : World) (hg : Glob w0) (hb0 : Below w0.heap.size w0 w) (hLz : w0.heap.size ≤ L) (hL : w.heap[L]? = some (boxM B off cap 0)) (hd : Rw w w0.heap.size L B off Q)
    (hp : w.heap[p]? = some n.blk) (hpL : p ≠ L) (hpB : p ≠ B) (hn : Away w w0.heap.size (fun k=>k = B ∨ k = L) n) :
    Calls Tryz.prog 84 #[.pointer (some ⟨L,0,none⟩),.int .i64 g,.func (.func 85) #[] #[.pointer (some ⟨p,0,none⟩)]] w fun e w'=>e = .returned (.int .i64 (fstE (fun i=>mdV n.r (Q i).r g))) ∧ Below w0.heap.size w0 w' ∧ w.heap.size ≤ w'.heap.size ∧ (∀ j,j < w.heap.size → j ≠ B → j ≠ L → w'.heap[j]? = w.heap[j]?) ∧
      (fstE (fun i=>mdV n.r (Q i).r g) = 0 → ∃ Q',w'.heap[L]? = some (boxM B off cap (cntTo (fun i=>mdB (Q i).r g) 3)) ∧ Rw w' w0.heap.size L B off Q' ∧ ∀ i,i < 3 → (Q' i).r = mdR n.r (Q i).r g):=by
  have hLw:=heap_lt hL
  have hBw:=hd.ltB
  have hpw:=heap_lt hp
  obtain ⟨yh,_⟩:=c2_of hL
  obtain ⟨PO,HPO⟩ : ∃ P : Ending → World → Prop,Hid (∀ e w',P e w' ↔ (e = .returned (.int .i64 (fstE (fun i=>mdV n.r (Q i).r g))) ∧ Below w0.heap.size w0 w' ∧ w.heap.size ≤ w'.heap.size ∧ (∀ j,j < w.heap.size → j ≠ B → j ≠ L → w'.heap[j]? = w.heap[j]?) ∧
      (fstE (fun i=>mdV n.r (Q i).r g) = 0 → ∃ Q',w'.heap[L]? = some (boxM B off cap (cntTo (fun i=>mdB (Q i).r g) 3)) ∧ Rw w' w0.heap.size L B off Q' ∧ ∀ i,i < 3 → (Q' i).r = mdR n.r (Q i).r g))):=⟨_,fun _ _=>Iff.rfl⟩
  suffices hm : Calls Tryz.prog 84 #[.pointer (some ⟨L,0,none⟩),.int .i64 g,.func (.func 85) #[] #[.pointer (some ⟨p,0,none⟩)]] w PO from hm.mono (fun e w' h=>(HPO.out e w').1 h)
  go_enter Tryz.func84,Tryz.ntmps84
  go_wp2_with fail
  go_loopw [17] (fun i wr=>∃ (k : Nat) (Qk : Nat → Rq),i = .int .i64 k ∧ k ≤ 3 ∧ Below w0.heap.size w0 wr ∧ wr.heap[L]? = some (boxM B off cap (cntTo (fun i=>mdB (Q i).r g) k)) ∧ Rw wr w0.heap.size L B off Qk ∧ wr.heap[p]? = some n.blk ∧ Away wr w0.heap.size (fun k=>k = B ∨ k = L) n ∧ w.heap.size ≤ wr.heap.size ∧ Hid (∀ j,j < w.heap.size → j ≠ B → j ≠ L → wr.heap[j]? = w.heap[j]?) ∧
      Hid (∀ i,i < 3 → i < k → (Qk i).r = mdR n.r (Q i).r g) ∧ Hid (∀ i,i < 3 → k ≤ i → Qk i = Q i) ∧ Hid (∀ i,i < k → mdV n.r (Q i).r g = 0)) (fun i _=>3 - (intOf i).toNat)
  case atStart=>exact ⟨0,Q,rfl,Nat.zero_le _,hb0,hL,hd,hp,hn,Nat.le_refl _,fun _ _ _ _=>rfl,fun i _ h=>absurd h (Nat.not_lt_zero _),fun i _ _=>rfl,fun i h=>absurd h (Nat.not_lt_zero _)⟩
  case round =>
    clear hd hb0 yh hL hp hn
    obtain ⟨k,Qk,rfl,hk,HB,HL,HR,HP,HN,HS,HK,HI,HJ,HZ⟩:=hrel
    by_cases hlt : k < 3
    · have hlt' : (k : Int) < 3 := by omega
      obtain ⟨x0,x1,x2,x3,x4,x5,x6⟩:=HR.row k hlt
      have HQ : Hid (Qk k = Q k):=HJ.out k hlt (Nat.le_refl _)
      have hA:=below_alloc wr (Qk k).blk
      have hn0:=heap_alloc_new wr (Qk k).blk
      have HB1:=HB.trans (hA.mono HB.size)
      have HR1:=HR.below hA
      have HL1:=(hA.block _ (heap_lt HL)).trans HL
      have HP1:=(hA.block _ (heap_lt HP)).trans HP
      have HN1:=HN.below hA
      have HK1 : Hid (∀ j,j < w.heap.size → j ≠ B → j ≠ L → (wr.alloc (Qk k).blk).heap[j]? = w.heap[j]?):=fun j h1 h2 h3=>(hA.block j (by omega)).trans (HK.out j h1 h2 h3)
      have hs1:=hA.size
      obtain ⟨z0,z1,z2,z3,z4,z5,z6⟩:=c7_of hn0
      clear HL HB HK hA HR HP HN
      by_cases hgk : (Qk k).r.g = g
      · have HNX : Hid (∃ (k' : Nat) (Qk' : Nat → Rq),Value.int .i64 ((k : Int) + 1) = .int .i64 k' ∧ k' ≤ 3 ∧ Below w0.heap.size w0 (wr.alloc (Qk k).blk) ∧ (wr.alloc (Qk k).blk).heap[L]? = some (boxM B off cap (cntTo (fun i=>mdB (Q i).r g) k')) ∧ Rw (wr.alloc (Qk k).blk) w0.heap.size L B off Qk' ∧ (wr.alloc (Qk k).blk).heap[p]? = some n.blk ∧ Away (wr.alloc (Qk k).blk) w0.heap.size (fun k=>k = B ∨ k = L) n ∧ w.heap.size ≤ (wr.alloc (Qk k).blk).heap.size ∧ Hid (∀ j,j < w.heap.size → j ≠ B → j ≠ L → (wr.alloc (Qk k).blk).heap[j]? = w.heap[j]?) ∧
            Hid (∀ i,i < 3 → i < k' → (Qk' i).r = mdR n.r (Q i).r g) ∧ Hid (∀ i,i < 3 → k' ≤ i → Qk' i = Q i) ∧ Hid (∀ i,i < k' → mdV n.r (Q i).r g = 0)):=by
          have hmd : mdB (Q k).r g = false:=by unfold mdB;rw [← HQ.out,hgk];simp
          refine ⟨k + 1,Qk,by simp,by omega,HB1,?_,HR1,HP1,HN1,by omega,HK1,fun i hi hik=>?_,fun i hi hik=>HJ.out i hi (by omega),fun i hik=>?_⟩
          · rw [HL1];simp [cntTo,hmd]
          · by_cases e : i = k
            · subst e;rw [HQ.out];unfold mdR;rw [hmd];rfl
            · exact HI.out i hi (by omega)
          · by_cases e : i = k
            · subst e;unfold mdV;rw [hmd];rfl
            · exact HZ.out i (by omega)
        have zg : ((Qk k).r.g == g) = true:=by simpa using hgk
        clear hgk HB1 HR1 HL1 HP1 HN1 HK1 hs1 hn0
        go_wp2
        go_roundw
        case rel=>exact HNX.out
        case measure=>simp [intOf];omega
      · have HMD : Hid (mdB (Q k).r g = true) := by unfold Hid mdB; rw [← HQ.out]; simpa using hgk
        have zg : ((Qk k).r.g == g) = false:=by simpa using hgk
        have hcall:=all1_any n (Qk k) p _ (hg.below HB1) HP1 HN1.self (HR1.each k hlt).self
        have HE : Hid (mdV n.r (Q k).r g = fromE n.r (Qk k).r):=by unfold Hid mdV;rw [HMD.out,HQ.out];rfl
        have HE2 : Hid (mdR n.r (Q k).r g = fromR n.r (Qk k).r):=by unfold Hid mdR;rw [HMD.out,HQ.out];rfl
        have HFE : Hid (fromE n.r (Qk k).r ≠ 0 → fstE (fun i=>mdV n.r (Q i).r g) = fromE n.r (Qk k).r):=fun hne=>by
          have h1:=fstE_at (g:=fun i=>mdV n.r (Q i).r g) hlt (fun i hi=>HZ.out i hi) (by rw [HE.out];exact hne)
          rw [h1];exact HE.out
        clear hgk
        go_wp2_with fail
        generalize wr.alloc (Qk k).blk = W0 at *
        refine hcall.mono ?_
        clear hcall z0 z1 z2 z3 z4 z5 z6 x0 x1 x2 x3 x4 x5 x6
        rintro e W2 ⟨hb2,hpost⟩
        have HB2:=HB1.trans (hb2.mono HB1.size)
        have HR2:=HR1.below hb2
        have HL2:=(hb2.block _ (heap_lt HL1)).trans HL1
        have HP2:=(hb2.block _ (heap_lt HP1)).trans HP1
        have HN2:=HN1.below hb2
        have HK2 : Hid (∀ j,j < w.heap.size → j ≠ B → j ≠ L → W2.heap[j]? = w.heap[j]?):=fun j h1 h2 h3=>(hb2.block j (by omega)).trans (HK1.out j h1 h2 h3)
        have hs2 : w.heap.size ≤ W2.heap.size:=by have:=hb2.size;omega
        have hz2:=hb2.size
        have hLr:=heap_lt HL1
        have hzW0:=HB1.size
        have hBr:=HR1.ltB
        clear HB1 HR1 HL1 HP1 HN1 HK1 hn0 hb2
        rcases hpost with ⟨hne,rfl⟩ | ⟨hz,b0,d0,b1,d1,b2,d2,b3,d3,rfl,F⟩
        · have HF : Hid (∀ w',Below w0.heap.size w0 w' → w.heap.size ≤ w'.heap.size → (∀ j,j < w.heap.size → j ≠ B → j ≠ L → w'.heap[j]? = w.heap[j]?) → PO (.returned (.int .i64 (fromE n.r (Qk k).r))) w'):=fun w' h1 h2 h3=>by
            refine (HPO.out _ _).2 ⟨by rw [HFE.out hne],h1,h2,h3,fun h0=>?_⟩
            rw [HFE.out hne] at h0;exact absurd h0 hne
          have q1 : (fromE n.r (Qk k).r != 0) = true:=by simpa using hne
          have hA:=below_alloc W2 zero28
          have HB3:=HB2.trans (hA.mono HB2.size)
          have HK3 : Hid (∀ j,j < w.heap.size → j ≠ B → j ≠ L → (W2.alloc zero28).heap[j]? = w.heap[j]?):=fun j h1 h2 h3=>(hA.block j (by omega)).trans (HK2.out j h1 h2 h3)
          have hs3 : Hid (w.heap.size ≤ (W2.alloc zero28).heap.size):=Nat.le_trans hs2 hA.size
          clear hne HFE HE HE2 HR2 HL2 HP2 HN2 hA HK2 HB2
          generalize fromE n.r (Qk k).r = E at *
          go_wp2
          exact HF.out _ HB3 hs3.out HK3.out
        · obtain ⟨q, hqr, hqv, hqF⟩ : ∃ q : Rq, q.r = fromR n.r (Qk k).r ∧ RV b0 d0 (fromR n.r (Qk k).r).s b1 d1 n.r.l n.r.g 0 b2 d2 [] b3 d3 [] false = q.val ∧ RepF W2 W0.heap.size q.aS q.cs q.r.s q.al q.cl q.r.l q.a1 q.c1 q.r.m q.a2 q.c2 q.r.us := ⟨⟨fromR n.r (Qk k).r, b0, d0, b1, d1, b2, d2, b3, d3⟩, rfl, rfl, F⟩
          have HQR : Hid (q.r = mdR n.r (Q k).r g):=hqr.trans HE2.out.symm
          have HV0 : Hid (mdV n.r (Q k).r g = 0):=HE.out.trans hz
          have HAq:=Away.fresh hqF (z:=w0.heap.size) (P:=fun k=>k = B ∨ k = L) hzW0 (fun j hj=>by rcases hj with rfl | rfl <;> omega)
          rw [hqv]
          clear hqv hqF F hqr HFE HE HE2 hz
          have hA:=below_alloc W2 q.blk
          have kq:=heap_alloc_new W2 q.blk
          have HB3:=HB2.trans (hA.mono HB2.size)
          have HR3:=HR2.below hA
          have HL3:=(hA.block _ (heap_lt HL2)).trans HL2
          have HP3:=(hA.block _ (heap_lt HP2)).trans HP2
          have HN3:=HN2.below hA
          have HAq3:=HAq.below hA
          have HK3 : Hid (∀ j,j < w.heap.size → j ≠ B → j ≠ L → (W2.alloc q.blk).heap[j]? = w.heap[j]?):=fun j h1 h2 h3=>(hA.block j (by omega)).trans (HK2.out j h1 h2 h3)
          have hs3 : w.heap.size ≤ (W2.alloc q.blk).heap.size:=Nat.le_trans hs2 hA.size
          have hLp0 : W2.heap.size ≠ L:=by omega
          have hBp0 : W2.heap.size ≠ B:=by omega
          go_upto_region 8 with fail
          generalize W2.alloc q.blk = W3 at *
          obtain ⟨pq,hpq⟩ : ∃ pq,pq = W2.heap.size:=⟨_,rfl⟩
          rw [← hpq] at kq hLp0 hBp0 ⊢
          have hLp : pq ≠ L:=hLp0
          have hBp : pq ≠ B:=hBp0
          clear hpq HB2 HR2 HL2 HP2 HN2 HAq HK2 hA hLp0 hBp0
          have hdr:=below_refl_drew W3
          have HB4:=HB3.trans (hdr.mono HB3.size)
          have HR4:=HR3.below hdr
          have HL4:=(hdr.block _ (heap_lt HL3)).trans HL3
          have HP4:=(hdr.block _ (heap_lt HP3)).trans HP3
          have HN4:=HN3.below hdr
          have HAD:=HAq3.below hdr
          have kqD:=(hdr.block _ (heap_lt kq)).trans kq
          have HK4 : Hid (∀ j,j < w.heap.size → j ≠ B → j ≠ L → W3.drew.heap[j]? = w.heap[j]?):=HK3.out
          have hs4 : w.heap.size ≤ W3.drew.heap.size:=hs3
          have hS0 : W3.drew.cell? ⟨L,0,none⟩ = some (.slice (some ⟨B,off,none⟩) 3 cap) ∧ (W3.drew.cell? ⟨pq,0,none⟩ = some (.slice q.aS q.r.s.length q.cs) ∧ W3.drew.cell? ⟨pq,1,none⟩ = some (.slice q.al q.r.l.length q.cl) ∧ W3.drew.cell? ⟨pq,2,none⟩ = some (.int .i64 q.r.g) ∧ W3.drew.cell? ⟨pq,3,none⟩ = some (.int .i64 q.r.ph) ∧ W3.drew.cell? ⟨pq,4,none⟩ = some (.slice q.a1 q.r.m.length q.c1) ∧ W3.drew.cell? ⟨pq,5,none⟩ = some (.slice q.a2 q.r.us.length q.c2) ∧ W3.drew.cell? ⟨pq,6,none⟩ = some (.bool q.r.f)):=⟨(c2_of HL4).1,c7_of kqD⟩
          refine wp_region_E (fun W=>W.cell? ⟨L,0,none⟩ = some (.slice (some ⟨B,off,none⟩) 3 cap) ∧ (W.cell? ⟨pq,0,none⟩ = some (.slice q.aS q.r.s.length q.cs) ∧ W.cell? ⟨pq,1,none⟩ = some (.slice q.al q.r.l.length q.cl) ∧ W.cell? ⟨pq,2,none⟩ = some (.int .i64 q.r.g) ∧ W.cell? ⟨pq,3,none⟩ = some (.int .i64 q.r.ph) ∧ W.cell? ⟨pq,4,none⟩ = some (.slice q.a1 q.r.m.length q.c1) ∧ W.cell? ⟨pq,5,none⟩ = some (.slice q.a2 q.r.us.length q.c2) ∧ W.cell? ⟨pq,6,none⟩ = some (.bool q.r.f))) (fun _=>false) (by kernel_rfl) hS0 (fun hS=>?_)
          generalize W3.drew = W1 at *
          clear hS0 hdr HB3 HR3 HL3 HP3 HN3 HAq3 kq HK3 hs3
          refine wpAnyE.take (i:=0) (v:=?_) rfl (by kernel_rfl) (by kernel_rfl) (by kernel_rfl) (by kernel_rfl) (fun _ _ _ h=>h) (Or.inl ⟨by rfl,?_⟩) (by assumption) ?_
          rotate_left
          · intro w hSw;obtain ⟨s0,r0,r1,r2,r3,r4,r5,r6⟩:=hSw;go_simp;with_reducible rfl
          try simp only [Act.put,uA,uC,uD,uE,uF]
          refine wpAnyE.take (i:=1) (v:=?_) rfl (by kernel_rfl) (by kernel_rfl) (by kernel_rfl) (by kernel_rfl) (fun _ _ _ h=>h) (Or.inl ⟨by rfl,?_⟩) (by assumption) ?_
          rotate_left
          · intro w hSw;obtain ⟨s0,r0,r1,r2,r3,r4,r5,r6⟩:=hSw;go_simp;with_reducible rfl
          try simp only [Act.put,uA,uB,uC,uD,uE,uF]
          refine wpAnyE.take (i:=2) (v:=?_) rfl (by kernel_rfl) (by kernel_rfl) (by kernel_rfl) (by kernel_rfl) (fun _ _ _ h=>h) (Or.inl ⟨by rfl,?_⟩) (by assumption) ?_
          rotate_left
          · intro w hSw;obtain ⟨s0,r0,r1,r2,r3,r4,r5,r6⟩:=hSw;go_simp;with_reducible rfl
          try simp only [Act.put,uA,uB,uC,uD,uE,uF]
          refine wpAnyE.take (i:=3) (v:=?_) rfl (by kernel_rfl) (by kernel_rfl) (by kernel_rfl) (by kernel_rfl) (fun _ _ _ h=>h) (Or.inl ⟨by rfl,?_⟩) (by assumption) ?_
          rotate_left
          · intro w hSw;obtain ⟨s0,r0,r1,r2,r3,r4,r5,r6⟩:=hSw;go_simp;with_reducible rfl
          try simp only [Act.put,uA,uB,uC,uD,uE,uF]
          refine wpAnyE.take (i:=4) (v:=?_) rfl (by kernel_rfl) (by kernel_rfl) (by kernel_rfl) (by kernel_rfl) (fun _ _ _ h=>h) (Or.inl ⟨by rfl,?_⟩) (by assumption) ?_
          rotate_left
          · intro w hSw;obtain ⟨s0,r0,r1,r2,r3,r4,r5,r6⟩:=hSw;go_simp;with_reducible rfl
          try simp only [Act.put,uA,uB,uC,uD,uE,uF]
          refine wpAnyE.take (i:=5) (v:=?_) rfl (by kernel_rfl) (by kernel_rfl) (by kernel_rfl) (by kernel_rfl) (fun _ _ _ h=>h) (Or.inl ⟨by rfl,?_⟩) (by assumption) ?_
          rotate_left
          · intro w hSw;obtain ⟨s0,r0,r1,r2,r3,r4,r5,r6⟩:=hSw;go_simp;with_reducible rfl
          try simp only [Act.put,uA,uB,uC,uD,uE,uF]
          refine wpAnyE.take (i:=6) (v:=?_) rfl (by kernel_rfl) (by kernel_rfl) (by kernel_rfl) (by kernel_rfl) (fun _ _ _ h=>h) (Or.inl ⟨by rfl,?_⟩) (by assumption) ?_
          rotate_left
          · intro w hSw;obtain ⟨s0,r0,r1,r2,r3,r4,r5,r6⟩:=hSw;go_simp;with_reducible rfl
          try simp only [Act.put,uA,uB,uC,uD,uE,uF]
          refine wpAnyE.take (i:=7) (v:=?_) rfl (by kernel_rfl) (by kernel_rfl) (by kernel_rfl) (by kernel_rfl) (fun _ _ _ h=>h) (Or.inl ⟨by rfl,?_⟩) (by assumption) ?_
          rotate_left
          · intro w hSw;obtain ⟨s0,r0,r1,r2,r3,r4,r5,r6⟩:=hSw;go_simp;with_reducible rfl
          try simp only [Act.put,uA,uB,uC,uD,uE,uF]
          refine wpAnyE.one (i:=8) (by kernel_rfl) rfl (fun K hK=>?_)
          obtain ⟨u0,u1,u2,u3,u4,u5,u6⟩:=HR4.row k hlt
          obtain ⟨cb,kb5⟩:=HR4.hB
          have fb0:=f_of (o:=off + k * 7) kb5
          have fb1:=f_of (o:=off + k * 7 + 1) kb5
          have fb2:=f_of (o:=off + k * 7 + 2) kb5
          have fb3:=f_of (o:=off + k * 7 + 3) kb5
          have fb4:=f_of (o:=off + k * 7 + 4) kb5
          have fb5:=f_of (o:=off + k * 7 + 5) kb5
          have fb6:=f_of (o:=off + k * 7 + 6) kb5
          have HR6:=HR4.row_set hlt q HAD
          have hl6:=set7_like W1 w0.heap.size B (off + k * 7) (.slice q.aS q.r.s.length q.cs) (.slice q.al q.r.l.length q.cl) (.int .i64 q.r.g) (.int .i64 q.r.ph) (.slice q.a1 q.r.m.length q.c1) (.slice q.a2 q.r.us.length q.c2) (.bool q.r.f) (fun k=>k = B ∨ k = L) (.inl rfl)
          have hb6 : ∀ j,j ≠ B → (set7 W1 B (off + k * 7) (.slice q.aS q.r.s.length q.cs) (.slice q.al q.r.l.length q.cl) (.int .i64 q.r.g) (.int .i64 q.r.ph) (.slice q.a1 q.r.m.length q.c1) (.slice q.a2 q.r.us.length q.c2) (.bool q.r.f)).heap[j]? = W1.heap[j]?:=fun j hj=>set7_blk W1 B (off + k * 7) j _ _ _ _ _ _ _ hj
          have HL6:=(hb6 L HR4.ne).trans HL4
          have HP6:=(hb6 p hpB).trans HP4
          have HN6 : Away (set7 W1 B (off + k * 7) (.slice q.aS q.r.s.length q.cs) (.slice q.al q.r.l.length q.cl) (.int .i64 q.r.g) (.int .i64 q.r.ph) (.slice q.a1 q.r.m.length q.c1) (.slice q.a2 q.r.us.length q.c2) (.bool q.r.f)) w0.heap.size (fun k=>k = B ∨ k = L) n:=HN4.next hl6 (fun _ _ e=>e)
          have HB6 : Below w0.heap.size w0 (set7 W1 B (off + k * 7) (.slice q.aS q.r.s.length q.cs) (.slice q.al q.r.l.length q.cl) (.int .i64 q.r.g) (.int .i64 q.r.ph) (.slice q.a1 q.r.m.length q.c1) (.slice q.a2 q.r.us.length q.c2) (.bool q.r.f)):=below_set7 _ _ _ _ _ _ _ HB4 HR4.zb
          have HK6 : Hid (∀ j,j < w.heap.size → j ≠ B → j ≠ L → (set7 W1 B (off + k * 7) (.slice q.aS q.r.s.length q.cs) (.slice q.al q.r.l.length q.cl) (.int .i64 q.r.g) (.int .i64 q.r.ph) (.slice q.a1 q.r.m.length q.c1) (.slice q.a2 q.r.us.length q.c2) (.bool q.r.f)).heap[j]? = w.heap[j]?):=fun j h1 h2 h3=>(hb6 j h2).trans (HK4.out j h1 h2 h3)
          have hs6 : w.heap.size ≤ (set7 W1 B (off + k * 7) (.slice q.aS q.r.s.length q.cs) (.slice q.al q.r.l.length q.cl) (.int .i64 q.r.g) (.int .i64 q.r.ph) (.slice q.a1 q.r.m.length q.c1) (.slice q.a2 q.r.us.length q.c2) (.bool q.r.f)).heap.size:=by rw [set7_size];exact hs4
          have kq6:=(hb6 pq hBp).trans kqD
          have hS6 : (set7 W1 B (off + k * 7) (.slice q.aS q.r.s.length q.cs) (.slice q.al q.r.l.length q.cl) (.int .i64 q.r.g) (.int .i64 q.r.ph) (.slice q.a1 q.r.m.length q.c1) (.slice q.a2 q.r.us.length q.c2) (.bool q.r.f)).cell? ⟨L,0,none⟩ = some (.slice (some ⟨B,off,none⟩) 3 cap) ∧ ((set7 W1 B (off + k * 7) (.slice q.aS q.r.s.length q.cs) (.slice q.al q.r.l.length q.cl) (.int .i64 q.r.g) (.int .i64 q.r.ph) (.slice q.a1 q.r.m.length q.c1) (.slice q.a2 q.r.us.length q.c2) (.bool q.r.f)).cell? ⟨pq,0,none⟩ = some (.slice q.aS q.r.s.length q.cs) ∧ (set7 W1 B (off + k * 7) (.slice q.aS q.r.s.length q.cs) (.slice q.al q.r.l.length q.cl) (.int .i64 q.r.g) (.int .i64 q.r.ph) (.slice q.a1 q.r.m.length q.c1) (.slice q.a2 q.r.us.length q.c2) (.bool q.r.f)).cell? ⟨pq,1,none⟩ = some (.slice q.al q.r.l.length q.cl) ∧ (set7 W1 B (off + k * 7) (.slice q.aS q.r.s.length q.cs) (.slice q.al q.r.l.length q.cl) (.int .i64 q.r.g) (.int .i64 q.r.ph) (.slice q.a1 q.r.m.length q.c1) (.slice q.a2 q.r.us.length q.c2) (.bool q.r.f)).cell? ⟨pq,2,none⟩ = some (.int .i64 q.r.g) ∧ (set7 W1 B (off + k * 7) (.slice q.aS q.r.s.length q.cs) (.slice q.al q.r.l.length q.cl) (.int .i64 q.r.g) (.int .i64 q.r.ph) (.slice q.a1 q.r.m.length q.c1) (.slice q.a2 q.r.us.length q.c2) (.bool q.r.f)).cell? ⟨pq,3,none⟩ = some (.int .i64 q.r.ph) ∧ (set7 W1 B (off + k * 7) (.slice q.aS q.r.s.length q.cs) (.slice q.al q.r.l.length q.cl) (.int .i64 q.r.g) (.int .i64 q.r.ph) (.slice q.a1 q.r.m.length q.c1) (.slice q.a2 q.r.us.length q.c2) (.bool q.r.f)).cell? ⟨pq,4,none⟩ = some (.slice q.a1 q.r.m.length q.c1) ∧ (set7 W1 B (off + k * 7) (.slice q.aS q.r.s.length q.cs) (.slice q.al q.r.l.length q.cl) (.int .i64 q.r.g) (.int .i64 q.r.ph) (.slice q.a1 q.r.m.length q.c1) (.slice q.a2 q.r.us.length q.c2) (.bool q.r.f)).cell? ⟨pq,5,none⟩ = some (.slice q.a2 q.r.us.length q.c2) ∧ (set7 W1 B (off + k * 7) (.slice q.aS q.r.s.length q.cs) (.slice q.al q.r.l.length q.cl) (.int .i64 q.r.g) (.int .i64 q.r.ph) (.slice q.a1 q.r.m.length q.c1) (.slice q.a2 q.r.us.length q.c2) (.bool q.r.f)).cell? ⟨pq,6,none⟩ = some (.bool q.r.f)):=⟨(c2_of HL6).1,c7_of kq6⟩
          clear HL4 HP4 HN4 HB4 HK4 hs4 kqD hb6 hl6
          go_simp
          refine hK _ _ (fun _=>hS6) ?_
          clear hK K
          try simp only [Act.put,uA,uB,uC,uD,uE,uF]
          generalize hW6 : (set7 W1 B (off + k * 7) (.slice q.aS q.r.s.length q.cs) (.slice q.al q.r.l.length q.cl) (.int .i64 q.r.g) (.int .i64 q.r.ph) (.slice q.a1 q.r.m.length q.c1) (.slice q.a2 q.r.us.length q.c2) (.bool q.r.f)) = W6 at HR6 HL6 HP6 HN6 HB6 HK6 hs6 kq6 hS6
          unfold set7 at hW6
          rw [hW6]
          clear hW6 u0 u1 u2 u3 u4 u5 u6 fb0 fb1 fb2 fb3 fb4 fb5 fb6 kb5 HR4 hS6 kq6 HAD
          refine wpAnyE.done (by kernel_rfl) ?_
          obtain ⟨v0,v1⟩:=c2_of HL6
          have f1:=f_of (o:=1) HL6
          have hcnt:=cntTo_le (fun i=>mdB (Q i).r g) k
          have HLs:=heap_setCell_same W6 L 1 _ 127 (.int .i64 ((cntTo (fun i=>mdB (Q i).r g) k : Int) + 1)) HL6
          have HCN : Hid ((cntTo (fun i=>mdB (Q i).r g) k : Int) + 1 = ((cntTo (fun i=>mdB (Q i).r g) (k + 1) : Nat) : Int)):=by
            unfold Hid
            rw [cntTo]
            rw [HMD.out];simp
          have HR7:=HR6.box 1 (.int .i64 ((cntTo (fun i=>mdB (Q i).r g) k : Int) + 1))
          have HB7 : Below w0.heap.size w0 (W6.setCell ⟨L,1,none⟩ (.int .i64 ((cntTo (fun i=>mdB (Q i).r g) k : Int) + 1))):=HB6.setCell hLz _
          have HP7:=(heap_setCell_other W6 ⟨L,1,none⟩ p (.int .i64 ((cntTo (fun i=>mdB (Q i).r g) k : Int) + 1)) hpL).trans HP6
          have HN7 : Away (W6.setCell ⟨L,1,none⟩ (.int .i64 ((cntTo (fun i=>mdB (Q i).r g) k : Int) + 1))) w0.heap.size (fun k=>k = B ∨ k = L) n:=HN6.next (like_set W6 w0.heap.size L 1 _ _ (.inr rfl)) (fun _ _ e=>e)
          have HK7 : Hid (∀ j,j < w.heap.size → j ≠ B → j ≠ L → (W6.setCell ⟨L,1,none⟩ (.int .i64 ((cntTo (fun i=>mdB (Q i).r g) k : Int) + 1))).heap[j]? = w.heap[j]?):=fun j h1 h2 h3=>(heap_setCell_other W6 ⟨L,1,none⟩ j _ h3).trans (HK6.out j h1 h2 h3)
          have hs7 : Hid (w.heap.size ≤ (W6.setCell ⟨L,1,none⟩ (.int .i64 ((cntTo (fun i=>mdB (Q i).r g) k : Int) + 1))).heap.size):=Nat.le_trans hs6 (setcell_size _ _ _)
          have HLf : Hid ((W6.setCell ⟨L,1,none⟩ (.int .i64 ((cntTo (fun i=>mdB (Q i).r g) k : Int) + 1))).heap[L]? = some (boxM B off cap (cntTo (fun i=>mdB (Q i).r g) (k + 1)))):=by
            unfold Hid
            rw [HLs]
            simp only [List.setIfInBounds_toArray,List.set_cons_zero,List.set_cons_succ,HCN.out]
          have hwc : IntKind.i64.wrap ((cntTo (fun i=>mdB (Q i).r g) k : Int) + 1) = (cntTo (fun i=>mdB (Q i).r g) k : Int) + 1:=by rw [IntKind.wrap_i64];omega
          have HI' : Hid (∀ i,i < 3 → i < k + 1 → (upd Qk k q i).r = mdR n.r (Q i).r g):=fun i hi hik=>by
            by_cases e : i = k
            · subst e
              rw [upd_same,HQR.out]
            · rw [upd_other _ _ e];exact HI.out i hi (by omega)
          have HJ' : Hid (∀ i,i < 3 → k + 1 ≤ i → upd Qk k q i = Q i):=fun i hi hik=>by
            rw [upd_other _ _ (by omega : i ≠ k)];exact HJ.out i hi (by omega)
          have HZ' : Hid (∀ i,i < k + 1 → mdV n.r (Q i).r g = 0):=fun i hik=>by
            by_cases e : i = k
            · subst e;exact HV0.out
            · exact HZ.out i (by omega)
          clear HI HJ HZ HR6 HB6 HP6 HN6 HK6 HL6 HLs HCN hcnt hs6
          generalize (cntTo (fun i=>mdB (Q i).r g) k : Int) = cn at *
          go_wp2
          go_roundw
          case rel=>exact ⟨k + 1,_,by go_num,by omega,HB7,HLf.out,HR7,HP7,HN7,hs7.out,HK7,HI',HJ',HZ'⟩
          case measure=>simp [intOf];omega
    · have hk3 : k = 3 := by omega
      subst hk3
      have HF : Hid (PO (.returned (.int .i64 0)) wr):=by
        have e : fstE (fun i=>mdV n.r (Q i).r g) = 0:=fstE_zero.2 (fun i hi=>HZ.out i hi)
        exact (HPO.out _ _).2 ⟨by rw [e],HB,HS,HK.out,fun _=>⟨Qk,HL,HR,fun i hi=>HI.out i hi hi⟩⟩
      clear HI HJ HZ HB HL HK HR HP HN
      go_wp2
      exact HF.out
end

section
open Go.RowKit
set_option maxRecDepth 100000
def AllPost (l : List Rp) (w : World) (e : Ending) (w' : World) : Prop :=
  Below w.heap.size w w' ∧ ((allE l ≠ 0 ∧ e = .returned (.tuple #[.agg #[.slice none 0 0],.int .i64 0,.int .i64 (allE l)])) ∨
    (allE l = 0 ∧ ∃ B cap qs,e = .returned (.tuple #[.agg #[.slice (some ⟨B,0,none⟩) 3 cap],.int .i64 ((cntTo (menB l) 3 : Nat) : Int),.int .i64 0]) ∧ qs.map Rq.r = allL l ∧ Dep w' w.heap.size w'.heap.size (fun W=>HoldsQ W (some ⟨B,0,none⟩) qs) ∧ 3 ≤ cap ∧ cap ≤ 9223372036854775807))
theorem AllPost.bad {l : List Rp} {w w' : World} {r : Int} (h : allE l = r) (h0 : r ≠ 0) (hb : Below w.heap.size w w') : AllPost l w (.returned (.tuple #[.agg #[.slice none 0 0],.int .i64 0,.int .i64 r])) w' :=
  ⟨hb,.inl ⟨by rw [h];exact h0,by rw [h]⟩⟩
theorem best_map (l : List Rq) : bestTo (gsOf l) l.length = bestI (l.map Rq.r):=by
  unfold bestI gOf
  rw [List.map_map,List.length_map];rfl
theorem qs_slice {w : World} {z : Nat} {v : Value} {qs : List Rq} (h : Qs w z v qs) (hl : qs.length = 3) : ∃ B cap,v = .slice (some ⟨B,0,none⟩) 3 cap ∧ 3 ≤ cap ∧ cap ≤ 9223372036854775807:=by
  rcases h.own.2 with ⟨_,e⟩ | ⟨g,cap,cur,e,_,_,h1,h2,_⟩
  · omega
  · unfold maxLen at h2
    exact ⟨g,cap,by rw [e,hl],by omega,by omega⟩
theorem fstE_congr {f g : Nat → Int} (h : ∀ i,i < 3 → f i = g i) : fstE f = fstE g:=by
  unfold fstE
  rw [h 0 (by omega),h 1 (by omega),h 2 (by omega)]
set_option maxHeartbeats 8000000 in
theorem all_any (a : Option Addr) (c : Nat) (l : List Rq) (w : World) (hg : Glob w) (h : HoldsQ w a l) (hlc : l.length ≤ c) (hcm : c ≤ 9223372036854775807) :
    Calls Tryz.prog 31 #[.agg #[.slice a l.length c]] w (AllPost (l.map Rq.r) w):=by
  obtain ⟨PO,HPO⟩ : ∃ P : Ending → World → Prop,Hid (P = AllPost (l.map Rq.r) w):=⟨_,rfl⟩
  rw [← HPO.out]
  have hA:=below_alloc2 w (.cells #[.slice a l.length c] 24) (.cells #[.slice none 0 0] 24)
  obtain ⟨k1,k2⟩:=two_blocks w (.cells #[.slice a l.length c] 24) (.cells #[.slice none 0 0] 24)
  have HZ0 : Hid (((w.alloc (.cells #[.slice a l.length c] 24)).alloc (.cells #[.slice none 0 0] 24)).heap.size = w.heap.size + 2):=by unfold Hid;simp
  have y1:=c1_of k1
  have hc:=newestC_any a c l _ (hg.below hA) (h.below hA) hlc hcm
  have HLN : Hid (l.length ≤ c):=hlc
  clear hlc
  go_enter Tryz.func31,Tryz.ntmps31
  go_wp2_with fail
  generalize (w.alloc (.cells #[.slice a l.length c] 24)).alloc (.cells #[.slice none 0 0] 24) = W0 at *
  refine hc.mono ?_
  have HB0 : Hid (Below w.heap.size w W0):=hA
  clear hc y1
  rintro e W1 ⟨at',rfl,Hat,hb1⟩
  have hB1:=hA.trans (hb1.mono hA.size)
  have j1:=(hb1.block _ (heap_lt k1)).trans k1
  have j2:=(hb1.block _ (heap_lt k2)).trans k2
  have HBW : Hid (Below W0.heap.size W0 W1):=hb1
  by_cases e1 : checkC (l.map Rq.r) = 0
  case neg =>
    have HF : Hid (∀ w',Below w.heap.size w w' → PO (.returned (.tuple #[.agg #[.slice none 0 0],.int .i64 0,.int .i64 (checkC (l.map Rq.r))])) w'):=fun w' hb=>by
      rw [HPO.out];exact AllPost.bad (by unfold allE;rw [if_pos e1]) e1 hb
    have q1 : (checkC (l.map Rq.r) != 0) = true:=by simpa using e1
    clear e1 Hat HBW hb1 hA k1 k2 j1
    generalize checkC (l.map Rq.r) = E at *
    have f2:=f_of (o:=0) j2
    have o2:=c1_of j2
    have s2:=heap_setCell_same W1 (w.heap.size + 1) 0 _ 24 (.slice none 0 0) j2
    have i0:=c1_of s2
    have HB : Hid (Below w.heap.size w (W1.setCell ⟨w.heap.size + 1,0,none⟩ (.slice none 0 0))):=hB1.setCell (by show w.heap.size ≤ w.heap.size + 1;omega) _
    clear j2 s2 hB1
    go_wp2
    refine bodyPost_ret (v:=.tuple #[.agg #[.slice none 0 0],.int .i64 0,.int .i64 E]) (by simp [results,Tryz.results31,go_sem,i0]) rfl ?_
    exact HF.out _ HB.out
  have HC : Hid (checkC (l.map Rq.r) = 0):=e1
  rw [e1]
  obtain ⟨c1,c2,_⟩:=checkC_iff.1 e1
  have HAT : Hid (at' = bestI (l.map Rq.r)):=(Hat.out e1).trans (best_map l)
  have hat3 : at' < 3:=by rw [HAT.out];exact bestI_lt c1
  have hl3 : l.length = 3:=by rw [List.length_map] at c1;exact c1
  have HER : Hid (∀ q ∈ l,q.r.err = 0):=fun q hq=>by
    obtain ⟨i,hi,rfl⟩:=List.mem_iff_getElem.1 hq
    have:=c2 i (by omega)
    rwa [show rOf (l.map Rq.r) i = l[i].r by simp [rOf,hi]] at this
  have y1:=c1_of j1
  have hc:=copyC_any a c l W1 (h.below hB1) (by omega) HER.out
  have HL3 : Hid (l.length = 3):=hl3
  clear e1 Hat hb1 c1 c2 hA k1 k2 HER hl3
  go_wp2_with fail
  refine hc.mono ?_
  clear hc y1
  rintro e W2 ⟨v,qs,rfl,hqs,QS,hb2⟩
  have hql : qs.length = 3:=by
    have:=congrArg List.length hqs
    rw [List.length_map,List.length_map,HL3.out] at this;exact this
  obtain ⟨B,cap,rfl,hcap⟩:=qs_slice QS hql
  have HQS : Hid (qs.map Rq.r = l.map Rq.r ∧ qs.length = 3):=⟨hqs,hql⟩
  have HCAP : Hid (3 ≤ cap ∧ cap ≤ 9223372036854775807):=hcap
  have hB2:=hB1.trans (hb2.mono hB1.size)
  have HB02 : Hid (Below W0.heap.size W0 W2):=HBW.out.trans (hb2.mono HBW.out.size)
  have j2':=(hb2.block _ (heap_lt j2)).trans j2
  have hs1:=HBW.out.size
  have hs2:=hb2.size
  have QS':=QS.from (z':=W0.heap.size) hs1
  have R0:=Rw.of_copy QS' hql q0 (.cells #[.slice (some ⟨B,0,none⟩) 3 cap,.int .i64 0] 127)
  have hA:=below_alloc W2 (.cells #[.slice (some ⟨B,0,none⟩) 3 cap,.int .i64 0] 127)
  have kL:=heap_alloc_new W2 (.cells #[.slice (some ⟨B,0,none⟩) 3 cap,.int .i64 0] 127)
  have j3:=(hA.block _ (heap_lt j2')).trans j2'
  have hB3:=hB2.trans (hA.mono hB2.size)
  have HB03 : Hid (Below W0.heap.size W0 (W2.alloc (.cells #[.slice (some ⟨B,0,none⟩) 3 cap,.int .i64 0] 127))):=HB02.out.trans (hA.mono HB02.out.size)
  have hBl:=(QS.own.lt B rfl).2
  have hW3 : (W2.alloc (.cells #[.slice (some ⟨B,0,none⟩) 3 cap,.int .i64 0] 127)).heap.size = W2.heap.size + 1:=by simp
  clear hcap hb2 hqs QS QS' j1 j2 j2' hB1 hB2 HBW hA HB02 hql
  obtain ⟨yL0,yL1⟩:=c2_of kL
  obtain ⟨Qf,hQf⟩ : ∃ Qf : Nat → Rq,Qf = (fun i=>qs.getD i q0):=⟨_,rfl⟩
  have HRq : Hid (∀ i,i < 3 → (Qf i).r = rOf (l.map Rq.r) i):=fun i hi=>by
    rw [hQf,← HQS.out.1];exact (rOf_map (by rw [HQS.out.2];exact hi)).symm
  rw [← hQf] at R0
  clear hQf HQS
  obtain ⟨x0,x1,x2,x3,x4,x5,x6⟩:=R0.row at' hat3
  rw [Nat.zero_add] at x0 x1 x2 x3 x4 x5 x6
  have hat3' : (at' : Int) < 3:=by omega
  have hN:=R0.each at' hat3
  go_upto_region 6 with fail
  clear x0 x1 x2 x3 x4 x5 x6 yL0 yL1
  generalize W2.alloc (.cells #[.slice (some ⟨B,0,none⟩) 3 cap,.int .i64 0] 127) = W3 at *
  have hA:=below_alloc W3 (Qf at').blk
  have kp:=heap_alloc_new W3 (Qf at').blk
  have R1:=R0.below hA
  have kL1:=(hA.block _ (heap_lt kL)).trans kL
  have j4:=(hA.block _ (heap_lt j3)).trans j3
  have hN1:=hN.below hA
  have hB4:=hB3.trans (hA.mono hB3.size)
  have HB04 : Hid (Below W0.heap.size W0 (W3.alloc (Qf at').blk)):=HB03.out.trans (hA.mono HB03.out.size)
  have HS3 : Hid (W3.heap.size = W2.heap.size + 1):=hW3
  obtain ⟨p,hp⟩ : ∃ p,p = W3.heap.size:=⟨_,rfl⟩
  have hpv : W2.heap.size + 1 = p:=by rw [hp];exact hW3.symm
  rw [← hp] at kp
  rw [hpv]
  obtain ⟨z0,z1,z2,z3,z4,z5,z6⟩:=c7_of kp
  have hpL : p ≠ W2.heap.size:=by omega
  have hpB : p ≠ B:=by omega
  obtain ⟨L,hL⟩ : ∃ L,L = W2.heap.size:=⟨_,rfl⟩
  have hz1:=HZ0.out
  have hLz : W0.heap.size ≤ W2.heap.size:=Nat.le_trans hs1 hs2
  have hm:=mend_any W0 W2.heap.size B 0 cap Qf (Qf at').r.g (Qf at') p _ (hg.below HB0.out) HB04.out hLz kL1 R1 kp hpL hpB hN1
  rw [← hL] at hm hpL hLz R1 kL1 ⊢
  clear hp hpv hL hW3 hA hB3 R0 kL hN
  go_wp2_with fail
  generalize W3.alloc (Qf at').blk = W4 at *
  refine hm.mono ?_
  clear hm
  rintro e W5 ⟨rfl,hb05,hs5,hk5,hok⟩
  have j5:=(hk5 (w.heap.size + 1) (by have:=heap_lt j4;omega) (by have:=R1.zb;omega) (by omega)).trans j4
  have hT : (Qf at').r = top (l.map Rq.r):=by
    show _ = rOf _ (bestI _)
    rw [HRq.out at' hat3,← HAT.out]
  have hmB : ∀ i,i < 3 → mdB (Qf i).r (Qf at').r.g = menB (l.map Rq.r) i:=fun i hi=>by
    unfold mdB menB;rw [HRq.out i hi,hT]
  have hmV : fstE (fun i=>mdV (Qf at').r (Qf i).r (Qf at').r.g) = allE (l.map Rq.r):=by
    unfold allE
    rw [if_neg (fun e=>e HC.out)]
    refine fstE_congr fun i hi=>?_
    unfold mdV menV
    rw [hmB i hi,hT,HRq.out i hi]
  have hmC : cntTo (fun i=>mdB (Qf i).r (Qf at').r.g) 3 = cntTo (menB (l.map Rq.r)) 3:=by
    simp only [cntTo]
    rw [hmB 0 (by omega),hmB 1 (by omega),hmB 2 (by omega)]
  have hmR : ∀ i,i < 3 → mdR (Qf at').r (Qf i).r (Qf at').r.g = menR (l.map Rq.r) i:=fun i hi=>by
    unfold mdR menR
    rw [hmB i hi,hT,HRq.out i hi]
  rw [hmV] at hok ⊢
  rw [hmC] at hok
  have hzb:=R1.zb
  clear hmV hmC hmB hT j4 z0 z1 z2 z3 z4 z5 z6 kp R1 kL1 hN1 HRq HAT
  have hBz:=HB0.out.trans (hb05.mono HB0.out.size)
  by_cases e5 : allE (l.map Rq.r) = 0
  case neg =>
    have HF : Hid (∀ w',Below w.heap.size w w' → PO (.returned (.tuple #[.agg #[.slice none 0 0],.int .i64 0,.int .i64 (allE (l.map Rq.r))])) w'):=fun w' hb=>by
      rw [HPO.out];exact AllPost.bad rfl e5 hb
    have q1 : (allE (l.map Rq.r) != 0) = true:=by simpa using e5
    clear e5 hok
    generalize allE (l.map Rq.r) = E at *
    have f2:=f_of (o:=0) j5
    have o2:=c1_of j5
    have s2:=heap_setCell_same W5 (w.heap.size + 1) 0 _ 24 (.slice none 0 0) j5
    have i0:=c1_of s2
    have HB : Hid (Below w.heap.size w (W5.setCell ⟨w.heap.size + 1,0,none⟩ (.slice none 0 0))):=hBz.setCell (by show w.heap.size ≤ w.heap.size + 1;omega) _
    clear j5 s2 hBz hk5 hb05
    go_wp2
    refine bodyPost_ret (v:=.tuple #[.agg #[.slice none 0 0],.int .i64 0,.int .i64 E]) (by simp [results,Tryz.results31,go_sem,i0]) rfl ?_
    exact HF.out _ HB.out
  obtain ⟨Q',hL',hR',hq'⟩:=hok e5
  have HE : Hid (allE (l.map Rq.r) = 0):=e5
  rw [e5]
  clear e5 hok hk5
  obtain ⟨v0,v1⟩:=c2_of hL'
  have f2:=f_of (o:=0) j5
  have o2:=c1_of j5
  have n1 : L ≠ w.heap.size + 1:=by omega
  have n2 : w.heap.size + 1 ≠ L:=by omega
  have d0 : W5.drew.cell? ⟨L,0,none⟩ = some (.slice (some ⟨B,0,none⟩) 3 cap):=v0
  have d1 : W5.drew.cell? ⟨L,1,none⟩ = some (.int .i64 ((cntTo (menB (l.map Rq.r)) 3 : Nat) : Int)):=v1
  have d2 : W5.drew.cell? ⟨w.heap.size + 1,0,none⟩ = some (.slice none 0 0):=o2
  have d3 : W5.drew.frozen? ⟨w.heap.size + 1,0,none⟩ = false:=f2
  have s2:=heap_setCell_same W5 (w.heap.size + 1) 0 _ 24 (.slice (some ⟨B,0,none⟩) 3 cap) j5
  have i0 : (W5.setCell ⟨w.heap.size + 1,0,none⟩ (.slice (some ⟨B,0,none⟩) 3 cap)).drew.cell? ⟨w.heap.size + 1,0,none⟩ = some (.slice (some ⟨B,0,none⟩) 3 cap):=c1_of s2
  have hR2:=(hR'.low (w.heap.size + 1) 0 (.slice (some ⟨B,0,none⟩) 3 cap) (by omega)).below (below_refl_drew _)
  have HB : Below w.heap.size w (W5.setCell ⟨w.heap.size + 1,0,none⟩ (.slice (some ⟨B,0,none⟩) 3 cap)).drew:=(hBz.setCell (by show w.heap.size ≤ w.heap.size + 1;omega) _).drew
  have HF : Hid (PO (.returned (.tuple #[.agg #[.slice (some ⟨B,0,none⟩) 3 cap],.int .i64 ((cntTo (menB (l.map Rq.r)) 3 : Nat) : Int),.int .i64 0])) (W5.setCell ⟨w.heap.size + 1,0,none⟩ (.slice (some ⟨B,0,none⟩) 3 cap)).drew):=by
    unfold Hid
    rw [HPO.out]
    refine ⟨HB,.inr ⟨HE.out,B,cap,[Q' 0,Q' 1,Q' 2],rfl,?_,hR2.dep.widen (by omega),HCAP.out.1,HCAP.out.2⟩⟩
    show [(Q' 0).r,(Q' 1).r,(Q' 2).r] = [menR _ 0,menR _ 1,menR _ 2]
    rw [hq' 0 (by omega),hq' 1 (by omega),hq' 2 (by omega),hmR 0 (by omega),hmR 1 (by omega),hmR 2 (by omega)]
  clear hR2 HB s2 hBz hR' hq' hmR hL' j5 hb05 hs5
  generalize ((cntTo (menB (l.map Rq.r)) 3 : Nat) : Int) = cn at *
  go_wp2_with fail
  go_region
  generalize (W5.setCell ⟨w.heap.size + 1,0,none⟩ (.slice (some ⟨B,0,none⟩) 3 cap)).drew = W6 at *
  go_wp2
  refine bodyPost_ret (v:=.tuple #[.agg #[.slice (some ⟨B,0,none⟩) 3 cap],.int .i64 cn,.int .i64 0]) (by simp [results,Tryz.results31,go_sem,i0]) rfl ?_
  exact HF.out
end
end Go.Proofs.YtehmlpkapjdhkaaGreatDoor
