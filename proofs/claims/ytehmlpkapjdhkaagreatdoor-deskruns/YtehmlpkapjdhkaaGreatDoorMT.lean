import Derived.Test.YtehmlpkapjdhkaaGreatDoorMX
namespace Go.Proofs.YtehmlpkapjdhkaaGreatDoor
set_option maxHeartbeats 16000000
open Go.RowKit
set_option maxRecDepth 100000
theorem LB(w:World)(q t:Nat)(x0:Value){y0 y1 y2 y3 y4 y5 y6:Value}(h:w.heap[q]? =some (.cells #[y0,y1,y2,y3,y4,y5,y6] t)):
  (((((w.setCell ⟨q,0,none⟩ x0).setCell ⟨q,3,none⟩ (.int .i64 0)).setCell ⟨q,4,none⟩ (.slice none 0 0)).setCell ⟨q,5,none⟩ (.slice none 0 0)).setCell ⟨q,6,none⟩ (.bool false)).heap[q]? =some (.cells #[x0,y1,y2,.int .i64 0,.slice none 0 0,.slice none 0 0,.bool false] t)∧
  Below q w (((((w.setCell ⟨q,0,none⟩ x0).setCell ⟨q,3,none⟩ (.int .i64 0)).setCell ⟨q,4,none⟩ (.slice none 0 0)).setCell ⟨q,5,none⟩ (.slice none 0 0)).setCell ⟨q,6,none⟩ (.bool false))∧
   ∀k,k≠q→(((((w.setCell ⟨q,0,none⟩ x0).setCell ⟨q,3,none⟩ (.int .i64 0)).setCell ⟨q,4,none⟩ (.slice none 0 0)).setCell ⟨q,5,none⟩ (.slice none 0 0)).setCell ⟨q,6,none⟩ (.bool false)).heap[k]? =w.heap[k]?:=by
 have h1:=heap_setCell_same w q 0 _ t x0 h
 have h2:=heap_setCell_same _ q 3 _ t (.int .i64 0) h1
 have h3:=heap_setCell_same _ q 4 _ t (.slice none 0 0) h2
 have h4:=heap_setCell_same _ q 5 _ t (.slice none 0 0) h3
 have h5:=heap_setCell_same _ q 6 _ t (.bool false) h4
 refine⟨by simpa using h5,(((((Below.refl q w).setCell (Nat.le_refl _) _).setCell (Nat.le_refl _) _).setCell (Nat.le_refl _) _).setCell (Nat.le_refl _) _).setCell (Nat.le_refl _) _,fun k hk=>?_⟩
 rw[heap_setCell_other _ ⟨q,6,none⟩ k _ hk,heap_setCell_other _ ⟨q,5,none⟩ k _ hk,heap_setCell_other _ ⟨q,4,none⟩ k _ hk,heap_setCell_other _ ⟨q,3,none⟩ k _ hk,heap_setCell_other _ ⟨q,0,none⟩ k _ hk]
abbrev jq(n r:Rp)(w:World):Ending→World→Prop:=yA (uZ n r) (uW n r).s n.l n.g 0 [] [] false w
theorem PZ(n r:Rp):uZ n r=if tx n r≠0 then tx n r else nW n.s r.s:=by
 unfold uZ tx
 by_cases h1:n.err=0
 ·by_cases h2:r.err=0
  ·by_cases h3:n.g<r.g
   ·simp[h1,h2,h3]
   ·simp[h1,h2,h3]
  ·simp[h1,h2]
 ·simp[h1]
theorem ND(n r:Rq)(w:World)(hg:xr w)(hn:n.H w)(hr:r.H w):Calls Tryz.prog 25 #[n.val,r.val] w (jq n.r r.r w):=by
 obtain⟨PO,xY⟩: ∃P:Ending→World→Prop,Hid (P=jq n.r r.r w):=⟨_,rfl⟩
 rw[←xY.out]
 obtain⟨xa,xy,tv,hB⟩:=xN w n.blk r.blk zo
 obtain⟨y0,y1,y2,y3,y4,y5,y6⟩:=zI xa
 obtain⟨x0,x1,x2,x3,x4,x5,x6⟩:=zI xy
 have hc:=TR n r _ (hg.below hB) (hn.below hB) (hr.below hB)
 have bn:Hid (w.heap.size+2<(((w.alloc n.blk).alloc r.blk).alloc zo).heap.size):=zG tv
 have HE:Hid (uZ n.r r.r=if tx n.r r.r≠0 then tx n.r r.r else nW n.r.s r.r.s):=PZ _ _
 go_enter Tryz.func25,Tryz.ntmps25
 go_wp2_with fail
 generalize (((w.alloc n.blk).alloc r.blk).alloc zo)=W0 at *
 refine hc.mono ?_
 clear hc
 rintro e W1 ⟨rfl,zM⟩
 have zT:=bt hB zM
 have k1:=zA5 zM xa
 have k2:=zA5 zM xy
 have k3:=zA5 zM tv
 have HZ1:Hid (w.heap.size+2<W1.heap.size):=zG k3
 clear y0 y1 y2 y3 y4 y5 y6 x0 x1 x2 x3 x4 x5 x6 xa xy tv hB zM bn
 by_cases e1:tx n.r r.r=0
 case neg=>
  have HF:Hid (∀w',Below w.heap.size w w'→PO (.returned (.tuple #[yx,.int .i64 (tx n.r r.r)])) w'):=fun w' hb=>by
   rw[xY.out];exact yA.bad (by rw[HE.out,if_pos e1]) e1 hb
  have q1:(tx n.r r.r != 0)=true:=by simpa using e1
  clear e1 HE
  generalize tx n.r r.r=E at *
  have xQ:=y9 W1 (w.heap.size+2) 36 (.slice none 0 0) (.slice none 0 0) (.int .i64 0) (.int .i64 0) (.slice none 0 0) (.slice none 0 0) (.bool false) k3
  obtain⟨o0,o1,o2,o3,o4,o5,o6⟩:=zI k3
  have pi:=zF (o:=0) k3
  have nG:=zF (o:=1) k3
  have pX:=zF (o:=2) k3
  have pc:=zF (o:=3) k3
  have pg:=zF (o:=4) k3
  have pp:=zF (o:=5) k3
  have nF:=zF (o:=6) k3
  obtain⟨i0,i1,i2,i3,i4,i5,i6⟩:=zI ((zA5 xQ k3))
  have HB:Hid (Below w.heap.size w _):=bt zT xQ
  clear k1 k2 k3 zT xQ
  go_wp2
  refine bodyPost_ret (v:=.tuple #[yx,.int .i64 E]) (by simp[results,Tryz.results25,go_sem,i0,i1,i2,i3,i4,i5,i6]) rfl ?_
  exact HF.out _ HB.out
 have qP:Hid (uZ n.r r.r=nW n.r.s r.r.s):=by unfold Hid;rw[HE.out,if_neg (fun e=>e e1)]
 rw[e1]
 obtain⟨HC1,Qz⟩:n.r.err=0∧r.r.err=0:=by
  unfold tx at e1
  split at e1
  ·rename_i c;exact absurd e1 c
  ·rename_i c
   split at e1
   ·rename_i c2;exact absurd e1 c2
   ·rename_i c2;exact⟨Classical.byContradiction c,Classical.byContradiction c2⟩
 have HC:Hid (n.r.err=0):=HC1
 clear e1 HE HC1 Qz
 obtain⟨y0,y1,y2,y3,y4,y5,y6⟩:=zI k1
 obtain⟨x0,x1,x2,x3,x4,x5,x6⟩:=zI k2
 have PQ:=hn.below zT
 have bg:=hr.below zT
 have hc:=Y1 n.aS n.cs n.r.s r.aS r.cs r.r.s W1 PQ.hs PQ.ns bg.hs bg.ns
 clear bg
 go_wp2_with fail
 refine hc.mono ?_
 clear hc
 rintro e W2 ⟨zZ,⟨yM,rfl⟩|⟨hz,v,rs,rfl,tM,O2⟩⟩
 ·have zj:=bt zT zZ
  have Ve:=zA5 zZ k3
  have HF:Hid (∀w',Below w.heap.size w w'→PO (.returned (.tuple #[yx,.int .i64 (nW n.r.s r.r.s)])) w'):=fun w' hb=>by
   rw[xY.out];exact yA.bad qP.out yM hb
  have q1:(nW n.r.s r.r.s != 0)=true:=by simpa using yM
  clear yM qP zZ k1 k2 k3 zT y0 y1 y2 y3 y4 y5 y6 x0 x1 x2 x3 x4 x5 x6 PQ
  generalize nW n.r.s r.r.s=E at *
  have xQ:=y9 W2 (w.heap.size+2) 36 (.slice none 0 0) (.slice none 0 0) (.int .i64 0) (.int .i64 0) (.slice none 0 0) (.slice none 0 0) (.bool false) Ve
  obtain⟨o0,o1,o2,o3,o4,o5,o6⟩:=zI Ve
  have pi:=zF (o:=0) Ve
  have nG:=zF (o:=1) Ve
  have pX:=zF (o:=2) Ve
  have pc:=zF (o:=3) Ve
  have pg:=zF (o:=4) Ve
  have pp:=zF (o:=5) Ve
  have nF:=zF (o:=6) Ve
  obtain⟨i0,i1,i2,i3,i4,i5,i6⟩:=zI ((xQ.block _ (zG Ve)).trans Ve)
  have HB:Hid (Below w.heap.size w _):=bt zj xQ
  clear Ve zj xQ
  go_wp2
  refine bodyPost_ret (v:=.tuple #[yx,.int .i64 E]) (by simp[results,Tryz.results25,go_sem,i0,i1,i2,i3,i4,i5,i6]) rfl ?_
  exact HF.out _ HB.out
 ·have zj:=bt zT zZ
  have j1:=zA5 zZ k1
  have j3:=zA5 zZ k3
  obtain⟨b0,d0,rfl⟩:=qA tM O2
  have nb:Hid (uZ n.r r.r=0):=qP.out.trans hz
  have mx:=zZ.size
  have GT:=PQ.below zZ
  obtain⟨s1,s2,s3,s4,s5,s6⟩:=rc HC.out
  clear zZ k1 k2 k3 y0 y1 y2 y3 y4 y5 y6 x0 x1 x2 x3 x4 x5 x6 PQ zT qP hz
  obtain⟨y0,y1,y2,y3,y4,y5,y6⟩:=zI j1
  have hc:=tO n.aS n.cs n.r.s n.al n.cl n.r.l n.r.g n.r.ph n.a1 n.c1 n.r.m n.a2 n.c2 n.r.us n.r.f W2 GT.hs (by omega) s2 GT.hl (by omega) GT.hm (by omega) s5 GT.hu (by omega)
  go_wp2_with fail
  refine hc.mono ?_
  clear hc
  rintro e W3 ⟨t0,u0,b1,d1,t2,u2,t3,u3,rfl,F3,yT⟩
  have xL:=bt zj yT
  have j3':=zA5 yT j3
  have dJ:=yT.size
  have HKb:Hid (∀k,k<W2.heap.size→W3.heap[k]? =W2.heap[k]?):=fun k hk=>yT.block k hk
  obtain⟨S',hS⟩: ∃S',S'=zH r.r.s (yH n.r.s r.r.s):=⟨_,rfl⟩
  have HS:Hid (S'=(uW n.r r.r).s):=hS
  rw[←hS]at tM O2⊢
  have zG7:S'.length≤40:=by
   rw[hS]
   exact(yF (cL nb.out)).1
  clear hS yT j1 j3 y0 y1 y2 y3 y4 y5 y6 GT zj
  have hA:=zB W3 (vG t0 n.r.s.length u0 b1 n.r.l.length d1 n.r.g n.r.ph t2 n.r.m.length u2 t3 n.r.us.length u3 n.r.f 36)
  have k9:=heap_alloc_new W3 (vG t0 n.r.s.length u0 b1 n.r.l.length d1 n.r.g n.r.ph t2 n.r.m.length u2 t3 n.r.us.length u3 n.r.f 36)
  have k3:=(hA.block _ (zG j3')).trans j3'
  have xZ:=bt xL hA
  have Rg:(W3.alloc (vG t0 n.r.s.length u0 b1 n.r.l.length d1 n.r.g n.r.ph t2 n.r.m.length u2 t3 n.r.us.length u3 n.r.f 36)).heap.size=W3.heap.size+1:=by simp
  have HA:Hid (∀k,k<W3.heap.size→(W3.alloc (vG t0 n.r.s.length u0 b1 n.r.l.length d1 n.r.g n.r.ph t2 n.r.m.length u2 t3 n.r.us.length u3 n.r.f 36)).heap[k]? =W3.heap[k]?):=fun k hk=>hA.block k hk
  have AW:Hid (w.heap.size+2<W3.heap.size):=zG j3'
  clear hA j3'
  go_upto_region 8 with fail
  generalize W3.alloc (vG t0 n.r.s.length u0 b1 n.r.l.length d1 n.r.g n.r.ph t2 n.r.m.length u2 t3 n.r.us.length u3 n.r.f 36)=W4 at *
  have Da:=AW.out
  obtain⟨y0,y1,y2,y3,y4,y5,y6⟩:=zI k9
  have f0:=zF (o:=0) k9
  have f3:=zF (o:=3) k9
  have f4:=zF (o:=4) k9
  have f5:=zF (o:=5) k9
  have f6:=zF (o:=6) k9
  obtain⟨p1,p2,p3⟩:=LB W4 W3.heap.size 36 (.slice b0 S'.length d0) k9
  have m3:=(p3 (w.heap.size+2) (by omega)).trans k3
  obtain⟨q1,q2,q3⟩:=yQ (((((W4.setCell ⟨W3.heap.size,0,none⟩ (.slice b0 S'.length d0)).setCell ⟨W3.heap.size,3,none⟩ (.int .i64 0)).setCell ⟨W3.heap.size,4,none⟩ (.slice none 0 0)).setCell ⟨W3.heap.size,5,none⟩ (.slice none 0 0)).setCell ⟨W3.heap.size,6,none⟩ (.bool false)) (w.heap.size+2) 36 (.slice b0 S'.length d0) (.slice b1 n.r.l.length d1) (.int .i64 n.r.g) (.int .i64 0) (.slice none 0 0) (.slice none 0 0) (.bool false) m3
  obtain⟨x0,x1,x2,x3,x4,x5,x6⟩:=zI p1
  obtain⟨o0,o1,o2,o3,o4,o5,o6⟩:=zI m3
  have pi:=zF (o:=0) m3
  have nG:=zF (o:=1) m3
  have pX:=zF (o:=2) m3
  have pc:=zF (o:=3) m3
  have pg:=zF (o:=4) m3
  have pp:=zF (o:=5) m3
  have nF:=zF (o:=6) m3
  obtain⟨i0,i1,i2,i3,i4,i5,i6⟩:=zI q1
  have Y6:=p2.size
  have Gm:=q2.size
  have YG:=HZ1.out
  have HW:Hid (∀k,k≠w.heap.size+2→k<W3.heap.size→(((((((((((((W4.setCell ⟨W3.heap.size,0,none⟩ (.slice b0 S'.length d0)).setCell ⟨W3.heap.size,3,none⟩ (.int .i64 0)).setCell ⟨W3.heap.size,4,none⟩ (.slice none 0 0)).setCell ⟨W3.heap.size,5,none⟩ (.slice none 0 0)).setCell ⟨W3.heap.size,6,none⟩ (.bool false))).setCell ⟨w.heap.size+2,0,none⟩ (.slice b0 S'.length d0)).setCell ⟨w.heap.size+2,1,none⟩ (.slice b1 n.r.l.length d1)).setCell ⟨w.heap.size+2,2,none⟩ (.int .i64 n.r.g)).setCell ⟨w.heap.size+2,3,none⟩ (.int .i64 0)).setCell ⟨w.heap.size+2,4,none⟩ (.slice none 0 0)).setCell ⟨w.heap.size+2,5,none⟩ (.slice none 0 0)).setCell ⟨w.heap.size+2,6,none⟩ (.bool false)).heap[k]? =W3.heap[k]?):=fun k h1 h2=>
   (q3 k h1).trans ((p3 k (by omega)).trans (HA.out k h2))
  have hO:=O2.kept (Nat.le_trans dJ (by omega)) (fun k h1 h2=>(HW.out k (by omega) (by omega)).trans (HKb.out k h2))
  have hR:=yi F3.refs (fun g hg=>HW.out g (by have:=(F3.refs.lt g hg).1;omega) (F3.refs.lt g hg).2)
  have CY:vM _ w.heap.size S' n.r.l [] [] b0 d0 b1 d1 none 0 none 0:=⟨⟨rs,tM,hO.from (by omega)⟩,vX hR (by omega),vN.nil _ _⟩
  have AQ:n7 _ w.heap.size b0 d0 S' b1 d1 n.r.l none 0 [] none 0 []:=⟨⟨CY.holds.1,CY.holds.2.1,CY.holds.2.2.1,CY.holds.2.2.2,by omega,by omega,by simp,by simp⟩,CY⟩
  have HF:Hid (PO (.returned (.tuple #[RV b0 d0 S' b1 d1 n.r.l n.r.g 0 none 0 [] none 0 [] false,.int .i64 0])) ((((((((((((((W4.setCell ⟨W3.heap.size,0,none⟩ (.slice b0 S'.length d0)).setCell ⟨W3.heap.size,3,none⟩ (.int .i64 0)).setCell ⟨W3.heap.size,4,none⟩ (.slice none 0 0)).setCell ⟨W3.heap.size,5,none⟩ (.slice none 0 0)).setCell ⟨W3.heap.size,6,none⟩ (.bool false))).setCell ⟨w.heap.size+2,0,none⟩ (.slice b0 S'.length d0)).setCell ⟨w.heap.size+2,1,none⟩ (.slice b1 n.r.l.length d1)).setCell ⟨w.heap.size+2,2,none⟩ (.int .i64 n.r.g)).setCell ⟨w.heap.size+2,3,none⟩ (.int .i64 0)).setCell ⟨w.heap.size+2,4,none⟩ (.slice none 0 0)).setCell ⟨w.heap.size+2,5,none⟩ (.slice none 0 0)).setCell ⟨w.heap.size+2,6,none⟩ (.bool false)))):=by
   unfold Hid
   rw[xY.out]
   refine⟨xZ.trans ((p2.mono (by omega)).trans (q2.mono (by omega))),.inr ⟨nb.out,b0,d0,b1,d1,none,0,none,0,?_,?_⟩⟩
   ·rw[←HS.out]
   ·rw[←HS.out];exact AQ
  clear HW hO hR CY AQ q1 q2 q3 p1 p2 p3 m3 k3 k9 HA xZ xL Y6 Gm Rg dJ mx YG zG7 O2 F3 tM Da AW HKb
  go_wp2
  refine bodyPost_ret (v:=.tuple #[RV b0 d0 S' b1 d1 n.r.l n.r.g 0 none 0 [] none 0 [] false,.int .i64 0]) (by simp[results,Tryz.results25,go_sem,i0,i1,i2,i3,i4,i5,i6]) rfl ?_
  exact HF.out
structure Rw(w:World)(z L B off:Nat)(Q:Nat→Rq):Prop where
 hB: ∃cur,w.heap[B]? =some (.cells cur 36)
 zb:z≤B
 ne:L≠B
 row: ∀i,i<3→bY w B (off+i*7) (Q i)
 each: ∀i,i<3→rQ w z (fun k=>k=B∨k=L) (Q i)
theorem Rw.ltB{w:World}{z L B off:Nat}{Q:Nat→Rq}(h:Rw w z L B off Q):B<w.heap.size:=by
 obtain⟨c,q⟩:=h.hB;exact zG q
theorem Rw.below{w w':World}{z L B off:Nat}{Q:Nat→Rq}(h:Rw w z L B off Q)(hb:Below w.heap.size w w'):Rw w' z L B off Q:=by
 obtain⟨c2,q2⟩:=h.hB
 exact⟨⟨c2,(hb.block _ h.ltB).trans q2⟩,h.zb,h.ne,fun i hi=>(h.row i hi).block (hb.block B h.ltB),fun i hi=>(h.each i hi).below hb⟩
theorem Rw.box{w:World}{z L B off:Nat}{Q:Nat→Rq}(h:Rw w z L B off Q)(o:Nat)(v:Value):Rw (w.setCell ⟨L,o,none⟩ v) z L B off Q:=
 ⟨xd _ h.hB,h.zb,h.ne,fun i hi=>(h.row i hi).block (heap_setCell_other w ⟨L,o,none⟩ B _ (fun e=>h.ne e.symm)),fun i hi=>(h.each i hi).next (MA w z L o _ _ (.inr rfl)) (fun _ _ e=>e)⟩
theorem Rw.low{w:World}{z L B off:Nat}{Q:Nat→Rq}(h:Rw w z L B off Q)(p o:Nat)(v:Value)(hp:p<z):Rw (w.setCell ⟨p,o,none⟩ v) z L B off Q:=by
 have hl:kI z (fun k=>k=B∨k=L) w (w.setCell ⟨p,o,none⟩ v):=⟨yX _ _ _,fun k h1 _ _=>heap_setCell_other w ⟨p,o,none⟩ k v (by show k≠p;omega)⟩
 exact⟨xd _ h.hB,h.zb,h.ne,fun i hi=>(h.row i hi).block (heap_setCell_other w ⟨p,o,none⟩ B _ (by have:=h.zb;show B≠p;omega)),fun i hi=>(h.each i hi).next hl (fun _ _ e=>e)⟩
theorem Rw.row_set{w:World}{z L B off k:Nat}{Q:Nat→Rq}(h:Rw w z L B off Q)(hk:k<3)(q:Rq)(hq:rQ w z (fun k=>k=B∨k=L) q):
  Rw (xJ w B (off+k*7) (.slice q.aS q.r.s.length q.cs) (.slice q.al q.r.l.length q.cl) (.int .i64 q.r.g) (.int .i64 q.r.ph) (.slice q.a1 q.r.m.length q.c1) (.slice q.a2 q.r.us.length q.c2) (.bool q.r.f)) z L B off (jf Q k q):=by
 have hl:=ZG w z B (off+k*7) (.slice q.aS q.r.s.length q.cs) (.slice q.al q.r.l.length q.cl) (.int .i64 q.r.g) (.int .i64 q.r.ph) (.slice q.a1 q.r.m.length q.c1) (.slice q.a2 q.r.us.length q.c2) (.bool q.r.f) (fun k=>k=B∨k=L) (.inl rfl)
 refine⟨?_,h.zb,h.ne,fun i hi=>?_,fun i hi=>?_⟩
 ·unfold xJ
  exact xd _ (xd _ (xd _ (xd _ (xd _ (xd _ (xd _ h.hB))))))
 ·by_cases e:i=k
  ·subst e;rw[tr];exact SU (h.row i hi) q
  ·rw[vQ _ _ e]
   obtain⟨h0,h1,h2,h3,h4,h5,h6⟩:=h.row i hi
   constructor
   ·rw[vT _ _ _ _ _ _ _ _ _ _ _ (by omega)];exact h0
   ·rw[vT _ _ _ _ _ _ _ _ _ _ _ (by omega)];exact h1
   ·rw[vT _ _ _ _ _ _ _ _ _ _ _ (by omega)];exact h2
   ·rw[vT _ _ _ _ _ _ _ _ _ _ _ (by omega)];exact h3
   ·rw[vT _ _ _ _ _ _ _ _ _ _ _ (by omega)];exact h4
   ·rw[vT _ _ _ _ _ _ _ _ _ _ _ (by omega)];exact h5
   ·rw[vT _ _ _ _ _ _ _ _ _ _ _ (by omega)];exact h6
 ·by_cases e:i=k
  ·subst e;rw[tr];exact hq.next hl (fun _ _ e=>e)
  ·rw[vQ _ _ e];exact(h.each i hi).next hl (fun _ _ e=>e)
theorem Rw.holds{w:World}{z L B:Nat}{Q:Nat→Rq}(h:Rw w z L B 0 Q):zy w (some ⟨B,0,none⟩) [Q 0,Q 1,Q 2]:=by
 intro i hi
 refine⟨B,0,rfl,h.ltB,fun j hj=>?_⟩
 have j8:j=0∨j=1∨j=2:=by simp at hj;omega
 rcases j8 with rfl|rfl|rfl
 ·exact⟨h.row 0 (by omega),(h.each 0 (by omega)).self⟩
 ·exact⟨h.row 1 (by omega),(h.each 1 (by omega)).self⟩
 ·exact⟨h.row 2 (by omega),(h.each 2 (by omega)).self⟩
theorem Rw.dep{w:World}{z L B:Nat}{Q:Nat→Rq}(h:Rw w z L B 0 Q):mv w z w.heap.size (fun W=>zy W (some ⟨B,0,none⟩) [Q 0,Q 1,Q 2]):=
 ⟨Nat.le_refl _,fun w' hs hk=>by
  have hB:=(hk B h.zb h.ltB)
  have hl:kI z (fun k=>k=B∨k=L) w w':=⟨hs,fun k q1 q2 _=>hk k q1 q2⟩
  intro i hi
  refine⟨B,0,rfl,Nat.lt_of_lt_of_le h.ltB hs,fun j hj=>?_⟩
  have j8:j=0∨j=1∨j=2:=by simp at hj;omega
  rcases j8 with rfl|rfl|rfl
  ·exact⟨(h.row 0 (by omega)).block hB,h.each 0 (by omega) w' hl⟩
  ·exact⟨(h.row 1 (by omega)).block hB,h.each 1 (by omega) w' hl⟩
  ·exact⟨(h.row 2 (by omega)).block hB,h.each 2 (by omega) w' hl⟩⟩
theorem Rw.of_copy{w:World}{z B cap:Nat}{qs:List Rq}(h:Qs w z (.slice (some ⟨B,0,none⟩) 3 cap) qs)(hl:qs.length=3)(d:Rq)(o:Obj):
  Rw (w.alloc o) z w.heap.size B 0 (fun i=>qs.getD i d):=by
 have hA:=zB w o
 have zN:=h.own.lt B rfl
 have rg:=h.own.cells (g:=B) rfl
 have vd: ∀j,(⟨B,0,none⟩:Addr).add j=⟨B,0+j,none⟩:=fun j=>by unfold Addr.add;split<;>simp_all
 have Lf: ∀i,i<3→bY w B (0+i*7) (qs.getD i d):=by
  intro i hi
  have TS:i<qs.length:=by omega
  have e:qs.getD i d=qs[i]:=by simp[TS]
  rw[e]
  have hr: ∀j u,j<7→(qs[i].cells)[j]? =some u→w.cell? ⟨B,0+i*7+j,none⟩=some u:=by
   intro j u hj hu
   have:=rg (i*7+j) u (by rw[pK qs i j TS hj];exact hu)
   rw[vd]at this
   rw[show 0+i*7+j=0+(i*7+j) by omega];exact this
  exact⟨hr 0 _ (by omega) rfl,hr 1 _ (by omega) rfl,hr 2 _ (by omega) rfl,hr 3 _ (by omega) rfl,hr 4 _ (by omega) rfl,hr 5 _ (by omega) rfl,hr 6 _ (by omega) rfl⟩
 refine⟨?_,zN.1,by omega,fun i hi=>(Lf i hi).block (hA.block B zN.2),?_⟩
 ·rcases h.own.2 with⟨e,_⟩|⟨g,c2,cur,e,_,hg,_⟩
  ·cases e
  ·have PV:some g=some B:=by have:=congrArg Value.ownBlock e;simpa[Value.ownBlock]using this.symm
   cases PV
   exact⟨cur,(hA.block _ zN.2).trans hg⟩
 ·intro i hi
  have hm:qs.getD i d∈qs:=by
   have TS:i<qs.length:=by omega
   have e:qs.getD i d=qs[i]:=by simp[TS]
   rw[e];exact List.getElem_mem _
  refine(h.each _ hm).next (kI.of_below hA) (fun j hj e=>?_)
  rcases e with rfl|rfl
  ·rfl
  ·exact absurd hj (Nat.lt_irrefl _)
theorem dI(l:List Rq):za (yu l) l.length=vp (l.map Rq.r):=by
 unfold vp Mu
 rw[List.map_map,List.length_map];rfl
theorem MZ{w:World}{z:Nat}{v:Value}{qs:List Rq}(h:Qs w z v qs)(hl:qs.length=3): ∃B cap,v= .slice (some ⟨B,0,none⟩) 3 cap∧3≤cap∧cap≤9223372036854775807:=by
 rcases h.own.2 with⟨_,e⟩|⟨g,cap,cur,e,_,_,h1,h2,_⟩
 ·omega
 ·unfold maxLen at h2
  exact⟨g,cap,by rw[e,hl],by omega,by omega⟩
theorem Ui{w:World}{z:Nat}:vN w z [] [] none 0 none 0:=⟨⟨[],rfl,⟨World.ownsRow_nil _ _ _ _,fun r hr=>by cases hr⟩⟩,World.ownsRow_nil _ _ _ _⟩
theorem V7(p:Nat)(aS:Option Addr)(ns cs:Nat)(al:Option Addr)(nl cl:Nat)(g ph:Int)(a1:Option Addr)(n1 c1:Nat)(a2:Option Addr)(n2 c2:Nat)(f:Bool)(w:World)(hk:w.heap[p]? =some (vG aS ns cs al nl cl g ph a1 n1 c1 a2 n2 c2 f 200)):
  Calls Tryz.prog 206 #[.pointer (some ⟨p,0,none⟩)] w fun e w'=>e= .returned (.int .i64 0)∧w'.heap[p]? =some (vG aS ns cs al nl cl g 0 none 0 0 none 0 0 false 200)∧Below p w w'∧∀k,k≠p→w'.heap[k]? =w.heap[k]?:=by
 go_enter Tryz.func206,Tryz.ntmps206
 go_wp2_with fail
 refine(el p aS ns cs al nl cl g ph a1 n1 c1 a2 n2 c2 f w hk).mono ?_
 rintro e w1 ⟨rfl,h1,h2,h3⟩
 have HS:Hid (_∧_∧_):=⟨h1,h2,h3⟩
 clear h1 h2 h3 hk
 go_wp2
 go_ret
 exact⟨rfl,HS.out.1,HS.out.2.1,HS.out.2.2⟩
theorem Yb(aS:Option Addr)(cs:Nat)(s:List Ob)(al:Option Addr)(cl:Nat)(l:List Rf)(g ph:Int)(a1:Option Addr)(c1:Nat)(m:List Ob)(a2:Option Addr)(c2:Nat)(us:List Up)(f:Bool)(w:World)(hg:xr w)(H:sJ w aS s al l a1 m a2 us):
  Calls Tryz.prog 159 #[RV aS cs s al cl l g ph a1 c1 m a2 c2 us f,.int .i64 ph,.func (.func 206) #[] #[]] w (yA (xA s l g ph m us f) s l g 0 [] [] false w):=by
 have hB:=zV w (RB aS cs s al cl l g ph a1 c1 m a2 c2 us f) zo
 obtain⟨xa,xy⟩:=ye w (RB aS cs s al cl l g ph a1 c1 m a2 c2 us f) zo
 obtain⟨y0,y1,y2,y3,y4,y5,y6⟩:=zI xa
 have nL:=vv aS cs s al cl l g ph a1 c1 m a2 c2 us f _ (hg.below hB) (H.below hB)
 have Hz:Hid (w.heap.size+2≤((w.alloc (RB aS cs s al cl l g ph a1 c1 m a2 c2 us f)).alloc zo).heap.size):=by unfold Hid;simp
 have HE:Hid (∀r,xA s l g ph m us f=r↔xA s l g ph m us f=r):=fun _=>Iff.rfl
 go_enter Tryz.func159,Tryz.ntmps159
 go_wp2_with fail
 generalize (w.alloc (RB aS cs s al cl l g ph a1 c1 m a2 c2 us f)).alloc zo=W0 at *
 refine nL.mono ?_
 clear nL
 rintro e W1 ⟨rfl,zM⟩
 have zT:=bt hB zM
 have k1:=zA5 zM xa
 have yN:=zA5 zM xy
 have XE:Hid (w.heap.size+2≤W1.heap.size):=Nat.le_trans Hz.out zM.size
 clear zM hB xa xy y0 y1 y2 y3 y4 y5 y6
 by_cases c1:xA s l g ph m us f=0
 case neg=>
  have xQ:=y9 W1 (w.heap.size+1) 36 (.slice none 0 0) (.slice none 0 0) (.int .i64 0) (.int .i64 0) (.slice none 0 0) (.slice none 0 0) (.bool false) yN
  obtain⟨o0,o1,o2,o3,o4,o5,o6⟩:=zI yN
  have pi:=zF (o:=0) yN
  have nG:=zF (o:=1) yN
  have pX:=zF (o:=2) yN
  have pc:=zF (o:=3) yN
  have pg:=zF (o:=4) yN
  have pp:=zF (o:=5) yN
  have nF:=zF (o:=6) yN
  obtain⟨i0,i1,i2,i3,i4,i5,i6⟩:=zI ((zA5 xQ yN))
  have HF:Hid (yA (xA s l g ph m us f) s l g 0 [] [] false w (.returned (.tuple #[yx,.int .i64 (xA s l g ph m us f)])) (((((((W1.setCell ⟨w.heap.size+1,0,none⟩ (.slice none 0 0)).setCell ⟨w.heap.size+1,1,none⟩ (.slice none 0 0)).setCell ⟨w.heap.size+1,2,none⟩ (.int .i64 0)).setCell ⟨w.heap.size+1,3,none⟩ (.int .i64 0)).setCell ⟨w.heap.size+1,4,none⟩ (.slice none 0 0)).setCell ⟨w.heap.size+1,5,none⟩ (.slice none 0 0)).setCell ⟨w.heap.size+1,6,none⟩ (.bool false))):=yA.bad (by exact rfl) c1 ((bt zT xQ))
  have z1:(xA s l g ph m us f != 0)=true:=by simpa using c1
  clear c1 k1 yN zT xQ
  go_wp2
  refine bodyPost_ret (v:=.tuple #[yx,.int .i64 (xA s l g ph m us f)]) (by simp[results,Tryz.results159,go_sem,i0,i1,i2,i3,i4,i5,i6]) rfl ?_
  exact HF.out
 have HC:Hid (xA s l g ph m us f=0):=c1
 rw[c1]
 clear c1
 obtain⟨y0,y1,y2,y3,y4,y5,y6⟩:=zI k1
 have zp:(ph != ph)=false:=by simp
 obtain⟨n1,n2,n3,n4,n5,n6⟩:=rc HC.out
 have U1:=tO aS cs s al cl l g ph a1 c1 m a2 c2 us f W1 (H.hs.below zT) (by omega) n2 (H.hl.below zT) (by omega) (H.hm.below zT) (by omega) n5 (H.hu.below zT) (by omega)
 go_wp2_with fail
 refine U1.mono ?_
 clear U1
 rintro e W2 ⟨b0,d0,b1,d1,b2,d2,b3,d3,rfl,F2,zZ⟩
 have zj:=bt zT zZ
 have SZ:=zA5 zZ yN
 have uM:=zB W2 (vG b0 s.length d0 b1 l.length d1 g ph b2 m.length d2 b3 us.length d3 f 200)
 have k3:=heap_alloc_new W2 (vG b0 s.length d0 b1 l.length d1 g ph b2 m.length d2 b3 us.length d3 f 200)
 have ce:=zZ.size
 have F3:=F2.below uM
 have xL:=bt zj uM
 have eY:=zA5 uM SZ
 have h3:=F3.holds
 have R3:sJ (W2.alloc (vG b0 s.length d0 b1 l.length d1 g ph b2 m.length d2 b3 us.length d3 f 200)) b0 s b1 l b2 m b3 us:=⟨h3.1,h3.2.1,h3.2.2.1,h3.2.2.2,H.ns,H.nl,H.nm,H.nu⟩
 have dJ:(W2.alloc (vG b0 s.length d0 b1 l.length d1 g ph b2 m.length d2 b3 us.length d3 f 200)).heap.size=W2.heap.size+1:=by simp
 clear F3 zZ zT k1 yN SZ h3 y0 y1 y2 y3 y4 y5 y6
 go_wp2_with fail
 generalize W2.alloc (vG b0 s.length d0 b1 l.length d1 g ph b2 m.length d2 b3 us.length d3 f 200)=W3 at *
 refine(V7 W2.heap.size b0 s.length d0 b1 l.length d1 g ph b2 m.length d2 b3 us.length d3 f W3 k3).mono ?_
 rintro e W4 ⟨rfl,k4,xR,mn⟩
 have vB:=(mn (w.heap.size+1) (by have:=XE.out;omega)).trans eY
 have xZ:=xL.trans (xR.mono zj.size)
 have F4:=F2.kept (Nat.le_trans uM.size xR.size) (fun k h1 h2=>(mn k (by omega)).trans (uM.block k h2))
 clear F2 uM k3 mn xR R3 eY xL
 obtain⟨x0,x1,x2,x3,x4,x5,x6⟩:=zI k4
 obtain⟨o0,o1,o2,o3,o4,o5,o6⟩:=zI vB
 have pi:=zF (o:=0) vB
 have nG:=zF (o:=1) vB
 have pX:=zF (o:=2) vB
 have pc:=zF (o:=3) vB
 have pg:=zF (o:=4) vB
 have pp:=zF (o:=5) vB
 have nF:=zF (o:=6) vB
 obtain⟨s1,s2,s3⟩:=yQ W4 (w.heap.size+1) 36 (.slice b0 s.length d0) (.slice b1 l.length d1) (.int .i64 g) (.int .i64 0) (.slice none 0 0) (.slice none 0 0) (.bool false) vB
 obtain⟨i0,i1,i2,i3,i4,i5,i6⟩:=zI s1
 have nO: ∀k,W1.heap.size≤k→(((((((W4.setCell ⟨w.heap.size+1,0,none⟩ (.slice b0 s.length d0)).setCell ⟨w.heap.size+1,1,none⟩ (.slice b1 l.length d1)).setCell ⟨w.heap.size+1,2,none⟩ (.int .i64 g)).setCell ⟨w.heap.size+1,3,none⟩ (.int .i64 0)).setCell ⟨w.heap.size+1,4,none⟩ (.slice none 0 0)).setCell ⟨w.heap.size+1,5,none⟩ (.slice none 0 0)).setCell ⟨w.heap.size+1,6,none⟩ (.bool false)).heap[k]? =W4.heap[k]?:=fun k hk=>s3 k (by have:=XE.out;omega)
 have F5:=F4.keep s2.size nO
 have h5:=F5.holds
 have HF:Hid (yA (xA s l g ph m us f) s l g 0 [] [] false w (.returned (.tuple #[RV b0 d0 s b1 d1 l g 0 none 0 [] none 0 [] false,.int .i64 0])) (((((((W4.setCell ⟨w.heap.size+1,0,none⟩ (.slice b0 s.length d0)).setCell ⟨w.heap.size+1,1,none⟩ (.slice b1 l.length d1)).setCell ⟨w.heap.size+1,2,none⟩ (.int .i64 g)).setCell ⟨w.heap.size+1,3,none⟩ (.int .i64 0)).setCell ⟨w.heap.size+1,4,none⟩ (.slice none 0 0)).setCell ⟨w.heap.size+1,5,none⟩ (.slice none 0 0)).setCell ⟨w.heap.size+1,6,none⟩ (.bool false))):=
  ⟨xZ.trans (s2.mono (by omega)),.inr ⟨HC.out,b0,d0,b1,d1,none,0,none,0,rfl,⟨h5.1,h5.2.1,fun i hi=>by simp at hi,fun i hi=>by simp at hi,H.ns,H.nl,by simp,by simp⟩,(vM.mk F5.objs F5.refs Ui).from (by have:=XE.out;omega)⟩⟩
 clear F5 h5 F4 nO s1 s2 s3 vB k4 xZ H dJ ce
 go_wp2
 refine bodyPost_ret (v:=.tuple #[rF b0 s.length d0 b1 l.length d1 g 0 none 0 0 none 0 0 false,.int .i64 0]) (by simp[results,Tryz.results159,go_sem,i0,i1,i2,i3,i4,i5,i6]) rfl ?_
 exact HF.out
theorem QC(aS:Option Addr)(cs:Nat)(s:List Ob)(al:Option Addr)(cl:Nat)(l:List Rf)(g ph:Int)(a1:Option Addr)(c1:Nat)(m:List Ob)(a2:Option Addr)(c2:Nat)(us:List Up)(f:Bool)(w:World)(hg:xr w)(H:sJ w aS s al l a1 m a2 us):
  Calls Tryz.prog 157 #[RV aS cs s al cl l g ph a1 c1 m a2 c2 us f] w (yA (xA s l g ph m us f) s l g 0 [] [] false w):=by
 obtain⟨xa,tv⟩:=ye w (RB aS cs s al cl l g ph a1 c1 m a2 c2 us f) zo
 have hB:=zV w (RB aS cs s al cl l g ph a1 c1 m a2 c2 us f) zo
 have xy:True:=trivial
 have bn:Hid (w.heap.size+1<((w.alloc (RB aS cs s al cl l g ph a1 c1 m a2 c2 us f)).alloc zo).heap.size):=zG tv
 obtain⟨y0,y1,y2,y3,y4,y5,y6⟩:=zI xa
 have Ps:=Yb aS cs s al cl l g ph a1 c1 m a2 c2 us f _ (hg.below hB) (H.below hB)
 go_enter Tryz.func157,Tryz.ntmps157
 go_wp2_with fail
 generalize ((w.alloc (RB aS cs s al cl l g ph a1 c1 m a2 c2 us f)).alloc zo)=W0 at *
 refine Ps.mono ?_
 clear Ps
 rintro e W1 ⟨zM,xK⟩
 have yN:=zA5 zM tv
 have zT:=bt hB zM
 clear y0 y1 y2 y3 y4 y5 y6 xa xy tv hB zM
 rcases xK with⟨yM,rfl⟩|⟨hz,b0,d0,b1,d1,b2,d2,b3,d3,rfl,H1⟩
 ·have xQ:=y9 W1 (w.heap.size+1) 36 (.slice none 0 0) (.slice none 0 0) (.int .i64 0) (.int .i64 0) (.slice none 0 0) (.slice none 0 0) (.bool false) yN
  obtain⟨o0,o1,o2,o3,o4,o5,o6⟩:=zI yN
  have pi:=zF (o:=0) yN
  have nG:=zF (o:=1) yN
  have pX:=zF (o:=2) yN
  have pc:=zF (o:=3) yN
  have pg:=zF (o:=4) yN
  have pp:=zF (o:=5) yN
  have nF:=zF (o:=6) yN
  obtain⟨i0,i1,i2,i3,i4,i5,i6⟩:=zI ((zA5 xQ yN))
  have HF:Hid (yA (xA s l g ph m us f) s l g 0 [] [] false w (.returned (.tuple #[yx,.int .i64 (xA s l g ph m us f)])) (((((((W1.setCell ⟨w.heap.size+1,0,none⟩ (.slice none 0 0)).setCell ⟨w.heap.size+1,1,none⟩ (.slice none 0 0)).setCell ⟨w.heap.size+1,2,none⟩ (.int .i64 0)).setCell ⟨w.heap.size+1,3,none⟩ (.int .i64 0)).setCell ⟨w.heap.size+1,4,none⟩ (.slice none 0 0)).setCell ⟨w.heap.size+1,5,none⟩ (.slice none 0 0)).setCell ⟨w.heap.size+1,6,none⟩ (.bool false))):=yA.bad rfl yM ((bt zT xQ))
  clear yM yN zT xQ H
  go_wp2
  refine bodyPost_ret (v:=.tuple #[yx,.int .i64 (xA s l g ph m us f)]) (by simp[results,Tryz.results157,go_sem,i0,i1,i2,i3,i4,i5,i6]) rfl ?_
  exact HF.out
 ·obtain⟨o0,o1,o2,o3,o4,o5,o6⟩:=zI yN
  have pi:=zF (o:=0) yN
  have nG:=zF (o:=1) yN
  have pX:=zF (o:=2) yN
  have pc:=zF (o:=3) yN
  have pg:=zF (o:=4) yN
  have pp:=zF (o:=5) yN
  have nF:=zF (o:=6) yN
  obtain⟨s1,s2,s3⟩:=yQ W1 (w.heap.size+1) 36 (.slice b0 s.length d0) (.slice b1 l.length d1) (.int .i64 g) (.int .i64 0) (.slice b2 0 d2) (.slice b3 0 d3) (.bool false) yN
  obtain⟨i0,i1,i2,i3,i4,i5,i6⟩:=zI s1
  have HF:Hid (yA (xA s l g ph m us f) s l g 0 [] [] false w (.returned (.tuple #[RV b0 d0 s b1 d1 l g 0 b2 d2 [] b3 d3 [] false,.int .i64 0])) (((((((W1.setCell ⟨w.heap.size+1,0,none⟩ (.slice b0 s.length d0)).setCell ⟨w.heap.size+1,1,none⟩ (.slice b1 l.length d1)).setCell ⟨w.heap.size+1,2,none⟩ (.int .i64 g)).setCell ⟨w.heap.size+1,3,none⟩ (.int .i64 0)).setCell ⟨w.heap.size+1,4,none⟩ (.slice b2 0 d2)).setCell ⟨w.heap.size+1,5,none⟩ (.slice b3 0 d3)).setCell ⟨w.heap.size+1,6,none⟩ (.bool false))):=
   ⟨zT.trans (s2.mono (by omega)),.inr ⟨hz,b0,d0,b1,d1,b2,d2,b3,d3,rfl,(H1.keep s2.size (fun k hk=>s3 k (by have:=bn.out;omega))).from (by have:=bn.out;omega)⟩⟩
  clear s1 s2 s3 H1 hz zT yN H
  go_wp2
  refine bodyPost_ret (v:=.tuple #[rF b0 s.length d0 b1 l.length d1 g 0 b2 0 d2 b3 0 d3 false,.int .i64 0]) (by simp[results,Tryz.results157,go_sem,i0,i1,i2,i3,i4,i5,i6]) rfl ?_
  exact HF.out
abbrev NJ(B off cap:Nat):Obj:=.cells #[.slice (some ⟨B,off,none⟩) 3 cap] 138
def p9(w0:World)(L B off cap:Nat)(Q:Nat→Rq)(i:Nat)(E:Int)(R:Rp)(e:Ending)(w':World):Prop:=
 Below w0.heap.size w0 w'∧((E≠0∧e= .returned (.tuple #[.bool false,.int .i64 E]))∨(E=0∧e= .returned (.tuple #[.bool true,.int .i64 0])∧∃q:Rq,q.r=R∧w'.heap[L]? =some (NJ B off cap)∧Rw w' w0.heap.size L B off (jf Q i q)))
theorem VD(n r:Rq)(p:Nat)(w:World)(hg:xr w)(hp:w.heap[p]? =some n.blk)(hn:n.H w)(hr:r.H w):Calls Tryz.prog 205 #[r.val,.pointer (some ⟨p,0,none⟩)] w (jq n.r r.r w):=by
 obtain⟨PO,xY⟩: ∃P:Ending→World→Prop,Hid (P=jq n.r r.r w):=⟨_,rfl⟩
 rw[←xY.out]
 obtain⟨xa,xy⟩:=ye w r.blk zo
 have hB:=zV w r.blk zo
 have G9:=zA5 hB hp
 obtain⟨y0,y1,y2,y3,y4,y5,y6⟩:=zI xa
 obtain⟨x0,x1,x2,x3,x4,x5,x6⟩:=zI G9
 have hc:=ND n r _ (hg.below hB) (hn.below hB) (hr.below hB)
 have bn:Hid (w.heap.size+1<((w.alloc r.blk).alloc zo).heap.size):=zG xy
 go_enter Tryz.func205,Tryz.ntmps205
 go_wp2_with fail
 generalize ((w.alloc r.blk).alloc zo)=W0 at *
 refine hc.mono ?_
 clear hc
 rintro e W1 ⟨zM,xK⟩
 have yN:=zA5 zM xy
 have zT:=bt hB zM
 clear y0 y1 y2 y3 y4 y5 y6 x0 x1 x2 x3 x4 x5 x6 xa xy hB zM G9
 rcases xK with⟨yM,rfl⟩|⟨hz,b0,d0,b1,d1,b2,d2,b3,d3,rfl,H1⟩
 ·have xQ:=y9 W1 (w.heap.size+1) 36 (.slice none 0 0) (.slice none 0 0) (.int .i64 0) (.int .i64 0) (.slice none 0 0) (.slice none 0 0) (.bool false) yN
  obtain⟨o0,o1,o2,o3,o4,o5,o6⟩:=zI yN
  have pi:=zF (o:=0) yN
  have nG:=zF (o:=1) yN
  have pX:=zF (o:=2) yN
  have pc:=zF (o:=3) yN
  have pg:=zF (o:=4) yN
  have pp:=zF (o:=5) yN
  have nF:=zF (o:=6) yN
  obtain⟨i0,i1,i2,i3,i4,i5,i6⟩:=zI ((zA5 xQ yN))
  have HF:Hid (∀w',Below w.heap.size w w'→PO (.returned (.tuple #[yx,.int .i64 (uZ n.r r.r)])) w'):=fun w' hb=>by
   rw[xY.out];exact yA.bad rfl yM hb
  have HB:Hid (Below w.heap.size w _):=bt zT xQ
  clear yM yN zT xQ
  generalize uZ n.r r.r=E at *
  go_wp2
  refine bodyPost_ret (v:=.tuple #[yx,.int .i64 E]) (by simp[results,Tryz.results205,go_sem,i0,i1,i2,i3,i4,i5,i6]) rfl ?_
  exact HF.out _ HB.out
 ·obtain⟨o0,o1,o2,o3,o4,o5,o6⟩:=zI yN
  have pi:=zF (o:=0) yN
  have nG:=zF (o:=1) yN
  have pX:=zF (o:=2) yN
  have pc:=zF (o:=3) yN
  have pg:=zF (o:=4) yN
  have pp:=zF (o:=5) yN
  have nF:=zF (o:=6) yN
  obtain⟨S',hS⟩: ∃S',S'=(uW n.r r.r).s:=⟨_,rfl⟩
  have HS:Hid (S'=(uW n.r r.r).s):=hS
  rw[←hS]at H1⊢
  clear hS
  obtain⟨s1,s2,s3⟩:=yQ W1 (w.heap.size+1) 36 (.slice b0 S'.length d0) (.slice b1 n.r.l.length d1) (.int .i64 n.r.g) (.int .i64 0) (.slice b2 0 d2) (.slice b3 0 d3) (.bool false) yN
  obtain⟨i0,i1,i2,i3,i4,i5,i6⟩:=zI s1
  have HF:Hid (PO (.returned (.tuple #[RV b0 d0 S' b1 d1 n.r.l n.r.g 0 b2 d2 [] b3 d3 [] false,.int .i64 0])) (((((((W1.setCell ⟨w.heap.size+1,0,none⟩ (.slice b0 S'.length d0)).setCell ⟨w.heap.size+1,1,none⟩ (.slice b1 n.r.l.length d1)).setCell ⟨w.heap.size+1,2,none⟩ (.int .i64 n.r.g)).setCell ⟨w.heap.size+1,3,none⟩ (.int .i64 0)).setCell ⟨w.heap.size+1,4,none⟩ (.slice b2 0 d2)).setCell ⟨w.heap.size+1,5,none⟩ (.slice b3 0 d3)).setCell ⟨w.heap.size+1,6,none⟩ (.bool false))):=by
   unfold Hid
   rw[xY.out]
   refine⟨zT.trans (s2.mono (by omega)),.inr ⟨hz,b0,d0,b1,d1,b2,d2,b3,d3,?_,?_⟩⟩
   ·rw[←HS.out]
   ·rw[←HS.out];exact(H1.keep s2.size (fun k hk=>s3 k (by have:=bn.out;omega))).from (by have:=bn.out;omega)
  clear s1 s2 s3 H1 hz zT yN
  go_wp2
  refine bodyPost_ret (v:=.tuple #[RV b0 d0 S' b1 d1 n.r.l n.r.g 0 b2 d2 [] b3 d3 [] false,.int .i64 0]) (by simp[results,Tryz.results205,go_sem,i0,i1,i2,i3,i4,i5,i6]) rfl ?_
  exact HF.out
theorem UV(r:Rq)(w:World)(hg:xr w)(hr:r.H w):Calls Tryz.prog 156 #[r.val] w (yA r.r.err r.r.s r.r.l r.r.g 0 [] [] false w):=by
 obtain⟨PO,xY⟩: ∃P:Ending→World→Prop,Hid (P=yA r.r.err r.r.s r.r.l r.r.g 0 [] [] false w):=⟨_,rfl⟩
 rw[←xY.out]
 obtain⟨xa,xy⟩:=ye w r.blk zo
 have hB:=zV w r.blk zo
 obtain⟨y0,y1,y2,y3,y4,y5,y6⟩:=zI xa
 have hc:=(show Calls Tryz.prog 157 #[r.val] ((w.alloc r.blk).alloc zo) (yA r.r.err r.r.s r.r.l r.r.g 0 [] [] false ((w.alloc r.blk).alloc zo)) from QC r.aS r.cs r.r.s r.al r.cl r.r.l r.r.g r.r.ph r.a1 r.c1 r.r.m r.a2 r.c2 r.r.us r.r.f _ (hg.below hB) (hr.below hB))
 have bn:Hid (w.heap.size+1<((w.alloc r.blk).alloc zo).heap.size):=zG xy
 go_enter Tryz.func156,Tryz.ntmps156
 go_wp2_with fail
 generalize ((w.alloc r.blk).alloc zo)=W0 at *
 refine hc.mono ?_
 clear hc
 rintro e W1 ⟨zM,xK⟩
 have yN:=zA5 zM xy
 have zT:=bt hB zM
 clear y0 y1 y2 y3 y4 y5 y6 xa xy hB zM
 rcases xK with⟨yM,rfl⟩|⟨hz,b0,d0,b1,d1,b2,d2,b3,d3,rfl,H1⟩
 ·have xQ:=y9 W1 (w.heap.size+1) 36 (.slice none 0 0) (.slice none 0 0) (.int .i64 0) (.int .i64 0) (.slice none 0 0) (.slice none 0 0) (.bool false) yN
  obtain⟨o0,o1,o2,o3,o4,o5,o6⟩:=zI yN
  have pi:=zF (o:=0) yN
  have nG:=zF (o:=1) yN
  have pX:=zF (o:=2) yN
  have pc:=zF (o:=3) yN
  have pg:=zF (o:=4) yN
  have pp:=zF (o:=5) yN
  have nF:=zF (o:=6) yN
  obtain⟨i0,i1,i2,i3,i4,i5,i6⟩:=zI ((zA5 xQ yN))
  have HF:Hid (∀w',Below w.heap.size w w'→PO (.returned (.tuple #[yx,.int .i64 (r.r.err)])) w'):=fun w' hb=>by
   rw[xY.out];exact yA.bad rfl yM hb
  have HB:Hid (Below w.heap.size w _):=bt zT xQ
  clear yM yN zT xQ
  generalize r.r.err=E at *
  go_wp2
  refine bodyPost_ret (v:=.tuple #[yx,.int .i64 E]) (by simp[results,Tryz.results156,go_sem,i0,i1,i2,i3,i4,i5,i6]) rfl ?_
  exact HF.out _ HB.out
 ·obtain⟨o0,o1,o2,o3,o4,o5,o6⟩:=zI yN
  have pi:=zF (o:=0) yN
  have nG:=zF (o:=1) yN
  have pX:=zF (o:=2) yN
  have pc:=zF (o:=3) yN
  have pg:=zF (o:=4) yN
  have pp:=zF (o:=5) yN
  have nF:=zF (o:=6) yN
  obtain⟨S',hS⟩: ∃S',S'=r.r.s:=⟨_,rfl⟩
  have HS:Hid (S'=r.r.s):=hS
  rw[←hS]at H1⊢
  clear hS
  obtain⟨s1,s2,s3⟩:=yQ W1 (w.heap.size+1) 36 (.slice b0 S'.length d0) (.slice b1 r.r.l.length d1) (.int .i64 r.r.g) (.int .i64 0) (.slice b2 0 d2) (.slice b3 0 d3) (.bool false) yN
  obtain⟨i0,i1,i2,i3,i4,i5,i6⟩:=zI s1
  have HF:Hid (PO (.returned (.tuple #[RV b0 d0 S' b1 d1 r.r.l r.r.g 0 b2 d2 [] b3 d3 [] false,.int .i64 0])) (((((((W1.setCell ⟨w.heap.size+1,0,none⟩ (.slice b0 S'.length d0)).setCell ⟨w.heap.size+1,1,none⟩ (.slice b1 r.r.l.length d1)).setCell ⟨w.heap.size+1,2,none⟩ (.int .i64 r.r.g)).setCell ⟨w.heap.size+1,3,none⟩ (.int .i64 0)).setCell ⟨w.heap.size+1,4,none⟩ (.slice b2 0 d2)).setCell ⟨w.heap.size+1,5,none⟩ (.slice b3 0 d3)).setCell ⟨w.heap.size+1,6,none⟩ (.bool false))):=by
   unfold Hid
   rw[xY.out]
   refine⟨zT.trans (s2.mono (by omega)),.inr ⟨hz,b0,d0,b1,d1,b2,d2,b3,d3,?_,?_⟩⟩
   ·rw[←HS.out]
   ·rw[←HS.out];exact(H1.keep s2.size (fun k hk=>s3 k (by have:=bn.out;omega))).from (by have:=bn.out;omega)
  clear s1 s2 s3 H1 hz zT yN
  go_wp2
  refine bodyPost_ret (v:=.tuple #[RV b0 d0 S' b1 d1 r.r.l r.r.g 0 b2 d2 [] b3 d3 [] false,.int .i64 0]) (by simp[results,Tryz.results156,go_sem,i0,i1,i2,i3,i4,i5,i6]) rfl ?_
  exact HF.out
theorem VF(w0:World)(L B off cap:Nat)(Q:Nat→Rq)(i:Nat)(hi:i<3)(E:Int)(s:List Ob)(l:List Rf)(g:Int)(w:World)(sP:Below w0.heap.size w0 w)(PS:w0.heap.size≤L)(hL:w.heap[L]? =some (NJ B off cap))(hd:Rw w w0.heap.size L B off Q)
  (ni:Calls Tryz.prog 156 #[(Q i).val] w (yA E s l g 0 [] [] false w)):
  Calls Tryz.prog 155 #[.pointer (some ⟨L,0,none⟩),.int .i64 (i:Int),.func (.func 156) #[] #[]] w (p9 w0 L B off cap Q i E ⟨s,l,g,0,[],[],false⟩):=by
 obtain⟨PO,xY⟩: ∃P:Ending→World→Prop,Hid (P=p9 w0 L B off cap Q i E ⟨s,l,g,0,[],[],false⟩):=⟨_,rfl⟩
 rw[←xY.out]
 have yh:w.cell? ⟨L,0,none⟩=some (.slice (some ⟨B,off,none⟩) 3 cap):=by rw[cell_of_row _ _ _ _ _ _ hL];rfl
 obtain⟨x0,x1,x2,x3,x4,x5,x6⟩:=hd.row i hi
 have Y5:(i:Int)<3:=by omega
 go_enter Tryz.func155,Tryz.ntmps155
 go_wp2_with fail
 refine ni.mono ?_
 clear ni x0 x1 x2 x3 x4 x5 x6 yh
 rintro e W2 ⟨zZ,xK⟩
 have pv:=bt sP zZ
 have PR:=hd.below zZ
 have j9:=zA5 zZ hL
 have ky:=zZ.size
 have mo:=zG hL
 have Eo:=sP.size
 have vH:=hd.ltB
 clear sP hd hL zZ
 rcases xK with⟨yM,rfl⟩|⟨hz,b0,d0,b1,d1,b2,d2,b3,d3,rfl,F⟩
 ·have HF:Hid (∀w',Below w0.heap.size w0 w'→PO (.returned (.tuple #[.bool false, .int .i64 E])) w'):=fun w' h1=>by rw[xY.out];exact⟨h1, .inl ⟨yM,rfl⟩⟩
  have q1:(E != 0)=true:=by simpa using yM
  have hA:=zB W2 zo
  have na:=bt pv hA
  clear yM PR j9 hA pv
  go_wp2
  exact HF.out _ na
 obtain⟨q,Vm,Cd,hqF⟩: ∃q:Rq,q.r=⟨s,l,g,0,[],[],false⟩∧RV b0 d0 s b1 d1 l g 0 b2 d2 [] b3 d3 [] false=q.val∧n7 W2 w.heap.size q.aS q.cs q.r.s q.al q.cl q.r.l q.a1 q.c1 q.r.m q.a2 q.c2 q.r.us:=⟨⟨⟨s,l,g,0,[],[],false⟩,b0,d0,b1,d1,b2,d2,b3,d3⟩,rfl,rfl,F⟩
 have Nv:Hid (q.r=⟨s,l,g,0,[],[],false⟩):=Vm
 have Fx:Hid (E=0):=hz
 have J9:=rQ.fresh hqF (z:=w0.heap.size) (P:=fun k=>k=B∨k=L) Eo (fun j hj=>by rcases hj with rfl|rfl<;>omega)
 rw[Cd]
 clear Cd hqF F Vm hz
 have hA:=zB W2 q.blk
 have kq:=heap_alloc_new W2 q.blk
 have na:=bt pv hA
 have G1:=PR.below hA
 have nJ:=zA5 hA j9
 have Nn:=J9.below hA
 have UI:W2.heap.size≠L:=by omega
 have Ts:W2.heap.size≠B:=by omega
 go_upto_region 4 with fail
 generalize W2.alloc q.blk=W3 at *
 obtain⟨pq,GI⟩: ∃pq,pq=W2.heap.size:=⟨_,rfl⟩
 rw[←GI]at kq UI Ts⊢
 have hLp:pq≠L:=UI
 have hBp:pq≠B:=Ts
 clear GI pv PR j9 J9 hA UI Ts
 have xF:=zU W3
 have Nu:=bt na xF
 have QF:=G1.below xF
 have Ln:=zA5 xF nJ
 have GU:=Nn.below xF
 have YA:=zA5 xF kq
 have tw:W3.drew.cell? ⟨L,0,none⟩=some (.slice (some ⟨B,off,none⟩) 3 cap)∧(W3.drew.cell? ⟨pq,0,none⟩=some (.slice q.aS q.r.s.length q.cs)∧W3.drew.cell? ⟨pq,1,none⟩=some (.slice q.al q.r.l.length q.cl)∧W3.drew.cell? ⟨pq,2,none⟩=some (.int .i64 q.r.g)∧W3.drew.cell? ⟨pq,3,none⟩=some (.int .i64 q.r.ph)∧W3.drew.cell? ⟨pq,4,none⟩=some (.slice q.a1 q.r.m.length q.c1)∧W3.drew.cell? ⟨pq,5,none⟩=some (.slice q.a2 q.r.us.length q.c2)∧W3.drew.cell? ⟨pq,6,none⟩=some (.bool q.r.f)):=⟨by rw[cell_of_row _ _ _ _ _ _ Ln];rfl,zI YA⟩
 refine zS (fun W=>W.cell? ⟨L,0,none⟩=some (.slice (some ⟨B,off,none⟩) 3 cap)∧(W.cell? ⟨pq,0,none⟩=some (.slice q.aS q.r.s.length q.cs)∧W.cell? ⟨pq,1,none⟩=some (.slice q.al q.r.l.length q.cl)∧W.cell? ⟨pq,2,none⟩=some (.int .i64 q.r.g)∧W.cell? ⟨pq,3,none⟩=some (.int .i64 q.r.ph)∧W.cell? ⟨pq,4,none⟩=some (.slice q.a1 q.r.m.length q.c1)∧W.cell? ⟨pq,5,none⟩=some (.slice q.a2 q.r.us.length q.c2)∧W.cell? ⟨pq,6,none⟩=some (.bool q.r.f))) (fun _=>false) (by kernel_rfl) tw (fun hS=>?_)
 generalize W3.drew=W1 at *
 clear tw xF na G1 nJ Nn kq
 refine zAA 0 ?_ rfl ?_ ?_;rotate_left
 ·intro w zD;obtain⟨s0,r0,r1,r2,r3,r4,r5,r6⟩:=zD;go_simp;rfl
 try simp only[tn]
 refine zAA 1 ?_ rfl ?_ ?_;rotate_left
 ·intro w zD;obtain⟨s0,r0,r1,r2,r3,r4,r5,r6⟩:=zD;go_simp;rfl
 try simp only[tn]
 refine zAA 2 ?_ rfl ?_ ?_;rotate_left
 ·intro w zD;obtain⟨s0,r0,r1,r2,r3,r4,r5,r6⟩:=zD;go_simp;rfl
 try simp only[tn]
 refine zAA 3 ?_ rfl ?_ ?_;rotate_left
 ·intro w zD;obtain⟨s0,r0,r1,r2,r3,r4,r5,r6⟩:=zD;go_simp;rfl
 try simp only[tn]
 refine zAA 4 ?_ rfl ?_ ?_;rotate_left
 ·intro w zD;obtain⟨s0,r0,r1,r2,r3,r4,r5,r6⟩:=zD;go_simp;rfl
 try simp only[tn]
 refine zAA 5 ?_ rfl ?_ ?_;rotate_left
 ·intro w zD;obtain⟨s0,r0,r1,r2,r3,r4,r5,r6⟩:=zD;go_simp;rfl
 try simp only[tn]
 refine zAA 6 ?_ rfl ?_ ?_;rotate_left
 ·intro w zD;obtain⟨s0,r0,r1,r2,r3,r4,r5,r6⟩:=zD;go_simp;rfl
 try simp only[tn]
 refine zAA 7 ?_ rfl ?_ ?_;rotate_left
 ·intro w zD;obtain⟨s0,r0,r1,r2,r3,r4,r5,r6⟩:=zD;go_simp;rfl
 try simp only[tn]
 refine zAC 8 rfl fun K hK=>?_
 obtain⟨u0,u1,u2,u3,u4,u5,u6⟩:=QF.row i hi
 obtain⟨cb,nv⟩:=QF.hB
 have Ep:=zF (o:=off+i*7) nv
 have DC:=zF (o:=off+i*7+1) nv
 have Fb:=zF (o:=off+i*7+2) nv
 have DF:=zF (o:=off+i*7+3) nv
 have Fq:=zF (o:=off+i*7+4) nv
 have Gp:=zF (o:=off+i*7+5) nv
 have F0:=zF (o:=off+i*7+6) nv
 have E3:=QF.row_set hi q GU
 have qY: ∀j,j≠B→(xJ W1 B (off+i*7) (.slice q.aS q.r.s.length q.cs) (.slice q.al q.r.l.length q.cl) (.int .i64 q.r.g) (.int .i64 q.r.ph) (.slice q.a1 q.r.m.length q.c1) (.slice q.a2 q.r.us.length q.c2) (.bool q.r.f)).heap[j]? =W1.heap[j]?:=fun j hj=>tZ W1 B (off+i*7) j _ _ _ _ _ _ _ hj
 have bs:=(qY L QF.ne).trans Ln
 have gC:Below w0.heap.size w0 (xJ W1 B (off+i*7) (.slice q.aS q.r.s.length q.cs) (.slice q.al q.r.l.length q.cl) (.int .i64 q.r.g) (.int .i64 q.r.ph) (.slice q.a1 q.r.m.length q.c1) (.slice q.a2 q.r.us.length q.c2) (.bool q.r.f)):=pk _ _ _ _ _ _ _ Nu QF.zb
 have Nl:=(qY pq hBp).trans YA
 have Zi:(xJ W1 B (off+i*7) (.slice q.aS q.r.s.length q.cs) (.slice q.al q.r.l.length q.cl) (.int .i64 q.r.g) (.int .i64 q.r.ph) (.slice q.a1 q.r.m.length q.c1) (.slice q.a2 q.r.us.length q.c2) (.bool q.r.f)).cell? ⟨L,0,none⟩=some (.slice (some ⟨B,off,none⟩) 3 cap)∧((xJ W1 B (off+i*7) (.slice q.aS q.r.s.length q.cs) (.slice q.al q.r.l.length q.cl) (.int .i64 q.r.g) (.int .i64 q.r.ph) (.slice q.a1 q.r.m.length q.c1) (.slice q.a2 q.r.us.length q.c2) (.bool q.r.f)).cell? ⟨pq,0,none⟩=some (.slice q.aS q.r.s.length q.cs)∧(xJ W1 B (off+i*7) (.slice q.aS q.r.s.length q.cs) (.slice q.al q.r.l.length q.cl) (.int .i64 q.r.g) (.int .i64 q.r.ph) (.slice q.a1 q.r.m.length q.c1) (.slice q.a2 q.r.us.length q.c2) (.bool q.r.f)).cell? ⟨pq,1,none⟩=some (.slice q.al q.r.l.length q.cl)∧(xJ W1 B (off+i*7) (.slice q.aS q.r.s.length q.cs) (.slice q.al q.r.l.length q.cl) (.int .i64 q.r.g) (.int .i64 q.r.ph) (.slice q.a1 q.r.m.length q.c1) (.slice q.a2 q.r.us.length q.c2) (.bool q.r.f)).cell? ⟨pq,2,none⟩=some (.int .i64 q.r.g)∧(xJ W1 B (off+i*7) (.slice q.aS q.r.s.length q.cs) (.slice q.al q.r.l.length q.cl) (.int .i64 q.r.g) (.int .i64 q.r.ph) (.slice q.a1 q.r.m.length q.c1) (.slice q.a2 q.r.us.length q.c2) (.bool q.r.f)).cell? ⟨pq,3,none⟩=some (.int .i64 q.r.ph)∧(xJ W1 B (off+i*7) (.slice q.aS q.r.s.length q.cs) (.slice q.al q.r.l.length q.cl) (.int .i64 q.r.g) (.int .i64 q.r.ph) (.slice q.a1 q.r.m.length q.c1) (.slice q.a2 q.r.us.length q.c2) (.bool q.r.f)).cell? ⟨pq,4,none⟩=some (.slice q.a1 q.r.m.length q.c1)∧(xJ W1 B (off+i*7) (.slice q.aS q.r.s.length q.cs) (.slice q.al q.r.l.length q.cl) (.int .i64 q.r.g) (.int .i64 q.r.ph) (.slice q.a1 q.r.m.length q.c1) (.slice q.a2 q.r.us.length q.c2) (.bool q.r.f)).cell? ⟨pq,5,none⟩=some (.slice q.a2 q.r.us.length q.c2)∧(xJ W1 B (off+i*7) (.slice q.aS q.r.s.length q.cs) (.slice q.al q.r.l.length q.cl) (.int .i64 q.r.g) (.int .i64 q.r.ph) (.slice q.a1 q.r.m.length q.c1) (.slice q.a2 q.r.us.length q.c2) (.bool q.r.f)).cell? ⟨pq,6,none⟩=some (.bool q.r.f)):=⟨by rw[cell_of_row _ _ _ _ _ _ bs];rfl,zI Nl⟩
 clear Ln Nu YA qY
 go_simp
 refine hK _ _ (fun _=>Zi) ?_
 clear hK K
 try simp only[tn]
 generalize hW6:(xJ W1 B (off+i*7) (.slice q.aS q.r.s.length q.cs) (.slice q.al q.r.l.length q.cl) (.int .i64 q.r.g) (.int .i64 q.r.ph) (.slice q.a1 q.r.m.length q.c1) (.slice q.a2 q.r.us.length q.c2) (.bool q.r.f))=W6 at E3 bs gC Nl Zi
 unfold xJ at hW6
 rw[hW6]
 clear hW6 u0 u1 u2 u3 u4 u5 u6 Ep DC Fb DF Fq Gp F0 nv QF Zi Nl GU
 refine zAE ?_
 have HF:Hid (PO (.returned (.tuple #[.bool true,.int .i64 0])) W6):=by
  unfold Hid
  rw[xY.out]
  exact⟨gC,.inr ⟨Fx.out,rfl,q,Nv.out,bs,E3⟩⟩
 clear E3 gC bs
 go_wp2
 exact HF.out
theorem Xk(w0:World)(L B off cap:Nat)(Q:Nat→Rq)(i:Nat)(hi:i<3)(p:Nat)(E:Int)(s:List Ob)(l:List Rf)(g:Int)(w:World)(sP:Below w0.heap.size w0 w)(PS:w0.heap.size≤L)(hL:w.heap[L]? =some (NJ B off cap))(hd:Rw w w0.heap.size L B off Q)
  (ni:Calls Tryz.prog 205 #[(Q i).val,.pointer (some ⟨p,0,none⟩)] w (yA E s l g 0 [] [] false w)):
  Calls Tryz.prog 155 #[.pointer (some ⟨L,0,none⟩),.int .i64 (i:Int),.func (.func 205) #[] #[.pointer (some ⟨p,0,none⟩)]] w (p9 w0 L B off cap Q i E ⟨s,l,g,0,[],[],false⟩):=by
 obtain⟨PO,xY⟩: ∃P:Ending→World→Prop,Hid (P=p9 w0 L B off cap Q i E ⟨s,l,g,0,[],[],false⟩):=⟨_,rfl⟩
 rw[←xY.out]
 have yh:w.cell? ⟨L,0,none⟩=some (.slice (some ⟨B,off,none⟩) 3 cap):=by rw[cell_of_row _ _ _ _ _ _ hL];rfl
 obtain⟨x0,x1,x2,x3,x4,x5,x6⟩:=hd.row i hi
 have Y5:(i:Int)<3:=by omega
 go_enter Tryz.func155,Tryz.ntmps155
 go_wp2_with fail
 refine ni.mono ?_
 clear ni x0 x1 x2 x3 x4 x5 x6 yh
 rintro e W2 ⟨zZ,xK⟩
 have pv:=bt sP zZ
 have PR:=hd.below zZ
 have j9:=zA5 zZ hL
 have ky:=zZ.size
 have mo:=zG hL
 have Eo:=sP.size
 have vH:=hd.ltB
 clear sP hd hL zZ
 rcases xK with⟨yM,rfl⟩|⟨hz,b0,d0,b1,d1,b2,d2,b3,d3,rfl,F⟩
 ·have HF:Hid (∀w',Below w0.heap.size w0 w'→PO (.returned (.tuple #[.bool false, .int .i64 E])) w'):=fun w' h1=>by rw[xY.out];exact⟨h1, .inl ⟨yM,rfl⟩⟩
  have q1:(E != 0)=true:=by simpa using yM
  have hA:=zB W2 zo
  have na:=bt pv hA
  clear yM PR j9 hA pv
  go_wp2
  exact HF.out _ na
 obtain⟨q,Vm,Cd,hqF⟩: ∃q:Rq,q.r=⟨s,l,g,0,[],[],false⟩∧RV b0 d0 s b1 d1 l g 0 b2 d2 [] b3 d3 [] false=q.val∧n7 W2 w.heap.size q.aS q.cs q.r.s q.al q.cl q.r.l q.a1 q.c1 q.r.m q.a2 q.c2 q.r.us:=⟨⟨⟨s,l,g,0,[],[],false⟩,b0,d0,b1,d1,b2,d2,b3,d3⟩,rfl,rfl,F⟩
 have Nv:Hid (q.r=⟨s,l,g,0,[],[],false⟩):=Vm
 have Fx:Hid (E=0):=hz
 have J9:=rQ.fresh hqF (z:=w0.heap.size) (P:=fun k=>k=B∨k=L) Eo (fun j hj=>by rcases hj with rfl|rfl<;>omega)
 rw[Cd]
 clear Cd hqF F Vm hz
 have hA:=zB W2 q.blk
 have kq:=heap_alloc_new W2 q.blk
 have na:=bt pv hA
 have G1:=PR.below hA
 have nJ:=zA5 hA j9
 have Nn:=J9.below hA
 have UI:W2.heap.size≠L:=by omega
 have Ts:W2.heap.size≠B:=by omega
 go_upto_region 4 with fail
 generalize W2.alloc q.blk=W3 at *
 obtain⟨pq,GI⟩: ∃pq,pq=W2.heap.size:=⟨_,rfl⟩
 rw[←GI]at kq UI Ts⊢
 have hLp:pq≠L:=UI
 have hBp:pq≠B:=Ts
 clear GI pv PR j9 J9 hA UI Ts
 have xF:=zU W3
 have Nu:=bt na xF
 have QF:=G1.below xF
 have Ln:=zA5 xF nJ
 have GU:=Nn.below xF
 have YA:=zA5 xF kq
 have tw:W3.drew.cell? ⟨L,0,none⟩=some (.slice (some ⟨B,off,none⟩) 3 cap)∧(W3.drew.cell? ⟨pq,0,none⟩=some (.slice q.aS q.r.s.length q.cs)∧W3.drew.cell? ⟨pq,1,none⟩=some (.slice q.al q.r.l.length q.cl)∧W3.drew.cell? ⟨pq,2,none⟩=some (.int .i64 q.r.g)∧W3.drew.cell? ⟨pq,3,none⟩=some (.int .i64 q.r.ph)∧W3.drew.cell? ⟨pq,4,none⟩=some (.slice q.a1 q.r.m.length q.c1)∧W3.drew.cell? ⟨pq,5,none⟩=some (.slice q.a2 q.r.us.length q.c2)∧W3.drew.cell? ⟨pq,6,none⟩=some (.bool q.r.f)):=⟨by rw[cell_of_row _ _ _ _ _ _ Ln];rfl,zI YA⟩
 refine zS (fun W=>W.cell? ⟨L,0,none⟩=some (.slice (some ⟨B,off,none⟩) 3 cap)∧(W.cell? ⟨pq,0,none⟩=some (.slice q.aS q.r.s.length q.cs)∧W.cell? ⟨pq,1,none⟩=some (.slice q.al q.r.l.length q.cl)∧W.cell? ⟨pq,2,none⟩=some (.int .i64 q.r.g)∧W.cell? ⟨pq,3,none⟩=some (.int .i64 q.r.ph)∧W.cell? ⟨pq,4,none⟩=some (.slice q.a1 q.r.m.length q.c1)∧W.cell? ⟨pq,5,none⟩=some (.slice q.a2 q.r.us.length q.c2)∧W.cell? ⟨pq,6,none⟩=some (.bool q.r.f))) (fun _=>false) (by kernel_rfl) tw (fun hS=>?_)
 generalize W3.drew=W1 at *
 clear tw xF na G1 nJ Nn kq
 refine zAA 0 ?_ rfl ?_ ?_;rotate_left
 ·intro w zD;obtain⟨s0,r0,r1,r2,r3,r4,r5,r6⟩:=zD;go_simp;rfl
 try simp only[tn]
 refine zAA 1 ?_ rfl ?_ ?_;rotate_left
 ·intro w zD;obtain⟨s0,r0,r1,r2,r3,r4,r5,r6⟩:=zD;go_simp;rfl
 try simp only[tn]
 refine zAA 2 ?_ rfl ?_ ?_;rotate_left
 ·intro w zD;obtain⟨s0,r0,r1,r2,r3,r4,r5,r6⟩:=zD;go_simp;rfl
 try simp only[tn]
 refine zAA 3 ?_ rfl ?_ ?_;rotate_left
 ·intro w zD;obtain⟨s0,r0,r1,r2,r3,r4,r5,r6⟩:=zD;go_simp;rfl
 try simp only[tn]
 refine zAA 4 ?_ rfl ?_ ?_;rotate_left
 ·intro w zD;obtain⟨s0,r0,r1,r2,r3,r4,r5,r6⟩:=zD;go_simp;rfl
 try simp only[tn]
 refine zAA 5 ?_ rfl ?_ ?_;rotate_left
 ·intro w zD;obtain⟨s0,r0,r1,r2,r3,r4,r5,r6⟩:=zD;go_simp;rfl
 try simp only[tn]
 refine zAA 6 ?_ rfl ?_ ?_;rotate_left
 ·intro w zD;obtain⟨s0,r0,r1,r2,r3,r4,r5,r6⟩:=zD;go_simp;rfl
 try simp only[tn]
 refine zAA 7 ?_ rfl ?_ ?_;rotate_left
 ·intro w zD;obtain⟨s0,r0,r1,r2,r3,r4,r5,r6⟩:=zD;go_simp;rfl
 try simp only[tn]
 refine zAC 8 rfl fun K hK=>?_
 obtain⟨u0,u1,u2,u3,u4,u5,u6⟩:=QF.row i hi
 obtain⟨cb,nv⟩:=QF.hB
 have Ep:=zF (o:=off+i*7) nv
 have DC:=zF (o:=off+i*7+1) nv
 have Fb:=zF (o:=off+i*7+2) nv
 have DF:=zF (o:=off+i*7+3) nv
 have Fq:=zF (o:=off+i*7+4) nv
 have Gp:=zF (o:=off+i*7+5) nv
 have F0:=zF (o:=off+i*7+6) nv
 have E3:=QF.row_set hi q GU
 have qY: ∀j,j≠B→(xJ W1 B (off+i*7) (.slice q.aS q.r.s.length q.cs) (.slice q.al q.r.l.length q.cl) (.int .i64 q.r.g) (.int .i64 q.r.ph) (.slice q.a1 q.r.m.length q.c1) (.slice q.a2 q.r.us.length q.c2) (.bool q.r.f)).heap[j]? =W1.heap[j]?:=fun j hj=>tZ W1 B (off+i*7) j _ _ _ _ _ _ _ hj
 have bs:=(qY L QF.ne).trans Ln
 have gC:Below w0.heap.size w0 (xJ W1 B (off+i*7) (.slice q.aS q.r.s.length q.cs) (.slice q.al q.r.l.length q.cl) (.int .i64 q.r.g) (.int .i64 q.r.ph) (.slice q.a1 q.r.m.length q.c1) (.slice q.a2 q.r.us.length q.c2) (.bool q.r.f)):=pk _ _ _ _ _ _ _ Nu QF.zb
 have Nl:=(qY pq hBp).trans YA
 have Zi:(xJ W1 B (off+i*7) (.slice q.aS q.r.s.length q.cs) (.slice q.al q.r.l.length q.cl) (.int .i64 q.r.g) (.int .i64 q.r.ph) (.slice q.a1 q.r.m.length q.c1) (.slice q.a2 q.r.us.length q.c2) (.bool q.r.f)).cell? ⟨L,0,none⟩=some (.slice (some ⟨B,off,none⟩) 3 cap)∧((xJ W1 B (off+i*7) (.slice q.aS q.r.s.length q.cs) (.slice q.al q.r.l.length q.cl) (.int .i64 q.r.g) (.int .i64 q.r.ph) (.slice q.a1 q.r.m.length q.c1) (.slice q.a2 q.r.us.length q.c2) (.bool q.r.f)).cell? ⟨pq,0,none⟩=some (.slice q.aS q.r.s.length q.cs)∧(xJ W1 B (off+i*7) (.slice q.aS q.r.s.length q.cs) (.slice q.al q.r.l.length q.cl) (.int .i64 q.r.g) (.int .i64 q.r.ph) (.slice q.a1 q.r.m.length q.c1) (.slice q.a2 q.r.us.length q.c2) (.bool q.r.f)).cell? ⟨pq,1,none⟩=some (.slice q.al q.r.l.length q.cl)∧(xJ W1 B (off+i*7) (.slice q.aS q.r.s.length q.cs) (.slice q.al q.r.l.length q.cl) (.int .i64 q.r.g) (.int .i64 q.r.ph) (.slice q.a1 q.r.m.length q.c1) (.slice q.a2 q.r.us.length q.c2) (.bool q.r.f)).cell? ⟨pq,2,none⟩=some (.int .i64 q.r.g)∧(xJ W1 B (off+i*7) (.slice q.aS q.r.s.length q.cs) (.slice q.al q.r.l.length q.cl) (.int .i64 q.r.g) (.int .i64 q.r.ph) (.slice q.a1 q.r.m.length q.c1) (.slice q.a2 q.r.us.length q.c2) (.bool q.r.f)).cell? ⟨pq,3,none⟩=some (.int .i64 q.r.ph)∧(xJ W1 B (off+i*7) (.slice q.aS q.r.s.length q.cs) (.slice q.al q.r.l.length q.cl) (.int .i64 q.r.g) (.int .i64 q.r.ph) (.slice q.a1 q.r.m.length q.c1) (.slice q.a2 q.r.us.length q.c2) (.bool q.r.f)).cell? ⟨pq,4,none⟩=some (.slice q.a1 q.r.m.length q.c1)∧(xJ W1 B (off+i*7) (.slice q.aS q.r.s.length q.cs) (.slice q.al q.r.l.length q.cl) (.int .i64 q.r.g) (.int .i64 q.r.ph) (.slice q.a1 q.r.m.length q.c1) (.slice q.a2 q.r.us.length q.c2) (.bool q.r.f)).cell? ⟨pq,5,none⟩=some (.slice q.a2 q.r.us.length q.c2)∧(xJ W1 B (off+i*7) (.slice q.aS q.r.s.length q.cs) (.slice q.al q.r.l.length q.cl) (.int .i64 q.r.g) (.int .i64 q.r.ph) (.slice q.a1 q.r.m.length q.c1) (.slice q.a2 q.r.us.length q.c2) (.bool q.r.f)).cell? ⟨pq,6,none⟩=some (.bool q.r.f)):=⟨by rw[cell_of_row _ _ _ _ _ _ bs];rfl,zI Nl⟩
 clear Ln Nu YA qY
 go_simp
 refine hK _ _ (fun _=>Zi) ?_
 clear hK K
 try simp only[tn]
 generalize hW6:(xJ W1 B (off+i*7) (.slice q.aS q.r.s.length q.cs) (.slice q.al q.r.l.length q.cl) (.int .i64 q.r.g) (.int .i64 q.r.ph) (.slice q.a1 q.r.m.length q.c1) (.slice q.a2 q.r.us.length q.c2) (.bool q.r.f))=W6 at E3 bs gC Nl Zi
 unfold xJ at hW6
 rw[hW6]
 clear hW6 u0 u1 u2 u3 u4 u5 u6 Ep DC Fb DF Fq Gp F0 nv QF Zi Nl GU
 refine zAE ?_
 have HF:Hid (PO (.returned (.tuple #[.bool true,.int .i64 0])) W6):=by
  unfold Hid
  rw[xY.out]
  exact⟨gC,.inr ⟨Fx.out,rfl,q,Nv.out,bs,E3⟩⟩
 clear E3 gC bs
 go_wp2
 exact HF.out
structure Ac where
 k:Int
 o:Int
 up:Int
 la:Int
 m:List Ob
 us:List Up
 f:Bool
abbrev Ac.val(x:Ac)(am:Option Addr)(cm:Nat)(au:Option Addr)(cu:Nat):Value:=.agg #[.int .i64 x.k,.int .i64 x.o,.int .i64 x.up,.int .i64 x.la,.slice am x.m.length cm,.slice au x.us.length cu,.bool x.f]
abbrev Ac.blk(x:Ac)(am:Option Addr)(cm:Nat)(au:Option Addr)(cu:Nat):Obj:=.cells #[.int .i64 x.k,.int .i64 x.o,.int .i64 x.up,.int .i64 x.la,.slice am x.m.length cm,.slice au x.us.length cu,.bool x.f] 81
def ul(x:Ac):Bool:=x.up != 0||x.la != 0||decide (0<x.m.length)||decide (0<x.us.length)||x.f
def vx(x:Ac):Int:=if x.k=1 then(if x.o=0 then 0 else 1)else if x.k=2∨x.k=3 then(if ul x=true then 1 else if x.o<0∨3≤x.o then 3 else 0)else 7
theorem UY(k o up la:Int)(am:Option Addr)(n cm:Nat)(au:Option Addr)(n2 cu:Nat)(f:Bool)(w:World):
  Calls Tryz.prog 152 #[.agg #[.int .i64 k,.int .i64 o,.int .i64 up,.int .i64 la,.slice am n cm,.slice au n2 cu,.bool f]] w fun e w'=>e= .returned (.bool (up != 0||la != 0||decide (0<n)||decide (0<n2)||f))∧Below w.heap.size w w':=by
 have hB:=zV w (.cells #[.int .i64 k,.int .i64 o,.int .i64 up,.int .i64 la,.slice am n cm,.slice au n2 cu,.bool f] 81) (.cells #[.slice am n cm,.slice au n2 cu,.bool f] 28)
 go_enter Tryz.func152,Tryz.ntmps152
 by_cases hu:up=0
 case neg=>
  have z:(up != 0)=true:=by simpa using hu
  have HR:Hid ((up != 0||la != 0||decide (0<n)||decide (0<n2)||f)=true):=by unfold Hid;rw[z];rfl
  clear hu
  go_wp2
  go_ret
  exact⟨yI HR.out.symm,hB⟩
 have z0:(up != 0)=false:=by simpa using hu
 by_cases hl:la=0
 case neg=>
  have z:(la != 0)=true:=by simpa using hl
  have HR:Hid ((up != 0||la != 0||decide (0<n)||decide (0<n2)||f)=true):=by unfold Hid;rw[z0,z];rfl
  clear hu hl
  go_wp2
  go_ret
  exact⟨yI HR.out.symm,hB⟩
 have z1:(la != 0)=false:=by simpa using hl
 have HP:Hid ((up != 0||la != 0||decide (0<n)||decide (0<n2)||f)=(decide (0<n)||decide (0<n2)||f)):=by unfold Hid;rw[z0,z1];rfl
 clear hu hl
 by_cases hm:0<n
 case pos=>
  have HR:Hid ((up != 0||la != 0||decide (0<n)||decide (0<n2)||f)=true):=by unfold Hid;rw[HP.out,decide_eq_true hm];rfl
  go_wp2
  go_ret
  exact⟨yI HR.out.symm,hB⟩
 by_cases hs:0<n2
 case pos=>
  have HR:Hid ((up != 0||la != 0||decide (0<n)||decide (0<n2)||f)=true):=by unfold Hid;rw[HP.out,decide_eq_true hs,decide_eq_false hm];rfl
  go_wp2
  go_ret
  exact⟨yI HR.out.symm,hB⟩
 have HR:Hid ((up != 0||la != 0||decide (0<n)||decide (0<n2)||f)=f):=by unfold Hid;rw[HP.out,decide_eq_false hs,decide_eq_false hm];rfl
 go_wp2
 go_ret
 exact⟨yI HR.out.symm,hB⟩
theorem Un(x:Ac)(am:Option Addr)(cm:Nat)(au:Option Addr)(cu:Nat)(w:World):
  Calls Tryz.prog 152 #[x.val am cm au cu] w fun e w'=>e= .returned (.bool (ul x))∧Below w.heap.size w w':=UY x.k x.o x.up x.la am x.m.length cm au x.us.length cu x.f w
theorem YI(x:Ac)(am:Option Addr)(cm:Nat)(au:Option Addr)(cu:Nat)(w:World):
  Calls Tryz.prog 92 #[x.val am cm au cu] w fun e w'=>e= .returned (.int .i64 (vx x))∧Below w.heap.size w w':=by
 have hB:=zB w (x.blk am cm au cu)
 have hk:=heap_alloc_new w (x.blk am cm au cu)
 go_enter Tryz.func92,Tryz.ntmps92
 by_cases k1:x.k=1
 ·have z1:(x.k==1)=true:=by simpa using k1
  by_cases ho:x.o=0
  ·have HR:Hid (vx x=0):=by unfold Hid vx;rw[if_pos k1,if_pos ho]
   have z2:(x.o != 0)=false:=by simpa using ho
   clear k1 ho
   go_wp2
   go_ret
   exact⟨zE HR.out.symm,hB⟩
  ·have HR:Hid (vx x=1):=by unfold Hid vx;rw[if_pos k1,if_neg ho]
   have z2:(x.o != 0)=true:=by simpa using ho
   clear k1 ho
   go_wp2
   go_ret
   exact⟨zE HR.out.symm,hB⟩
 have z1:(x.k==1)=false:=by simpa using k1
 by_cases k23:x.k=2∨x.k=3
 case neg=>
  have HR:Hid (vx x=7):=by unfold Hid vx;rw[if_neg k1,if_neg k23]
  have z2:(x.k==2)=false:=by simp;omega
  have z3:(x.k==3)=false:=by simp;omega
  clear k1 k23
  go_wp2
  go_ret
  exact⟨zE HR.out.symm,hB⟩
 have HA:Hid (vx x=if ul x=true then 1 else if x.o<0∨3≤x.o then 3 else 0):=by unfold Hid vx;rw[if_neg k1,if_pos k23]
 obtain⟨b2,zZ⟩: ∃b,b=(x.k==2):=⟨_,rfl⟩
 have z3:b2=false→(x.k==3)=true:=fun e=>by
  rcases k23 with q|q
  ·rw[zZ]at e;simp[q]at e
  ·simpa using q
 have z2:(x.k==2)=b2:=zZ.symm
 clear k1 k23 zZ
 have hpu:=Un x am cm au cu (w.alloc (x.blk am cm au cu))
 have fin: ∀b:Bool,b=b2→True:=fun _ _=>trivial
 clear fin
 cases b2 with
 |true=>
  clear z3
  go_wp2_with fail
  refine hpu.mono ?_
  clear hpu
  rintro e w1 ⟨rfl,zM⟩
  have xa:=zA5 zM hk
  have zT:=bt hB zM
  clear zM hB hk
  obtain⟨y0,y1,y2,y3,y4,y5,y6⟩:=zI xa
  clear xa
  cases hp:ul x with
  |true=>
   have HR:Hid (vx x=1):=by unfold Hid;rw[HA.out,if_pos hp]
   clear HA hp
   go_wp2
   go_ret
   exact⟨zE HR.out.symm,zT⟩
  |false=>
   have Ko:Hid (vx x=if x.o<0∨3≤x.o then 3 else 0):=by unfold Hid;rw[HA.out,if_neg (by rw[hp];simp)]
   clear HA hp
   by_cases ho:x.o<0∨3≤x.o
   ·have HR:Hid (vx x=3):=by unfold Hid;rw[Ko.out,if_pos ho]
    clear Ko
    rcases ho with ho|ho
    ·go_wp2
     go_ret
     exact⟨zE HR.out.symm,zT⟩
    ·have h0: ¬x.o<0:=by omega
     go_wp2
     go_ret
     exact⟨zE HR.out.symm,zT⟩
   ·have HR:Hid (vx x=0):=by unfold Hid;rw[Ko.out,if_neg ho]
    have h0: ¬x.o<0:=by omega
    have h1: ¬3≤x.o:=by omega
    clear Ko ho
    go_wp2
    go_ret
    exact⟨zE HR.out.symm,zT⟩
 |false=>
  have z4:=z3 rfl
  clear z3
  go_wp2_with fail
  refine hpu.mono ?_
  clear hpu
  rintro e w1 ⟨rfl,zM⟩
  have xa:=zA5 zM hk
  have zT:=bt hB zM
  clear zM hB hk
  obtain⟨y0,y1,y2,y3,y4,y5,y6⟩:=zI xa
  clear xa
  cases hp:ul x with
  |true=>
   have HR:Hid (vx x=1):=by unfold Hid;rw[HA.out,if_pos hp]
   clear HA hp
   go_wp2
   go_ret
   exact⟨zE HR.out.symm,zT⟩
  |false=>
   have Ko:Hid (vx x=if x.o<0∨3≤x.o then 3 else 0):=by unfold Hid;rw[HA.out,if_neg (by rw[hp];simp)]
   clear HA hp
   by_cases ho:x.o<0∨3≤x.o
   ·have HR:Hid (vx x=3):=by unfold Hid;rw[Ko.out,if_pos ho]
    clear Ko
    rcases ho with ho|ho
    ·go_wp2
     go_ret
     exact⟨zE HR.out.symm,zT⟩
    ·have h0: ¬x.o<0:=by omega
     go_wp2
     go_ret
     exact⟨zE HR.out.symm,zT⟩
   ·have HR:Hid (vx x=0):=by unfold Hid;rw[Ko.out,if_neg ho]
    have h0: ¬x.o<0:=by omega
    have h1: ¬3≤x.o:=by omega
    clear Ko ho
    go_wp2
    go_ret
    exact⟨zE HR.out.symm,zT⟩
theorem mv.wide{w:World}{z y y':Nat}{P:World→Prop}(h:mv w z y P)(hy:y≤y')(hw:y'≤w.heap.size):mv w z y' P:=
 ⟨hw,fun w' hs hk=>h.2 w' (Nat.le_trans hy hs) (fun k a b=>hk k a (Nat.lt_of_lt_of_le b hy))⟩
theorem xb{w:World}{L t:Nat}{v u:Value}(h:w.heap[L]? =some (.cells #[v] t)):(w.setCell ⟨L,0,none⟩ u).heap[L]? =some (.cells #[u] t):=by
 have:=heap_setCell_same w L 0 _ t u h
 simpa using this
theorem XN(x:Ac)(a:Option Addr)(c:Nat)(l:List Rq)(am:Option Addr)(cm:Nat)(au:Option Addr)(cu:Nat)(w:World)(hg:xr w)(ht:bP w)(h:zy w a l)(ZY:l.length≤c)(qt:c≤9223372036854775807)
  (hm:zP w am x.m) (hml:x.m.length≤9223372036854775807) (hu:zx w au x.us) (hul:x.us.length≤9223372036854775807):
  Calls Tryz.prog 11 #[.agg #[.slice a l.length c],uw am x.m.length cm au x.us.length cu x.f,.int .i64 x.up,.int .i64 x.la] w fun e w'=>∃(aN:Option Addr) (cN:Nat) (dN:Bool) (qs:List Rq),e= .returned (.tuple #[.agg #[.slice aN qs.length cN],.bool dN,.int .i64 (pE (l.map Rq.r) x.m x.us x.f x.up x.la)])∧Below w.heap.size w w'∧mv w' w.heap.size w'.heap.size (fun W=>zy W aN qs)∧Hid ((pE (l.map Rq.r) x.m x.us x.f x.up x.la)=0→qs.map Rq.r=(eL (l.map Rq.r) x.m x.us x.f x.up x.la)∧dN=(mb (l.map Rq.r) x.m x.us x.f x.up x.la)∧(∃B,aN=some ⟨B,0,none⟩)∧qs.length≤cN∧cN≤9223372036854775807∧qs.length=3)∧Hid (¬(pE (l.map Rq.r) x.m x.us x.f x.up x.la)=0→dN=false):=by
 refine(NS a c l am cm x.m au cu x.us x.f x.up x.la w hg ht h ZY qt hm hml hu hul).mono ?_
 rintro e w' ⟨hb,⟨yM,rfl⟩|⟨hz,B,cap,qs,rfl,hq,hD,h3,hmx⟩⟩
 ·exact⟨none,0,false,[],rfl,hb,⟨Nat.le_refl _,fun _ _ _ i hi=>by simp at hi⟩,fun e=>absurd e yM,fun _=>rfl⟩
 ·have hl:qs.length=3:=by have:=congrArg List.length hq;simpa[eL]using this
  refine⟨some ⟨B,0,none⟩,cap,_,qs,?_,hb,hD,fun _=>⟨hq,rfl,⟨B,rfl⟩,by omega,hmx,hl⟩,fun e=>absurd hz e⟩
  rw[hl,hz]
theorem aC(w0:World)(L:Nat)(x:Ac)(a:Option Addr)(c:Nat)(l:List Rq)(am:Option Addr)(cm:Nat)(au:Option Addr)(cu:Nat)(w:World)(sP:Below w0.heap.size w0 w)(PS:w0.heap.size≤L)(hL:w.heap[L]? =some (.cells #[.slice a l.length c] 138))(hg:xr w)(ht:bP w)(h:zy w a l)(ZY:l.length≤c)(qt:c≤9223372036854775807)
  (hm:zP w am x.m) (hml:x.m.length≤9223372036854775807) (hu:zx w au x.us) (hul:x.us.length≤9223372036854775807):
  Calls Tryz.prog 153 #[.pointer (some ⟨L,0,none⟩),x.val am cm au cu] w fun e w'=>∃(aN:Option Addr) (cN:Nat) (dN:Bool) (qs:List Rq),e= .returned (.tuple #[.bool dN,.int .i64 (pE (l.map Rq.r) x.m x.us x.f x.up x.la)])∧Below w0.heap.size w0 w'∧w'.heap[L]? =some (.cells #[.slice aN qs.length cN] 138)∧w.heap.size≤w'.heap.size∧mv w' w.heap.size w'.heap.size (fun W=>zy W aN qs)∧Hid ((pE (l.map Rq.r) x.m x.us x.f x.up x.la)=0→qs.map Rq.r=(eL (l.map Rq.r) x.m x.us x.f x.up x.la)∧dN=(mb (l.map Rq.r) x.m x.us x.f x.up x.la)∧(∃B,aN=some ⟨B,0,none⟩)∧qs.length≤cN∧cN≤9223372036854775807∧qs.length=3)∧Hid (¬(pE (l.map Rq.r) x.m x.us x.f x.up x.la)=0→dN=false):=by
 obtain⟨PO,xY⟩: ∃P:Ending→World→Prop,Hid (∀e w',P e w'↔∃(aN:Option Addr) (cN:Nat) (dN:Bool) (qs:List Rq),e= .returned (.tuple #[.bool dN,.int .i64 (pE (l.map Rq.r) x.m x.us x.f x.up x.la)])∧Below w0.heap.size w0 w'∧w'.heap[L]? =some (.cells #[.slice aN qs.length cN] 138)∧w.heap.size≤w'.heap.size∧mv w' w.heap.size w'.heap.size (fun W=>zy W aN qs)∧Hid ((pE (l.map Rq.r) x.m x.us x.f x.up x.la)=0→qs.map Rq.r=(eL (l.map Rq.r) x.m x.us x.f x.up x.la)∧dN=(mb (l.map Rq.r) x.m x.us x.f x.up x.la)∧(∃B,aN=some ⟨B,0,none⟩)∧qs.length≤cN∧cN≤9223372036854775807∧qs.length=3)∧Hid (¬(pE (l.map Rq.r) x.m x.us x.f x.up x.la)=0→dN=false)):=⟨_,fun _ _=>Iff.rfl⟩
 suffices hs:Calls Tryz.prog 153 #[.pointer (some ⟨L,0,none⟩),x.val am cm au cu] w PO from hs.mono (fun e w' q=>(xY.out e w').1 q)
 have hLw:=zG hL
 have hA:=zB w (x.blk am cm au cu)
 have kA:=heap_alloc_new w (x.blk am cm au cu)
 have kK:=(hA.block _ hLw).trans hL
 go_enter Tryz.func153,Tryz.ntmps153
 go_upto_region 1 with fail
 have gB:w.heap.size<(w.alloc (x.blk am cm au cu)).heap.size:=zG kA
 generalize w.alloc (x.blk am cm au cu)=W1 at *
 have zk:=zU W1
 have zX:=bt hA zk
 have Vw:=zA5 zk kK
 have UX:=zA5 zk kA
 have DY:=zk.size
 clear kK kA zk hA
 refine zS (fun W=>(W.heap[L]? =some (.cells #[.slice a l.length c] 138))∧(W.heap[w.heap.size]? =some (.cells #[.int .i64 x.k,.int .i64 x.o,.int .i64 x.up,.int .i64 x.la,.slice am x.m.length cm,.slice au x.us.length cu,.bool x.f] 81))) (fun _=>false) (by kernel_rfl) ⟨Vw,UX⟩ (fun hS=>?_)
 clear hS
 generalize W1.drew=qe at *
 refine zAB 0 ?_ rfl ?_ ⟨Vw,UX⟩ ?_;rotate_left
 ·intro w zD;obtain⟨sK,sA⟩:=zD;have k0:=zJ sK;obtain⟨a0,a1,a2,a3,a4,a5,a6⟩:=zI sA;go_simp;rfl
 try simp only[tn]
 refine zAB 4 ?_ rfl ?_ ⟨Vw,UX⟩ ?_;rotate_left
 ·intro w zD;obtain⟨sK,sA⟩:=zD;have k0:=zJ sK;obtain⟨a0,a1,a2,a3,a4,a5,a6⟩:=zI sA;go_simp;rfl
 try simp only[tn]
 refine zAB 6 ?_ rfl ?_ ⟨Vw,UX⟩ ?_;rotate_left
 ·intro w zD;obtain⟨sK,sA⟩:=zD;have k0:=zJ sK;obtain⟨a0,a1,a2,a3,a4,a5,a6⟩:=zI sA;go_simp;rfl
 try simp only[tn]
 refine zAB 8 ?_ rfl ?_ ⟨Vw,UX⟩ ?_;rotate_left
 ·intro w zD;obtain⟨sK,sA⟩:=zD;have k0:=zJ sK;obtain⟨a0,a1,a2,a3,a4,a5,a6⟩:=zI sA;go_simp;rfl
 try simp only[tn]
 refine zAB 1 ?_ rfl ?_ ⟨Vw,UX⟩ ?_;rotate_left
 ·intro w zD;obtain⟨sK,sA⟩:=zD;have k0:=zJ sK;obtain⟨a0,a1,a2,a3,a4,a5,a6⟩:=zI sA;go_simp;rfl
 try simp only[tn]
 refine zAB 5 ?_ rfl ?_ ⟨Vw,UX⟩ ?_;rotate_left
 ·intro w zD;obtain⟨sK,sA⟩:=zD;have k0:=zJ sK;obtain⟨a0,a1,a2,a3,a4,a5,a6⟩:=zI sA;go_simp;rfl
 try simp only[tn]
 refine zAB 7 ?_ rfl ?_ ⟨Vw,UX⟩ ?_;rotate_left
 ·intro w zD;obtain⟨sK,sA⟩:=zD;have k0:=zJ sK;obtain⟨a0,a1,a2,a3,a4,a5,a6⟩:=zI sA;go_simp;rfl
 try simp only[tn]
 refine zAB 9 ?_ rfl ?_ ⟨Vw,UX⟩ ?_;rotate_left
 ·intro w zD;obtain⟨sK,sA⟩:=zD;have k0:=zJ sK;obtain⟨a0,a1,a2,a3,a4,a5,a6⟩:=zI sA;go_simp;rfl
 try simp only[tn]
 refine zAB 2 ?_ rfl ?_ ⟨Vw,UX⟩ ?_;rotate_left
 ·intro w zD;obtain⟨sK,sA⟩:=zD;have k0:=zJ sK;obtain⟨a0,a1,a2,a3,a4,a5,a6⟩:=zI sA;go_simp;rfl
 try simp only[tn]
 refine zAB 3 ?_ rfl ?_ ⟨Vw,UX⟩ ?_;rotate_left
 ·intro w zD;obtain⟨sK,sA⟩:=zD;have k0:=zJ sK;obtain⟨a0,a1,a2,a3,a4,a5,a6⟩:=zI sA;go_simp;rfl
 try simp only[tn]
 refine wpAnyE.two (i:=10) (j:=15) (by kernel_rfl) rfl rfl (fun K hK=>?_) (fun K hK=>?_)
 ·skip
  have Mo:=XN x a c l am cm au cu _ (hg.below zX) (ht.below zX) (h.below zX) ZY qt (hm.below zX) hml (hu.below zX) hul
  go_simp
  refine Mo.mono ?_
  clear Mo
  rintro e gv ⟨aN,cN,dN,qs,rfl,h,hD,HX,HY⟩
  have qQ:=bt zX h
  have TQ:=zA5 h Vw
  have V5:=zA5 h UX
  have Hr:=h.size
  clear Vw UX h zX
  refine hK _ _ (fun _=>⟨TQ,V5⟩) ?_
  clear hK K
  try simp only[tn]
  refine zAB 11 ?_ rfl ?_ ⟨TQ,V5⟩ ?_;rotate_left
  ·intro w zD;obtain⟨sK,sA⟩:=zD;have k0:=zJ sK;obtain⟨a0,a1,a2,a3,a4,a5,a6⟩:=zI sA;go_simp;rfl
  try simp only[tn]
  refine zAB 12 ?_ rfl ?_ ⟨TQ,V5⟩ ?_;rotate_left
  ·intro w zD;obtain⟨sK,sA⟩:=zD;have k0:=zJ sK;obtain⟨a0,a1,a2,a3,a4,a5,a6⟩:=zI sA;go_simp;rfl
  try simp only[tn]
  refine zAB 13 ?_ rfl ?_ ⟨TQ,V5⟩ ?_;rotate_left
  ·intro w zD;obtain⟨sK,sA⟩:=zD;have k0:=zJ sK;obtain⟨a0,a1,a2,a3,a4,a5,a6⟩:=zI sA;go_simp;rfl
  try simp only[tn]
  refine zAB 14 ?_ rfl ?_ ⟨TQ,V5⟩ ?_;rotate_left
  ·intro w zD;obtain⟨sK,sA⟩:=zD;have k0:=zJ sK;obtain⟨a0,a1,a2,a3,a4,a5,a6⟩:=zI sA;go_simp;rfl
  try simp only[tn]
  refine zAC 15 rfl fun K hK=>?_
  go_simp
  have ZZ:=zB gv (.cells #[.slice none 0 0] 24)
  have JG:=heap_alloc_new gv (.cells #[.slice none 0 0] 24)
  have zMN:gv.heap.size<(gv.alloc (.cells #[.slice none 0 0] 24)).heap.size:=by simp
  generalize gv.alloc (.cells #[.slice none 0 0] 24)=Yr at *
  have Pf:=bt qQ ZZ
  have FH:=zA5 ZZ TQ
  have G5:=zA5 ZZ V5
  have GC:=hD.below ZZ
  have BE:=ZZ.size
  clear TQ V5 hD ZZ qQ
  refine hK _ _ (fun _=>⟨FH,G5⟩) ?_
  clear hK K
  try simp only[tn]
  refine zAC 16 rfl fun K hK=>?_
  have zHH:=zF (o:=0) JG
  have zFE:=zJ JG
  have Cf:=heap_setCell_same Yr (gv.heap.size) 0 _ _ (.slice aN qs.length cN) JG
  have H6:Below _ _ (Yr.setCell ⟨gv.heap.size,0,none⟩ (.slice aN qs.length cN)):=Pf.setCell (by have:=Pf.size;show _≤gv.heap.size;omega) _
  have QL:=(heap_setCell_other Yr ⟨gv.heap.size,0,none⟩ (L) (.slice aN qs.length cN) (by show L≠gv.heap.size;omega)).trans FH
  have Gt:=(heap_setCell_other Yr ⟨gv.heap.size,0,none⟩ (w.heap.size) (.slice aN qs.length cN) (by show w.heap.size≠gv.heap.size;omega)).trans G5
  have Ge:=GC.set (p:=gv.heap.size) (o:=0) (v:=.slice aN qs.length cN) (by omega)
  have BW:Yr.heap.size≤(Yr.setCell ⟨gv.heap.size,0,none⟩ (.slice aN qs.length cN)).heap.size:=yX _ _ _
  go_simp
  generalize (Yr.setCell ⟨gv.heap.size,0,none⟩ (.slice aN qs.length cN))=W_26 at *
  clear zFE zHH FH G5 JG GC Pf
  simp only[List.setIfInBounds_toArray,List.set_cons_zero]at Cf
  refine hK _ _ (fun _=>⟨QL,Gt⟩) ?_
  clear hK K
  try simp only[tn]
  refine zAC 17 rfl fun K hK=>?_
  go_simp
  refine hK _ _ (fun _=>⟨QL,Gt⟩) ?_
  clear hK K
  try simp only[tn]
  refine zAC 18 rfl fun K hK=>?_
  go_simp
  refine hK _ _ (fun _=>⟨QL,Gt⟩) ?_
  clear hK K
  try simp only[tn]
  refine zAE ?_
  have zPV:=zF (o:=0) QL
  have Kc0:=zJ QL
  have Tc0:=zJ Cf
  have B8:=xb (u:=.slice aN qs.length cN) QL
  have Jl:Below w0.heap.size w0 (W_26.setCell ⟨L,0,none⟩ (.slice aN qs.length cN)):=((bt sP H6)).setCell PS _
  have GZ:=((Ge.set (p:=L) (o:=0) (v:=.slice aN qs.length cN) (.inl (by omega))).wide (y':=(W_26.setCell ⟨L,0,none⟩ (.slice aN qs.length cN)).heap.size) (by rw[World.size_setCell];omega) (Nat.le_refl _)).widen (z':=w.heap.size) (by omega)
  have HF:Hid (PO (.returned (.tuple #[.bool dN,.int .i64 (pE (l.map Rq.r) x.m x.us x.f x.up x.la)])) (W_26.setCell ⟨L,0,none⟩ (.slice aN qs.length cN))):=(xY.out _ _).2 ⟨aN,cN,dN,qs,rfl,Jl,B8,by rw[World.size_setCell];exact H6.size,GZ,HX,HY⟩
  clear Jl B8 GZ Ge HX HY
  go_wp2
  exact HF.out
 ·skip
  go_simp
  have Xg:=zB qe (.cells #[.slice none 0 0] 24)
  have zB9:=heap_alloc_new qe (.cells #[.slice none 0 0] 24)
  have zKJ:qe.heap.size<(qe.alloc (.cells #[.slice none 0 0] 24)).heap.size:=by simp
  generalize qe.alloc (.cells #[.slice none 0 0] 24)=W_37 at *
  have cF:=bt zX Xg
  have EI:=zA5 Xg Vw
  have FA:=zA5 Xg UX
  have Cm:=Xg.size
  clear Vw UX Xg zX
  refine hK _ _ (fun _=>⟨EI,FA⟩) ?_
  clear hK K
  try simp only[tn]
  refine zAC 10 rfl fun K hK=>?_
  have J6:=XN x a c l am cm au cu _ (hg.below cF) (ht.below cF) (h.below cF) ZY qt (hm.below cF) hml (hu.below cF) hul
  go_simp
  refine J6.mono ?_
  clear J6
  rintro e Wi ⟨aN,cN,dN,qs,rfl,h,hD,HX,HY⟩
  have Md:=bt cF h
  have UL:=zA5 h EI
  have Vr:=zA5 h FA
  have JE:=zA5 h zB9
  have zMH:=h.size
  clear EI FA zB9 h cF
  refine hK _ _ (fun _=>⟨UL,Vr⟩) ?_
  clear hK K
  try simp only[tn]
  refine zAB 11 ?_ rfl ?_ ⟨UL,Vr⟩ ?_;rotate_left
  ·intro w zD;obtain⟨sK,sA⟩:=zD;have k0:=zJ sK;obtain⟨a0,a1,a2,a3,a4,a5,a6⟩:=zI sA;go_simp;rfl
  try simp only[tn]
  refine zAB 12 ?_ rfl ?_ ⟨UL,Vr⟩ ?_;rotate_left
  ·intro w zD;obtain⟨sK,sA⟩:=zD;have k0:=zJ sK;obtain⟨a0,a1,a2,a3,a4,a5,a6⟩:=zI sA;go_simp;rfl
  try simp only[tn]
  refine zAB 13 ?_ rfl ?_ ⟨UL,Vr⟩ ?_;rotate_left
  ·intro w zD;obtain⟨sK,sA⟩:=zD;have k0:=zJ sK;obtain⟨a0,a1,a2,a3,a4,a5,a6⟩:=zI sA;go_simp;rfl
  try simp only[tn]
  refine zAB 14 ?_ rfl ?_ ⟨UL,Vr⟩ ?_;rotate_left
  ·intro w zD;obtain⟨sK,sA⟩:=zD;have k0:=zJ sK;obtain⟨a0,a1,a2,a3,a4,a5,a6⟩:=zI sA;go_simp;rfl
  try simp only[tn]
  refine zAC 16 rfl fun K hK=>?_
  have zIM:=zF (o:=0) JE
  have zI6:=zJ JE
  have AH:=heap_setCell_same Wi (qe.heap.size) 0 _ _ (.slice aN qs.length cN) JE
  have Hu:Below _ _ (Wi.setCell ⟨qe.heap.size,0,none⟩ (.slice aN qs.length cN)):=Md.setCell (by have:=Md.size;show _≤qe.heap.size;omega) _
  have Qa:=(heap_setCell_other Wi ⟨qe.heap.size,0,none⟩ (L) (.slice aN qs.length cN) (by show L≠qe.heap.size;omega)).trans UL
  have F7:=(heap_setCell_other Wi ⟨qe.heap.size,0,none⟩ (w.heap.size) (.slice aN qs.length cN) (by show w.heap.size≠qe.heap.size;omega)).trans Vr
  have Jc:=hD.set (p:=qe.heap.size) (o:=0) (v:=.slice aN qs.length cN) (by omega)
  have zKN:Wi.heap.size≤(Wi.setCell ⟨qe.heap.size,0,none⟩ (.slice aN qs.length cN)).heap.size:=yX _ _ _
  go_simp
  generalize (Wi.setCell ⟨qe.heap.size,0,none⟩ (.slice aN qs.length cN))=W_54 at *
  clear zI6 zIM UL Vr JE hD Md
  simp only[List.setIfInBounds_toArray,List.set_cons_zero]at AH
  refine hK _ _ (fun _=>⟨Qa,F7⟩) ?_
  clear hK K
  try simp only[tn]
  refine zAC 17 rfl fun K hK=>?_
  go_simp
  refine hK _ _ (fun _=>⟨Qa,F7⟩) ?_
  clear hK K
  try simp only[tn]
  refine zAC 18 rfl fun K hK=>?_
  go_simp
  refine hK _ _ (fun _=>⟨Qa,F7⟩) ?_
  clear hK K
  try simp only[tn]
  refine zAE ?_
  have zQO:=zF (o:=0) Qa
  have Kc0:=zJ Qa
  have Tc0:=zJ AH
  have zA8:=xb (u:=.slice aN qs.length cN) Qa
  have Ju:Below w0.heap.size w0 (W_54.setCell ⟨L,0,none⟩ (.slice aN qs.length cN)):=((bt sP Hu)).setCell PS _
  have GE:=((Jc.set (p:=L) (o:=0) (v:=.slice aN qs.length cN) (.inl (by omega))).wide (y':=(W_54.setCell ⟨L,0,none⟩ (.slice aN qs.length cN)).heap.size) (by rw[World.size_setCell];omega) (Nat.le_refl _)).widen (z':=w.heap.size) (by omega)
  have HF:Hid (PO (.returned (.tuple #[.bool dN,.int .i64 (pE (l.map Rq.r) x.m x.us x.f x.up x.la)])) (W_54.setCell ⟨L,0,none⟩ (.slice aN qs.length cN))):=(xY.out _ _).2 ⟨aN,cN,dN,qs,rfl,Ju,zA8,by rw[World.size_setCell];exact Hu.size,GE,HX,HY⟩
  clear Ju zA8 GE Jc HX HY
  go_wp2
  exact HF.out
abbrev m9(Q:Nat→Rq):List Rp:=[(Q 0).r,(Q 1).r,(Q 2).r]
theorem eV(Q:Nat→Rq){i:Nat}(hi:i<3):yq (m9 Q) i=(Q i).r:=by
 have:i=0∨i=1∨i=2:=by omega
 rcases this with rfl|rfl|rfl<;>rfl
theorem eC(w0:World)(L B cap:Nat)(Q:Nat→Rq)(i:Nat)(hi:i<3)(w:World)(hg:xr w)(sP:Below w0.heap.size w0 w)(PS:w0.heap.size≤L)(hL:w.heap[L]? =some (NJ B 0 cap))(hd:Rw w w0.heap.size L B 0 Q)(uO:3≤cap∧cap≤9223372036854775807)(nL:zi (m9 Q)=0):
  Calls Tryz.prog 154 #[.pointer (some ⟨L,0,none⟩),.int .i64 (i:Int)] w (p9 w0 L B 0 cap Q i (uZ (top (m9 Q)) (Q i).r) (uW (top (m9 Q)) (Q i).r)):=by
 have Uk: ∀(fn:Fn) (first cap:Array Value) (w:World),(Instr.makeFunc fn first cap).run Tryz.prog w= .ok (.func fn first cap) w:=fun _ _ _ _=>rfl
 obtain⟨PO,xY⟩: ∃P:Ending→World→Prop,Hid (P=p9 w0 L B 0 cap Q i (uZ (top (m9 Q)) (Q i).r) (uW (top (m9 Q)) (Q i).r)):=⟨_,rfl⟩
 rw[←xY.out]
 have y0:w.cell? ⟨L,0,none⟩=some (.slice (some ⟨B,0,none⟩) 3 cap):=by rw[cell_of_row _ _ _ _ _ _ hL];rfl
 have hn:Calls Tryz.prog 16 #[.agg #[.slice (some ⟨B,0,none⟩) 3 cap]] w fun e w'=>∃n:Nat,e= .returned (.tuple #[.int .i64 n,.int .i64 (zi (m9 Q))])∧Hid (zi (m9 Q)=0→n=za (yu [Q 0,Q 1,Q 2]) 3)∧Below w.heap.size w w':=
  fO (some ⟨B,0,none⟩) cap [Q 0,Q 1,Q 2] w hg hd.holds uO.1 uO.2
 go_enter Tryz.func154,Tryz.ntmps154
 go_wp2_with fail
 refine hn.mono ?_
 clear hn y0
 rintro e w1 ⟨n,rfl,Hn,zM⟩
 have fP:Hid (n=vp (m9 Q)):=(Hn.out nL).trans (dI [Q 0,Q 1,Q 2])
 have XF:n<3:=by rw[fP.out];exact ud rfl
 have zGI:Hid (top (m9 Q)=(Q n).r):=by
  unfold Hid
  show yq (m9 Q) (vp (m9 Q))=_
  rw[←fP.out,eV Q XF]
 rw[nL]
 rw[zGI.out]at xY
 have zRB:(n:Int)<3:=by omega
 have zT:=bt sP zM
 have YH:=hg.below zM
 have R1:=hd.below zM
 have LY:=zA5 zM hL
 have hLw:=zG hL
 have ZQ:=zM.size
 clear nL Hn zM hd hL sP fP
 have y0:w1.cell? ⟨L,0,none⟩=some (.slice (some ⟨B,0,none⟩) 3 cap):=by rw[cell_of_row _ _ _ _ _ _ LY];rfl
 obtain⟨x0,x1,x2,x3,x4,x5,x6⟩:=R1.row n XF
 rw[Nat.zero_add]at x0 x1 x2 x3 x4 x5 x6
 have hA:=zB w1 (Q n).blk
 have kp:=heap_alloc_new w1 (Q n).blk
 have R2:=R1.below hA
 have kL2:=zA5 hA LY
 have zj:=bt zT hA
 have ni:Calls Tryz.prog 205 #[(Q i).val,.pointer (some ⟨w1.heap.size,0,none⟩)] (w1.alloc (Q n).blk) (yA (uZ (Q n).r (Q i).r) (uW (Q n).r (Q i).r).s (Q n).r.l (Q n).r.g 0 [] [] false (w1.alloc (Q n).blk)):=
  VD (Q n) (Q i) w1.heap.size _ (YH.below hA) kp (R2.each n XF).self (R2.each i hi).self
 have H5:=Xk w0 L B 0 cap Q i hi w1.heap.size (uZ (Q n).r (Q i).r) (uW (Q n).r (Q i).r).s (Q n).r.l (Q n).r.g _ zj PS kL2 R2 ni
 clear ni R1 R2 LY kL2 kp hA zT zj
 go_wp2_with fail
 refine H5.mono ?_
 clear H5 x0 x1 x2 x3 x4 x5 x6 y0
 rintro e w2 ⟨hb,xK⟩
 rcases xK with⟨yM,rfl⟩|⟨hz,rfl,q,hq,CC,R2⟩
 ·have HF:Hid (PO (.returned (.tuple #[.bool false, .int .i64 (uZ (Q n).r (Q i).r)])) w2):=by rw[xY.out];exact⟨hb, .inl ⟨yM,rfl⟩⟩
  clear yM hb
  generalize uZ (Q n).r (Q i).r=E at *
  go_wp2
  exact HF.out
 ·have HF:Hid (PO (.returned (.tuple #[.bool true, .int .i64 0])) w2):=by rw[xY.out];exact⟨hb, .inr ⟨hz,rfl,q,hq,CC,R2⟩⟩
  clear hz hb hq CC R2
  go_wp2
  exact HF.out
def oN(x:Ac):Nat:=x.o.toNat
def Tl(l:List Rp)(x:Ac):Int:=if x.k=2 then uZ (top l) (yq l (oN x))else(yq l (oN x)).err
def mc(l:List Rp)(x:Ac):Rp:=if x.k=2 then uW (top l) (yq l (oN x))else⟨(yq l (oN x)).s,(yq l (oN x)).l,(yq l (oN x)).g,0,[],[],false⟩
def dE(l:List Rp)(x:Ac):Int:=if x.k=1 then pE l x.m x.us x.f x.up x.la else Tl l x
def dT(l:List Rp)(x:Ac):Bool:=if x.k=1 then mb l x.m x.us x.f x.up x.la else true
def XP(R:Nat→Rp)(i:Nat)(r:Rp):Nat→Rp:=fun j=>if j=i then r else R j
def dL(l:List Rp)(x:Ac):List Rp:=if x.k=1 then eL l x.m x.us x.f x.up x.la else l3 (XP (yq l) (oN x) (mc l x))
def rS(l:List Rp)(x:Ac):Int:=if zi l≠0 then zi l else if vx x≠0 then vx x else dE l x
theorem gb{x:Ac}(h:vx x=0):(x.k=1∧x.o=0)∨(x.k≠1∧(x.k=2∨x.k=3)∧x.o=(oN x:Int)∧oN x<3∧ul x=false):=by
 unfold vx at h
 by_cases k1:x.k=1
 ·rw[if_pos k1]at h
  by_cases ho:x.o=0
  ·exact .inl ⟨k1,ho⟩
  ·rw[if_neg ho]at h;cases h
 ·rw[if_neg k1]at h
  by_cases k2:x.k=2∨x.k=3
  ·rw[if_pos k2]at h
   cases hp:ul x with
   |true=>rw[if_pos hp]at h;cases h
   |false=>
    rw[if_neg (by rw[hp];simp)]at h
    by_cases ho:x.o<0∨3≤x.o
    ·rw[if_pos ho]at h;cases h
    ·exact .inr ⟨k1,k2,by unfold oN;omega,by unfold oN;omega,rfl⟩
  ·rw[if_neg k2]at h;cases h
def mM(w0:World)(L:Nat)(l:List Rp)(x:Ac)(e:Ending)(w':World):Prop:=
 ∃dN:Bool,e= .returned (.tuple #[.bool dN, .int .i64 (dE l x)])∧Below w0.heap.size w0 w'∧
  (dE l x=0→dN=dT l x∧∃(B cap:Nat) (qs:List Rq),w'.heap[L]? =some (.cells #[.slice (some ⟨B,0,none⟩) 3 cap] 138)∧mv w' w0.heap.size w'.heap.size (fun W=>zy W (some ⟨B,0,none⟩) qs)∧qs.map Rq.r=dL l x∧3≤cap∧cap≤9223372036854775807)
theorem JL(Q:Nat→Rq)(i:Nat)(q:Rq):[jf Q i q 0,jf Q i q 1,jf Q i q 2].map Rq.r=l3 (XP (yq (m9 Q)) i q.r):=by
 have h: ∀j,j<3→(jf Q i q j).r=XP (yq (m9 Q)) i q.r j:=fun j hj=>by
  unfold XP
  by_cases e:j=i
  ·subst e;rw[tr,if_pos rfl]
  ·rw[vQ _ _ e,if_neg e,eV Q hj]
 simp only[List.map_cons,List.map_nil,l3]
 rw[h 0 (by omega),h 1 (by omega),h 2 (by omega)]
theorem mM.of_change{w0 w':World}{L B cap i:Nat}{Q:Nat→Rq}{x:Ac}{e:Ending}(uO:3≤cap∧cap≤9223372036854775807)(hk:x.k≠1)(hi:i=oN x)(h:p9 w0 L B 0 cap Q i (Tl (m9 Q) x) (mc (m9 Q) x) e w'):mM w0 L (m9 Q) x e w':=by
 obtain⟨hb,⟨yM,rfl⟩|⟨hz,rfl,q,hq,hL,R⟩⟩:=h
 ·refine⟨false,?_,hb,fun e=>?_⟩
  ·unfold dE;rw[if_neg hk]
  ·unfold dE at e;rw[if_neg hk]at e;exact absurd e yM
 ·refine⟨true,?_,hb,fun _=>⟨?_,B,cap, [jf Q i q 0,jf Q i q 1,jf Q i q 2],hL,R.dep,?_,uO.1,uO.2⟩⟩
  ·unfold dE;rw[if_neg hk,hz]
  ·unfold dT;rw[if_neg hk]
  ·unfold dL;rw[if_neg hk,JL,hq,hi]
theorem Wl(w0:World)(L B cap:Nat)(Q:Nat→Rq)(x:Ac)(am:Option Addr)(cm:Nat)(au:Option Addr)(cu:Nat)(w:World)(hg:xr w)(ht:bP w)(sP:Below w0.heap.size w0 w)(PS:w0.heap.size≤L)(hL:w.heap[L]? =some (NJ B 0 cap))(hd:Rw w w0.heap.size L B 0 Q)(uO:3≤cap∧cap≤9223372036854775807)(nL:zi (m9 Q)=0)(hact:vx x=0)
  (hm:zP w am x.m) (hml:x.m.length≤9223372036854775807) (hu:zx w au x.us) (hul:x.us.length≤9223372036854775807):
  Calls Tryz.prog 93 #[.pointer (some ⟨L,0,none⟩),x.val am cm au cu] w (mM w0 L (m9 Q) x):=by
 have Uk: ∀(fn:Fn) (first cap:Array Value) (w:World),(Instr.makeFunc fn first cap).run Tryz.prog w= .ok (.func fn first cap) w:=fun _ _ _ _=>rfl
 obtain⟨PO,xY⟩: ∃P:Ending→World→Prop,Hid (P=mM w0 L (m9 Q) x):=⟨_,rfl⟩
 rw[←xY.out]
 have hA:=zB w (x.blk am cm au cu)
 have kA:=heap_alloc_new w (x.blk am cm au cu)
 have LY:=zA5 hA hL
 have R1:=hd.below hA
 have zT:=bt sP hA
 have YH:=hg.below hA
 have ht1:=ht.below hA
 have ec:=hm.below hA
 have eM:=hu.below hA
 have hws:Hid (w0.heap.size≤(w.alloc (x.blk am cm au cu)).heap.size):=zT.size
 go_enter Tryz.func93,Tryz.ntmps93
 rcases gb hact with⟨k1,ho⟩|⟨k1,k23,ho,gA,-⟩
 ·have z1:(x.k==1)=true:=by simpa using k1
  have HE:Hid (dE (m9 Q) x=pE (m9 Q) x.m x.us x.f x.up x.la∧dT (m9 Q) x=mb (m9 Q) x.m x.us x.f x.up x.la∧dL (m9 Q) x=eL (m9 Q) x.m x.us x.f x.up x.la):=⟨by unfold dE;rw[if_pos k1],by unfold dT;rw[if_pos k1],by unfold dL;rw[if_pos k1]⟩
  have hc:=aC w0 L x (some ⟨B,0,none⟩) cap [Q 0,Q 1,Q 2] am cm au cu _ zT PS LY YH ht1 R1.holds uO.1 uO.2 ec hml eM hul
  clear k1 ho hact
  go_wp2_with fail
  generalize w.alloc (x.blk am cm au cu)=W1 at *
  refine hc.mono ?_
  clear hc kA LY R1 hA zT YH ht1 ec eM hL hd sP
  rintro e W2 ⟨aN,cN,dN,qs,rfl,hb,h2,hs,hD,HX,HY⟩
  obtain⟨E,hE⟩: ∃E,E=pE (List.map Rq.r [Q 0,Q 1,Q 2]) x.m x.us x.f x.up x.la:=⟨_,rfl⟩
  rw[←hE]at HX HY⊢
  have CP:dE (m9 Q) x=E:=HE.out.1.trans hE.symm
  have HF:Hid (PO (.returned (.tuple #[.bool dN,.int .i64 E])) W2):=by
   unfold Hid
   rw[xY.out]
   refine⟨dN,by rw[CP],hb,fun e=>?_⟩
   rw[CP]at e
   obtain⟨q1,q2,⟨B',rfl⟩,q4,q5,q6⟩:=HX.out e
   rw[q6]at h2 q4
   exact⟨by rw[HE.out.2.1];exact q2,B',cN,qs,h2,hD.widen hws.out,by rw[HE.out.2.2];exact q1,q4,q5⟩
  clear HX HY hD h2 hb HE hE CP
  go_wp2
  exact HF.out
 have z1:(x.k==1)=false:=by simpa using k1
 have XD:Hid (x.k≠1):=k1
 by_cases k2:x.k=2
 ·have z2:(x.k==2)=true:=by simpa using k2
  have HC:Hid (∀e w',p9 w0 L B 0 cap Q (oN x) (uZ (top (m9 Q)) (Q (oN x)).r) (uW (top (m9 Q)) (Q (oN x)).r) e w'→PO e w'):=fun e w' h=>by
   rw[xY.out]
   refine mM.of_change (B:=B) (i:=oN x) uO XD.out rfl ?_
   unfold Tl mc
   rw[if_pos k2,if_pos k2,eV Q gA]
   exact h
  have hc:=eC w0 L B cap Q (oN x) gA _ YH zT PS LY R1 uO nL
  rw[←ho]at hc
  clear k1 k2 k23 ho hact
  go_wp2_with fail
  generalize w.alloc (x.blk am cm au cu)=W1 at *
  refine hc.mono ?_
  clear hc kA LY R1 hA zT YH ht1 ec eM hL hd sP
  rintro e W2 h
  have hF:=HC.out e W2 h
  obtain⟨b,E,rfl⟩: ∃b E,e= .returned (.tuple #[.bool b,.int .i64 E]):=by
   obtain⟨_,⟨_,q⟩|⟨_,q,_⟩⟩:=h
   ·exact⟨_,_,q⟩
   ·exact⟨_,_,q⟩
  have HF:Hid (PO (.returned (.tuple #[.bool b,.int .i64 E])) W2):=hF
  clear h hF
  go_wp2
  exact HF.out
 ·have z2:(x.k==2)=false:=by simpa using k2
  have HC:Hid (∀e w',p9 w0 L B 0 cap Q (oN x) (Q (oN x)).r.err ⟨(Q (oN x)).r.s,(Q (oN x)).r.l,(Q (oN x)).r.g,0,[],[],false⟩ e w'→PO e w'):=fun e w' h=>by
   rw[xY.out]
   refine mM.of_change (B:=B) (i:=oN x) uO XD.out rfl ?_
   unfold Tl mc
   rw[if_neg k2,if_neg k2,eV Q gA]
   exact h
  have ni:=UV (Q (oN x)) _ YH (R1.each (oN x) gA).self
  have hc:=VF w0 L B 0 cap Q (oN x) gA (Q (oN x)).r.err (Q (oN x)).r.s (Q (oN x)).r.l (Q (oN x)).r.g _ zT PS LY R1 ni
  rw[←ho]at hc
  clear k1 k2 k23 ho hact ni
  go_wp2_with fail
  generalize w.alloc (x.blk am cm au cu)=W1 at *
  refine hc.mono ?_
  clear hc kA LY R1 hA zT YH ht1 ec eM hL hd sP
  rintro e W2 h
  have hF:=HC.out e W2 h
  obtain⟨b,E,rfl⟩: ∃b E,e= .returned (.tuple #[.bool b,.int .i64 E]):=by
   obtain⟨_,⟨_,q⟩|⟨_,q,_⟩⟩:=h
   ·exact⟨_,_,q⟩
   ·exact⟨_,_,q⟩
  have HF:Hid (PO (.returned (.tuple #[.bool b,.int .i64 E])) W2):=hF
  clear h hF
  go_wp2
  exact HF.out
def kX(l:List Rp)(x:Ac)(w:World)(e:Ending)(w':World):Prop:=
 Below w.heap.size w w'∧((rS l x≠0∧e= .returned (.tuple #[.agg #[.slice none 0 0],.bool false,.int .i64 (rS l x)]))∨
  (rS l x=0∧∃B cap qs,e= .returned (.tuple #[.agg #[.slice (some ⟨B,0,none⟩) 3 cap],.bool (dT l x),.int .i64 0])∧qs.map Rq.r=dL l x∧mv w' w.heap.size w'.heap.size (fun W=>zy W (some ⟨B,0,none⟩) qs)∧3≤cap∧cap≤9223372036854775807))
theorem kX.bad{l:List Rp}{x:Ac}{w w':World}{r:Int}(h:rS l x=r)(h0:r≠0)(hb:Below w.heap.size w w'):kX l x w (.returned (.tuple #[.agg #[.slice none 0 0],.bool false,.int .i64 r])) w':=
 ⟨hb,.inl ⟨by rw[h];exact h0,by rw[h]⟩⟩
def AP:Rq:=⟨⟨[],[],0,0,[],[],false⟩,none,0,none,0,none,0,none,0⟩
theorem KR{l:List Rp}{qs:List Rq}(h:qs.map Rq.r=l)(hl:qs.length=3):m9 (fun i=>qs.getD i AP)=l:=by
 match qs,hl with
 |[a,b,c],_=>rw[←h];rfl
theorem NY(x:Ac)(a:Option Addr)(c:Nat)(l:List Rq)(am:Option Addr)(cm:Nat)(au:Option Addr)(cu:Nat)(w:World)(hg:xr w)(ht:bP w)(h:zy w a l)(ZY:l.length≤c)(qt:c≤9223372036854775807)
  (hm:zP w am x.m) (hml:x.m.length≤9223372036854775807) (hu:zx w au x.us) (hul:x.us.length≤9223372036854775807):
  Calls Tryz.prog 41 #[.agg #[.slice a l.length c],x.val am cm au cu] w (kX (l.map Rq.r) x w):=by
 obtain⟨PO,xY⟩: ∃P:Ending→World→Prop,Hid (P=kX (l.map Rq.r) x w):=⟨_,rfl⟩
 rw[←xY.out]
 obtain⟨xa,xy,tv,hB⟩:=xN w (.cells #[.slice a l.length c] 24) (x.blk am cm au cu) (.cells #[.slice none 0 0] 24)
 have bn:Hid (((((w.alloc (.cells #[.slice a l.length c] 24)).alloc (x.blk am cm au cu)).alloc (.cells #[.slice none 0 0] 24))).heap.size=w.heap.size+3):=by unfold Hid;simp
 have y1:=zJ xa
 have hc:=kE a c l _ (hg.below hB) (h.below hB) ZY qt
 go_enter Tryz.func41,Tryz.ntmps41
 go_wp2_with fail
 generalize (((w.alloc (.cells #[.slice a l.length c] 24)).alloc (x.blk am cm au cu)).alloc (.cells #[.slice none 0 0] 24))=W0 at *
 refine hc.mono ?_
 clear hc y1
 rintro e W1 ⟨rfl,zM⟩
 have zT:=bt hB zM
 have j1:=zA5 zM xa
 have j2:=zA5 zM xy
 have j3:=zA5 zM tv
 have KC:Hid (Below W0.heap.size W0 W1):=zM
 by_cases e1:zi (l.map Rq.r)=0
 case neg=>
  have HF:Hid (∀w',Below w.heap.size w w'→PO (.returned (.tuple #[.agg #[.slice none 0 0],.bool false,.int .i64 (zi (l.map Rq.r))])) w'):=fun w' hb=>by
   rw[xY.out];exact kX.bad (by unfold rS;rw[if_pos e1]) e1 hb
  have q1:(zi (l.map Rq.r) != 0)=true:=by simpa using e1
  clear e1 zM xa xy tv j1 j2 KC
  generalize zi (l.map Rq.r)=E at *
  have f2:=zF (o:=0) j3
  have o2:=zJ j3
  have i0:=zJ (xb (u:=.slice none 0 0) j3)
  have HB:Hid (Below w.heap.size w (W1.setCell ⟨w.heap.size+2,0,none⟩ (.slice none 0 0))):=zT.setCell (by show w.heap.size≤w.heap.size+2;omega) _
  clear j3 zT hB
  go_wp2
  refine bodyPost_ret (v:=.tuple #[.agg #[.slice none 0 0],.bool false,.int .i64 E]) (by simp[results,Tryz.results41,go_sem,i0]) rfl ?_
  exact HF.out _ HB.out
 have HC:Hid (zi (l.map Rq.r)=0):=e1
 rw[e1]
 clear e1 xa xy tv
 obtain⟨y0,y1,y2,y3,y4,y5,y6⟩:=zI j2
 have hca:=YI x am cm au cu W1
 go_wp2_with fail
 refine hca.mono ?_
 clear hca y0 y1 y2 y3 y4 y5 y6
 rintro e W2 ⟨rfl,zZ⟩
 have zj:=bt zT zZ
 have NM:Hid (Below W0.heap.size W0 W2):=KC.out.trans (zZ.mono KC.out.size)
 have k1:=zA5 zZ j1
 have k2:=zA5 zZ j2
 have k3:=zA5 zZ j3
 clear zM zZ j1 j2 j3 zT KC
 by_cases e2:vx x=0
 case neg=>
  have HF:Hid (∀w',Below w.heap.size w w'→PO (.returned (.tuple #[.agg #[.slice none 0 0],.bool false,.int .i64 (vx x)])) w'):=fun w' hb=>by
   rw[xY.out];exact kX.bad (by unfold rS;rw[if_neg (fun e=>e HC.out),if_pos e2]) e2 hb
  have q1:(vx x != 0)=true:=by simpa using e2
  clear e2 k1 k2 NM
  generalize vx x=E at *
  have f2:=zF (o:=0) k3
  have o2:=zJ k3
  have i0:=zJ (xb (u:=.slice none 0 0) k3)
  have HB:Hid (Below w.heap.size w (W2.setCell ⟨w.heap.size+2,0,none⟩ (.slice none 0 0))):=zj.setCell (by show w.heap.size≤w.heap.size+2;omega) _
  clear k3 zj hB
  go_wp2
  refine bodyPost_ret (v:=.tuple #[.agg #[.slice none 0 0],.bool false,.int .i64 E]) (by simp[results,Tryz.results41,go_sem,i0]) rfl ?_
  exact HF.out _ HB.out
 have HA:Hid (vx x=0):=e2
 rw[e2]
 have Jn:Hid (rS (l.map Rq.r) x=dE (l.map Rq.r) x):=by unfold Hid rS;rw[if_neg (fun e=>e HC.out),if_neg (fun e=>e e2)]
 obtain⟨c1,c2,_⟩:=yr.1 HC.out
 have MD:l.length=3:=by rw[List.length_map]at c1;exact c1
 have Lj:Hid (∀q∈l,q.r.err=0):=fun q hq=>by
  obtain⟨i,hi,rfl⟩:=List.mem_iff_getElem.1 hq
  have:=c2 i (by omega)
  rwa[show yq (l.map Rq.r) i=l[i].r by simp[yq,hi]]at this
 have hc:=ZK a c l W2 (h.below zj) (by omega) Lj.out
 have y1:=zJ k1
 have nJ:Hid (l.length=3):=MD
 clear e2 c1 c2 Lj MD
 go_wp2_with fail
 refine hc.mono ?_
 clear hc y1
 rintro e W3 ⟨v,qs,rfl,ng,QS,yT⟩
 have ac:qs.length=3:=by
  have:=congrArg List.length ng
  rw[List.length_map,List.length_map,nJ.out]at this;exact this
 obtain⟨B,cap,rfl,uO⟩:=MZ QS ac
 have xL:=bt zj yT
 have mx:=NM.out.size
 have Gz:Hid (Below W0.heap.size W0 W3):=NM.out.trans (yT.mono NM.out.size)
 have m2:=zA5 yT k2
 have m3:=zA5 yT k3
 have QS':=QS.from (z':=W0.heap.size) mx
 have R0:=Rw.of_copy QS' ac AP (.cells #[.slice (some ⟨B,0,none⟩) 3 cap] 138)
 have hA:=zB W3 (.cells #[.slice (some ⟨B,0,none⟩) 3 cap] 138)
 have kL:=heap_alloc_new W3 (.cells #[.slice (some ⟨B,0,none⟩) 3 cap] 138)
 have n2:=zA5 hA m2
 have n3:=zA5 hA m3
 have xZ:=bt xL hA
 have zBN:Hid (Below W0.heap.size W0 (W3.alloc (.cells #[.slice (some ⟨B,0,none⟩) 3 cap] 138))):=Gz.out.trans (hA.mono Gz.out.size)
 have PS:W0.heap.size≤W3.heap.size:=Gz.out.size
 have EX:m9 (fun i=>qs.getD i AP)=l.map Rq.r:=KR ng ac
 have Ys:=Wl W0 W3.heap.size B cap (fun i=>qs.getD i AP) x am cm au cu _ (hg.below xZ) (ht.below xZ) zBN.out PS kL R0 uO (by rw[EX];exact HC.out) HA.out (hm.below xZ) hml (hu.below xZ) hul
 rw[EX]at Ys
 obtain⟨y0,y1,y2,y3,y4,y5,y6⟩:=zI n2
 clear EX R0 QS QS' kL m2 m3 k1 k2 k3 yT xL zj NM ng ac hA
 go_wp2_with fail
 generalize W3.alloc (.cells #[.slice (some ⟨B,0,none⟩) 3 cap] 138)=W4 at *
 refine Ys.mono ?_
 clear Ys y0 y1 y2 y3 y4 y5 y6 n2
 rintro e W5 ⟨dN,rfl,xu,fh⟩
 have Lz:=bn.out
 have n5:W5.heap[w.heap.size+2]? =some (.cells #[.slice none 0 0] 24):=(xu.block _ (by omega)).trans ((zBN.out.block _ (by omega)).symm.trans n3)
 have su:=bt hB xu
 have f2:=zF (o:=0) n5
 have o2:=zJ n5
 clear xu n3 xZ
 by_cases e3:dE (l.map Rq.r) x=0
 case neg=>
  have HF:Hid (∀w',Below w.heap.size w w'→PO (.returned (.tuple #[.agg #[.slice none 0 0],.bool false,.int .i64 (dE (l.map Rq.r) x)])) w'):=fun w' hb=>by
   rw[xY.out];exact kX.bad Jn.out e3 hb
  have q1:(dE (l.map Rq.r) x != 0)=true:=by simpa using e3
  clear e3 fh Jn
  generalize dE (l.map Rq.r) x=E at *
  have i0:=zJ (xb (u:=.slice none 0 0) n5)
  have HB:Hid (Below w.heap.size w (W5.setCell ⟨w.heap.size+2,0,none⟩ (.slice none 0 0))):=su.setCell (by show w.heap.size≤w.heap.size+2;omega) _
  clear n5 su hB
  go_wp2
  refine bodyPost_ret (v:=.tuple #[.agg #[.slice none 0 0],.bool false,.int .i64 E]) (by simp[results,Tryz.results41,go_sem,i0]) rfl ?_
  exact HF.out _ HB.out
 obtain⟨hdt,B',ux,qs',LS,hD,rU,CU,hmx⟩:=fh e3
 have HF:Hid (PO (.returned (.tuple #[.agg #[.slice (some ⟨B',0,none⟩) 3 ux],.bool dN,.int .i64 0])) (W5.setCell ⟨w.heap.size+2,0,none⟩ (.slice (some ⟨B',0,none⟩) 3 ux))):=by
  unfold Hid
  rw[xY.out]
  refine⟨su.setCell (by show w.heap.size≤w.heap.size+2;omega) _,.inr ⟨Jn.out.trans e3,B',ux,qs',by rw[hdt],rU,?_,CU,hmx⟩⟩
  refine mv.widen (z:=W0.heap.size) ?_ (by omega)
  exact(hD.set (p:=w.heap.size+2) (o:=0) (v:=.slice (some ⟨B',0,none⟩) 3 ux) (.inl (by omega))).wide (by rw[World.size_setCell];exact Nat.le_refl _) (Nat.le_refl _)
 have y0:=zJ LS
 have i0:=zJ (xb (u:=.slice (some ⟨B',0,none⟩) 3 ux) n5)
 rw[e3]
 clear fh hD rU LS n5 su hB hdt e3 Jn
 go_wp2
 refine bodyPost_ret (v:=.tuple #[.agg #[.slice (some ⟨B',0,none⟩) 3 ux],.bool dN,.int .i64 0]) (by simp[results,Tryz.results41,go_sem,i0]) rfl ?_
 exact HF.out
def Mt(r:Rf):ByteArray:=((r.name++(⟨#[61]⟩:ByteArray))++zz r.id)++(⟨#[59]⟩:ByteArray)
def ms(t:ByteArray):List Rf→ByteArray
 |[]=>t
 |r::l=>ms (t++Mt r) l
def jQ(r:Rp):ByteArray:=ms (zz r.g++(⟨#[58]⟩:ByteArray)) r.l
theorem cy: ∀(l:List Rf) (t:ByteArray) (r:Rf),ms t (l++[r])=ms t l++Mt r
 |[],_,_=>rfl
 |_::l,_,r=>cy l _ r
theorem Qf{r:Rf}(hn:r.name.size≤12)(h0:0≤r.id)(h1:r.id≤999):(Mt r).size≤17:=by
 have:=x9 r.id.toNat (by omega)
 rw[show((r.id.toNat:Nat):Int)=r.id by omega]at this
 unfold Mt
 rw[ByteArray.size_append,ByteArray.size_append,ByteArray.size_append]
 have e1:(⟨#[61]⟩:ByteArray).size=1:=rfl
 have e2:(⟨#[59]⟩:ByteArray).size=1:=rfl
 omega
def EJ(r:Rf):Prop:=r.name.size≤12∧0≤r.id∧r.id≤999
theorem cv: ∀(l:List Rf) (t:ByteArray),(∀r∈l,EJ r)→(ms t l).size≤t.size+l.length*17
 |[],t,_=>by simp[ms]
 |r::l,t,h=>by
  have h1:=cv l (t++Mt r) (fun v hv=>h v (by simp[hv]))
  obtain⟨a,b,c⟩:=h r (by simp)
  have h2:=Qf a b c
  rw[ByteArray.size_append]at h1
  rw[ms,List.length_cons]
  omega
theorem L4{r:Rp}(h:r.err=0):r.l.length≤8∧∀x∈r.l,EJ x:=by
 have hr:=nw h
 refine⟨(xc.1 hr).2.1,fun x hx=>⟨pb (((uI _ _).1 (xc.1 hr).2.2.1).1 x hx).1,?_⟩⟩
 have:=DP (xc.1 hr).1 (cV hr hx)
 omega
theorem Zx(n:Int)(h0:0≤n)(h1:n≤999)(w:World)(ht:bP w):Calls Tryz.prog 94 #[.int .i64 n] w fun e w'=>e= .returned (.string (zz n))∧Below w.heap.size w w':=by
 refine(Tryz.strconv_Itoa n (by omega) (by omega) w ht).mono ?_
 rintro e w' ⟨rfl,k,os,rfl⟩
 exact⟨rfl,ke w k os⟩
def N6(l:List Rp)(w:World)(e:Ending)(w':World):Prop:=
 Below w.heap.size w w'∧((zi l≠0∧e= .returned (.tuple #[.string ⟨#[]⟩,.int .i64 (zi l)]))∨(zi l=0∧e= .returned (.tuple #[.string (jQ (top l)),.int .i64 0])))
theorem M9(a:Option Addr)(c:Nat)(l:List Rq)(w:World)(hg:xr w)(ht:bP w)(h:zy w a l)(ZY:l.length≤c)(qt:c≤9223372036854775807):
  Calls Tryz.prog 42 #[.agg #[.slice a l.length c]] w (N6 (l.map Rq.r) w):=by
 obtain⟨PO,xY⟩: ∃P:Ending→World→Prop,Hid (P=N6 (l.map Rq.r) w):=⟨_,rfl⟩
 rw[←xY.out]
 have hA:=zB w (.cells #[.slice a l.length c] 24)
 have k1:=heap_alloc_new w (.cells #[.slice a l.length c] 24)
 have y1:=zJ k1
 have hc:=fO a c l _ (hg.below hA) (h.below hA) ZY qt
 go_enter Tryz.func42,Tryz.ntmps42
 go_wp2_with fail
 generalize w.alloc (.cells #[.slice a l.length c] 24)=W0 at *
 refine hc.mono ?_
 clear hc y1
 rintro e W1 ⟨at',rfl,Hat,zM⟩
 have zT:=bt hA zM
 have j1:=zA5 zM k1
 by_cases e1:zi (l.map Rq.r)=0
 case neg=>
  have HF:Hid (∀w',Below w.heap.size w w'→PO (.returned (.tuple #[.string ⟨#[]⟩,.int .i64 (zi (l.map Rq.r))])) w'):=fun w' hb=>by
   rw[xY.out];exact⟨hb,.inl ⟨e1,rfl⟩⟩
  have q1:(zi (l.map Rq.r) != 0)=true:=by simpa using e1
  clear e1 Hat zM hA k1 j1
  generalize zi (l.map Rq.r)=E at *
  go_wp2
  exact HF.out _ zT
 have HC:Hid (zi (l.map Rq.r)=0):=e1
 rw[e1]
 obtain⟨c1,c2,_⟩:=yr.1 e1
 have fP:Hid (at'=vp (l.map Rq.r)):=(Hat.out e1).trans (dI l)
 have zFO:at'<3:=by rw[fP.out];exact ud c1
 have MD:l.length=3:=by rw[List.length_map]at c1;exact c1
 have Et:at'<l.length:=by omega
 have MB:(at':Int)<(l.length:Int):=by omega
 have HQ:Hid (l[at'].r=top (l.map Rq.r)):=by
  show _=yq _ (vp _)
  rw[←fP.out];simp[yq,Et]
 have Df:l[at'].r.err=0:=by
  have:=c2 at' zFO
  rwa[show yq (l.map Rq.r) at'=l[at'].r by simp[yq,Et]]at this
 have Vh:=rV Df
 obtain⟨hR8,Jz⟩:=L4 Df
 have EU:Hid (∀x∈l[at'].r.l,EJ x):=Jz
 obtain⟨al,ol,rfl⟩:=h.some (by omega)
 have hh:=(h.below zT).at Et
 obtain⟨⟨x0,x1,x2,x3,x4,x5,x6⟩,BX⟩:=hh
 have y1:=zJ j1
 clear e1 Hat c1 c2 fP Df zM k1 hA Jz MD
 have hA:=zB W1 l[at'].blk
 have kN:=heap_alloc_new W1 l[at'].blk
 have zj:=bt zT hA
 have Kb:=BX.hl.below hA
 have nJ:Hid (l[at'].r.l.length≤8):=hR8
 have hit:=Zx l[at'].r.g Vh.1 Vh.2 _ (ht.below zj)
 obtain⟨z0,z1,z2,z3,z4,z5,z6⟩:=zI kN
 clear j1
 go_wp2_with fail
 generalize W1.alloc l[at'].blk=W2 at *
 refine hit.mono ?_
 clear hit x0 x1 x2 x3 x4 x5 x6 y1 z0 z1 z2 z3 z4 z5 z6
 rintro e W3 ⟨rfl,yT⟩
 have kN3:=zA5 yT kN
 have xL:=bt zj yT
 have Pb:=Kb.below yT
 have hs0:(zz l[at'].r.g).size≤3:=by
  have:=x9 l[at'].r.g.toNat (by omega)
  rwa[show((l[at'].r.g.toNat:Nat):Int)=l[at'].r.g by omega]at this
 have eJ:((zz l[at'].r.g).size:Int)+1≤9223372036854775807:=by omega
 obtain⟨Q,hQd⟩: ∃Q,Q=l[at']:=⟨_,rfl⟩
 rw[←hQd]at kN3 Pb hs0 eJ EU nJ HQ⊢
 have HSH:Hid (jQ (top (l.map Rq.r))=ms (zz Q.r.g++(⟨#[58]⟩:ByteArray)) Q.r.l):=by unfold Hid;rw[←HQ.out];rfl
 have Lg:Hid ((zz Q.r.g++(⟨#[58]⟩:ByteArray)).size≤4):=by unfold Hid;rw[ByteArray.size_append];have:(⟨#[58]⟩:ByteArray).size=1:=rfl;omega
 have zSR:Q.r.l.length≤8:=nJ.out
 obtain⟨z0,z1,z2,z3,z4,z5,z6⟩:=zI kN3
 clear hQd kN kN3 Kb yT zj hA HQ hR8 BX Vh
 generalize zz Q.r.g=J0 at *
 go_wp2
 obtain⟨t0,ht0⟩: ∃t0,t0=J0++(⟨#[58]⟩:ByteArray):=⟨_,rfl⟩
 rw[←ht0]at HSH Lg
 go_loopw [7,30] (fun t i wr=>∃(k:Nat) (s:ByteArray),t= .string s∧i= .int .i64 k∧k≤Q.r.l.length∧Hid (s=ms t0 (Q.r.l.take k))∧Below W3.heap.size W3 wr) (fun _ i _=>Q.r.l.length-(intOf i).toNat)
 case atStart=>exact⟨0,_,by rw[ht0];rfl,rfl,Nat.zero_le _,rfl,Below.refl _ _⟩
 case round=>
  clear z0 z1 z2 z3 z4 z5 z6 ht0
  obtain⟨k,s,rfl,rfl,hk,KH,vH⟩:=hrel
  by_cases zN:k<Q.r.l.length
  case neg=>
   have hs:s=jQ (top (l.map Rq.r)):=by
    rw[HSH.out,KH.out,List.take_of_length_le (by omega)]
   have HF:Hid (PO (.returned (.tuple #[.string s,.int .i64 0])) wr):=by
    unfold Hid;rw[xY.out]
    exact⟨(bt xL vH),.inr ⟨HC.out,by rw[hs]⟩⟩
   clear hs KH vH
   go_wp2
   exact HF.out
  have vg:(k:Int)<(Q.r.l.length:Int):=by omega
  obtain⟨b,off,ea,hb,hcR⟩:=(Pb.below vH) k zN
  obtain⟨u0,u1⟩:=hcR k zN
  obtain⟨ok1,ok2,ok3⟩:=EU.out Q.r.l[k] (List.getElem_mem zN)
  have gB:s.size≤1000:=by
   have:=cv (Q.r.l.take k) t0 (fun r hr=>EU.out r (List.mem_of_mem_take hr))
   rw[←KH.out,List.length_take]at this
   have:=Lg.out
   omega
  have hjz:=x9 Q.r.l[k].id.toNat (by omega)
  rw[show((Q.r.l[k].id.toNat:Nat):Int)=Q.r.l[k].id by omega]at hjz
  have HN:Hid (s++(((Q.r.l[k].name++(⟨#[61]⟩:ByteArray))++zz Q.r.l[k].id)++(⟨#[59]⟩:ByteArray))=ms t0 (Q.r.l.take (k+1))):=by
   unfold Hid
   rw[List.take_succ_eq_append_getElem zN,cy,←KH.out];rfl
  have hit:=fun(W:World) (hT:bP W)=>Zx Q.r.l[k].id ok2 ok3 W hT
  obtain⟨nm,eE⟩: ∃nm,nm=Q.r.l[k].name:=⟨_,rfl⟩
  obtain⟨J,hJ⟩: ∃J,J=zz Q.r.l[k].id:=⟨_,rfl⟩
  obtain⟨iv,hiv⟩: ∃iv,iv=Q.r.l[k].id:=⟨_,rfl⟩
  rw[←hJ]at HN hjz hit
  rw[←eE]at HN u0 ok1
  rw[←hiv]at u1 hit
  have s1: ¬9223372036854775807<nm.size+1:=by omega
  have s2: ¬9223372036854775807<nm.size+1+J.size:=by omega
  have s3: ¬9223372036854775807<nm.size+1+J.size+1:=by omega
  have s4: ¬9223372036854775807<s.size+(nm.size+1+J.size+1):=by omega
  clear eE hJ hiv ok1 ok2 ok3 hcR gB hjz KH
  have hA:=zB wr (.cells #[.string nm,.int .i64 iv] 65)
  have kR:=heap_alloc_new wr (.cells #[.string nm,.int .i64 iv] 65)
  have xZ:=bt vH hA
  rw[ea]
  go_upto_region 9 with fail
  generalize wr.alloc (.cells #[.string nm,.int .i64 iv] 65)=W4 at *
  clear u0 u1 hA vH hb
  have zk:=zU W4
  have zX:=bt xZ zk
  have Kp:=zA5 zk kR
  have Ma:=zk.size
  clear kR zk xZ
  refine zS (fun W=>(W.heap[wr.heap.size]? =some (.cells #[.string nm,.int .i64 iv] 65))) (fun _=>false) (by kernel_rfl) Kp (fun hS=>?_)
  clear hS
  generalize W4.drew=W_5 at *
  refine zAB 0 ?_ rfl ?_ Kp ?_;rotate_left
  ·intro w zD;obtain⟨a0,a1⟩:=jp zD;have s1:=s1;have s2:=s2;have s3:=s3;have s4:=s4;go_simp;rfl
  try simp only[tn]
  refine zAB 1 ?_ rfl ?_ Kp ?_;rotate_left
  ·intro w zD;obtain⟨a0,a1⟩:=jp zD;have s1:=s1;have s2:=s2;have s3:=s3;have s4:=s4;go_simp;rfl
  try simp only[tn]
  refine zAB 4 ?_ rfl ?_ Kp ?_;rotate_left
  ·intro w zD;obtain⟨a0,a1⟩:=jp zD;have s1:=s1;have s2:=s2;have s3:=s3;have s4:=s4;go_simp;rfl
  try simp only[tn]
  refine zAB 2 ?_ rfl ?_ Kp ?_;rotate_left
  ·intro w zD;obtain⟨a0,a1⟩:=jp zD;have s1:=s1;have s2:=s2;have s3:=s3;have s4:=s4;go_simp;rfl
  try simp only[tn]
  refine zAB 5 ?_ rfl ?_ Kp ?_;rotate_left
  ·intro w zD;obtain⟨a0,a1⟩:=jp zD;have s1:=s1;have s2:=s2;have s3:=s3;have s4:=s4;go_simp;rfl
  try simp only[tn]
  refine zAB 3 ?_ rfl ?_ Kp ?_;rotate_left
  ·intro w zD;obtain⟨a0,a1⟩:=jp zD;have s1:=s1;have s2:=s2;have s3:=s3;have s4:=s4;go_simp;rfl
  try simp only[tn]
  refine zAC 6 rfl fun K hK=>?_
  have N1:=hit _ (ht.below ((bt xL zX)))
  go_simp
  refine N1.mono ?_
  clear N1
  rintro e LR ⟨rfl,h⟩
  have L7:=bt zX h
  have BU:=zA5 h Kp
  have Jf:=h.size
  clear Kp h zX
  refine hK _ _ (fun _=>BU) ?_
  clear hK K
  try simp only[tn]
  refine zAB 7 ?_ rfl ?_ BU ?_;rotate_left
  ·intro w zD;obtain⟨a0,a1⟩:=jp zD;have s1:=s1;have s2:=s2;have s3:=s3;have s4:=s4;go_simp;rfl
  try simp only[tn]
  refine zAB 8 ?_ rfl ?_ BU ?_;rotate_left
  ·intro w zD;obtain⟨a0,a1⟩:=jp zD;have s1:=s1;have s2:=s2;have s3:=s3;have s4:=s4;go_simp;rfl
  try simp only[tn]
  refine zAB 9 ?_ rfl ?_ BU ?_;rotate_left
  ·intro w zD;obtain⟨a0,a1⟩:=jp zD;have s1:=s1;have s2:=s2;have s3:=s3;have s4:=s4;go_simp;rfl
  try simp only[tn]
  refine zAC 10 rfl fun K hK=>?_
  go_simp
  refine hK _ _ (fun _=>BU) ?_
  clear hK K
  try simp only[tn]
  refine zAE ?_
  go_wp2
  go_roundw
  case rel=>exact⟨k+1,_,rfl,by go_num,by omega,HN,L7⟩
  case measure=>simp[intOf];omega
def rI(l:List Rp)(x:Ac):List Rp:=if rS l x=0 then dL l x else l
def tm(l:List Rp)(x:Ac):Bool:=if rS l x=0 then dT l x else false
def vk(l:List Rp):List Ac→List Rp
 |[]=>l
 |x::xs=>vk (rI l x) xs
def sk(l:List Rp):List Ac→List Bool
 |[]=>[]
 |x::xs=>tm l x::sk (rI l x) xs
def ss(l:List Rp):List Ac→List Int
 |[]=>[]
 |x::xs=>rS l x::ss (rI l x) xs
theorem gU: ∀(xs:List Ac) (l:List Rp) (x:Ac),vk l (xs++[x])=rI (vk l xs) x
 |[],_,_=>rfl
 |_::xs,_,x=>gU xs _ x
theorem ga: ∀(xs:List Ac) (l:List Rp) (x:Ac),sk l (xs++[x])=sk l xs++[tm (vk l xs) x]
 |[],_,_=>rfl
 |y::xs,l,x=>congrArg (tm l y:: ·) (ga xs _ x)
theorem gZ: ∀(xs:List Ac) (l:List Rp) (x:Ac),ss l (xs++[x])=ss l xs++[rS (vk l xs) x]
 |[],_,_=>rfl
 |y::xs,l,x=>congrArg (rS l y:: ·) (gZ xs _ x)
theorem nr: ∀(xs:List Ac) (l:List Rp),(sk l xs).length=xs.length
 |[],_=>rfl
 |_::xs,_=>congrArg (· +1) (nr xs _)
theorem mB: ∀(xs:List Ac) (l:List Rp),(ss l xs).length=xs.length
 |[],_=>rfl
 |_::xs,_=>congrArg (· +1) (mB xs _)
structure Aq where
 x:Ac
 am:Option Addr
 cm:Nat
 au:Option Addr
 cu:Nat
structure AAt(w:World)(b o:Nat)(q:Aq):Prop where
 x0:w.cell? ⟨b,o,none⟩=some (.int .i64 q.x.k)
 x1:w.cell? ⟨b,o+1,none⟩=some (.int .i64 q.x.o)
 x2:w.cell? ⟨b,o+2,none⟩=some (.int .i64 q.x.up)
 x3:w.cell? ⟨b,o+3,none⟩=some (.int .i64 q.x.la)
 x4:w.cell? ⟨b,o+4,none⟩=some (.slice q.am q.x.m.length q.cm)
 x5:w.cell? ⟨b,o+5,none⟩=some (.slice q.au q.x.us.length q.cu)
 x6:w.cell? ⟨b,o+6,none⟩=some (.bool q.x.f)
theorem AAt.block{w w':World}{b o:Nat}{q:Aq}(h:AAt w b o q)(e:w'.heap[b]? =w.heap[b]?):AAt w' b o q:=
 ⟨(World.cell?_of_block (a:=⟨b,o,none⟩) e).trans h.x0,(World.cell?_of_block (a:=⟨b,o+1,none⟩) e).trans h.x1,(World.cell?_of_block (a:=⟨b,o+2,none⟩) e).trans h.x2,(World.cell?_of_block (a:=⟨b,o+3,none⟩) e).trans h.x3,(World.cell?_of_block (a:=⟨b,o+4,none⟩) e).trans h.x4,(World.cell?_of_block (a:=⟨b,o+5,none⟩) e).trans h.x5,(World.cell?_of_block (a:=⟨b,o+6,none⟩) e).trans h.x6⟩
structure Aq.H(w:World)(q:Aq):Prop where
 hm:zP w q.am q.x.m
 hml:q.x.m.length≤9223372036854775807
 hu:zx w q.au q.x.us
 hul:q.x.us.length≤9223372036854775807
theorem Aq.H.below{w w':World}{q:Aq}(h:q.H w)(hb:Below w.heap.size w w'):q.H w':=⟨h.hm.below hb,h.hml,h.hu.below hb,h.hul⟩
def uv(w:World)(a:Option Addr)(l:List Aq):Prop:=
 ∀i,i<l.length→∃b off,a=some ⟨b,off,none⟩∧b<w.heap.size∧∀i (h:i<l.length),AAt w b (off+i*7) l[i]∧l[i].H w
theorem uv.below{w w':World}{a:Option Addr}{l:List Aq}(h:uv w a l)(hb:Below w.heap.size w w'):uv w' a l:=by
 intro i hi
 obtain⟨b,off,e,zN,hc⟩:=h i hi
 exact⟨b,off,e,Nat.lt_of_lt_of_le zN hb.size,fun j hj=>⟨(hc j hj).1.block (hb.block b zN),(hc j hj).2.below hb⟩⟩
theorem Tryz.info4:(Tryz.prog.info? 4).map (fun i=>(i.zero,i.size,i.bytes))=some (some (.bool false),1,1):=by kernel_rfl
theorem Tryz.info29:(Tryz.prog.info? 29).map (fun i=>(i.zero,i.size,i.bytes))=some (some (.int .i64 0),1,8):=by kernel_rfl
theorem Tryz.under72:Tryz.prog.underlying 72=some (.slice 4):=by kernel_rfl
theorem Tryz.under73:Tryz.prog.underlying 73=some (.slice 29):=by kernel_rfl
theorem eP{t e bytes:Nat}{z:Value}(ht:Tryz.prog.underlying t=some (.slice e))(hi:(Tryz.prog.info? e).map (fun i=>(i.zero,i.size,i.bytes))=some (some z,1,bytes))(hz:z.cells.size=1)(hb:bytes≤8)
  (w:World) (base:Nat) (ty:TypeId) (v:Value) (n:Nat) (xs:List Value) (yj:w.ownsRow base e 1 v n xs) (vb:Nat) (u:Value) (hv:w.heap[vb]? =some (.cells #[u] e)) (h1:u.oneCell'=true) (hn:n≤1000) (xq:base≤w.heap.size):
  ∃v' w',(Builtin.append_ #[t,t] ty #[v,.slice (some ⟨vb,0,none⟩) 1 1]).run Tryz.prog w= .ok v' w'∧w'.ownsRow base e 1 v' (n+1) (xs++[u])∧w.grownBy w' v.ownBlock∧∀k,v'.ownBlock=some k→v.ownBlock=some k∨w.heap.size≤k:=by
 obtain⟨i0,sN,sW,xQ,pS⟩:=info_parts hi
 have tA:=World.news_of_block hv
 have h2: ∀x∈[u],x.oneCell'=true:=fun x hx=>by rw[List.mem_singleton.1 hx];exact h1
 have Zc: ∀m,m≤1001→m*bytes≤140737488355328:=fun m hm=>Nat.le_trans (Nat.mul_le_mul hm hb) (by omega)
 obtain⟨v',w',hr,q1,q2,_⟩:=run_append_own (P:=Tryz.prog) w base t ty e i0 _ 1 bytes ht sN sW xQ pS hz (by omega) v n xs yj ⟨vb,0,none⟩ 1 1 [u] rfl tA h2 (by unfold maxLen;omega) (Zc _ (by omega)) xq
 refine⟨v',w',hr,q1,q2,?_⟩
 rcases yj.2 with⟨rfl,rfl⟩|⟨g,cap,cur,rfl,hbg,hg,SK,qt,mz,htake⟩
 ·obtain⟨v2,w2,qZ,p1,_,_⟩:=run_append_own (P:=Tryz.prog) w w.heap.size t ty e i0 _ 1 bytes ht sN sW xQ pS hz (by omega) _ 0 [] (World.ownsRow_nil _ _ _ _) ⟨vb,0,none⟩ 1 1 [u] rfl tA h2 (by unfold maxLen;omega) (Zc _ (by omega)) (Nat.le_refl _)
  rw[hr]at qZ
  cases qZ
  exact fun k hk=>.inr (p1.lt k hk).1
 ·by_cases hroom:n+1≤cap
  ·have DD:n*i0.size+[u].length≤cur.size:=by rw[xQ,mz];simp only[List.length_singleton];omega
   have b6:=run_append_room (P:=Tryz.prog) w t ty e i0 ht sN g n cap cur hg ⟨vb,0,none⟩ 1 1 [u] (by rw[xQ];rfl) tA h2 hroom DD
   rw[hr]at b6
   cases b6
   exact fun k hk=>.inl hk
  ·have hold: ∀j x,xs[j]? =some x→w.cell? ((⟨g,0,none⟩:Addr).add j)=some x:=yj.cells (g:=g) rfl
   have b6:=run_append_grow (P:=Tryz.prog) w t ty e i0 _ ht sN sW ⟨g,0,none⟩ n cap xs (by rw[xQ];exact yj.1) hold ⟨vb,0,none⟩ 1 1 [u] (by rw[xQ];rfl) tA (by omega) (by omega) (growslice_fits (by omega) (by rw[pS];exact Zc _ (by omega)))
   rw[hr]at b6
   cases b6
   intro k hk
   simp only[Value.ownBlock,Option.some.injEq]at hk
   exact .inr (by omega)
structure pI(W6:World)(R:Nat)(l:List Rp)(T:List Bool)(E:List Int)(v7 v8:Value)(wr:World):Prop where
 low:Below W6.heap.size W6 wr
 own7:wr.ownsRow (W6.heap.size+1) 4 1 v7 T.length (T.map Value.bool)
 own8:wr.ownsRow (W6.heap.size+1) 29 1 v8 E.length (E.map (Value.int .i64))
 far:v7.ownBlock=none∨v7.ownBlock≠v8.ownBlock
 box: ∃B cap qs z y,wr.heap[W6.heap.size]? =some (.cells #[.slice (some ⟨B,0,none⟩) 3 cap] 24)∧(3≤cap∧cap≤9223372036854775807)∧qs.map Rq.r=l∧mv wr z y (fun W=>zy W (some ⟨B,0,none⟩) qs)∧(y≤W6.heap.size∨W6.heap.size<z)∧(y≤R∨R<z)∧(∀g,v7.ownBlock=some g→g<z∨y≤g)∧∀g,v8.ownBlock=some g→g<z∨y≤g
theorem pI.size{W6:World}{R:Nat}{l:List Rp}{T:List Bool}{E:List Int}{v7 v8:Value}{wr:World}(h:pI W6 R l T E v7 v8 wr):W6.heap.size+1≤wr.heap.size:=by
 obtain⟨_,_,_,_,_,hb,_⟩:=h.box
 exact zG hb
theorem pI.below{W6:World}{R:Nat}{l:List Rp}{T:List Bool}{E:List Int}{v7 v8:Value}{w w':World}(h:pI W6 R l T E v7 v8 w)(hb:Below w.heap.size w w'):pI W6 R l T E v7 v8 w':=by
 obtain⟨B,cap,qs,z,y,k,hc,hq,hD,h1,h0,h2,h3⟩:=h.box
 exact⟨h.low.trans (hb.mono h.low.size),zL h.own7 hb,zL h.own8 hb,h.far,B,cap,qs,z,y,(zA5 hb k),hc,hq,hD.below hb,h1,h0,h2,h3⟩
theorem pI.put{W6:World}{R:Nat}{l l':List Rp}{T:List Bool}{E:List Int}{v7 v8:Value}{w w':World}(h:pI W6 R l T E v7 v8 w)(hR:R<W6.heap.size)(hb:Below w.heap.size w w'){B cap:Nat}{qs:List Rq}{y:Nat}(hc:3≤cap∧cap≤9223372036854775807)(hq:qs.map Rq.r=l')(hD:mv w' w.heap.size y (fun W=>zy W (some ⟨B,0,none⟩) qs)):
  pI W6 R l' T E v7 v8 (w'.setCell ⟨W6.heap.size,0,none⟩ (.slice (some ⟨B,0,none⟩) 3 cap)):=by
 have h':=h.below hb
 have hs:=h.size
 obtain⟨_,_,_,_,_,k,_⟩:=h'.box
 have keep: ∀{e:TypeId} {v:Value} {n:Nat} {xs:List Value},w'.ownsRow (W6.heap.size+1) e 1 v n xs→(w'.setCell ⟨W6.heap.size,0,none⟩ (.slice (some ⟨B,0,none⟩) 3 cap)).ownsRow (W6.heap.size+1) e 1 v n xs:=fun {e v n xs} ho=>
  yi ho (fun g hg=>heap_setCell_other _ _ _ _ (by have:=(ho.lt g hg).1;show g≠W6.heap.size;omega))
 refine⟨h'.low.setCell (Nat.le_refl _) _,keep h'.own7,keep h'.own8,h'.far,B,cap,qs,w.heap.size,y,xb k,hc,hq,hD.set (.inl (by omega)),.inr (by omega),.inr (by omega),fun g hg=>.inl (h.own7.lt g hg).2,fun g hg=>.inl (h.own8.lt g hg).2⟩
theorem pI.told{W6:World}{R:Nat}{l:List Rp}{T:List Bool}{E:List Int}{v7 v8:Value}{w:World}(h:pI W6 R l T E v7 v8 w)(d:Bool)(hT:T.length≤1000):
  ∃v' w',(Builtin.append_ #[72,72] 72 #[v7,.slice (some ⟨w.heap.size,0,none⟩) 1 1]).run Tryz.prog (w.alloc (.cells #[.bool d] 4))= .ok v' w'∧pI W6 R l (T++[d]) E v' v8 w':=by
 have h':=h.below (zB w (.cells #[.bool d] 4))
 obtain⟨v',w',hr,ho,hg,hk⟩:=eP Tryz.under72 Tryz.info4 rfl (by omega) (w.alloc (.cells #[.bool d] 4)) (W6.heap.size+1) 72 v7 T.length (T.map Value.bool) h'.own7 w.heap.size (.bool d) (heap_alloc_new w _) rfl hT h'.size
 refine⟨v',w',hr,?_⟩
 obtain⟨B,cap,qs,z,y,k,hc,hq,hD,h1,h0,h2,h3⟩:=h'.box
 have hb:=uj h'.own7 hg h'.size
 have hy:=hD.1
 refine⟨h'.low.trans (hb.mono (by omega)),by rw[List.length_append,List.map_append];exact ho,h'.own8.kept hg ?_,?_,B,cap,qs,z,y,(hb.block _ (by omega)).trans k,hc,hq,hD.next (Nat.le_trans hy hb.size) (fun j ja jb=>hg.block j (by omega) (fun e=>?_)),h1,h0,fun g e=>?_,h3⟩
 ·rcases h'.far with e|e
  ·cases hv:v8.ownBlock with
   |none=>exact .inl rfl
   |some _=>exact .inr (by rw[e];simp)
  ·exact .inr (fun x=>e x.symm)
 ·cases hv:v'.ownBlock with
  |none=>exact .inl rfl
  |some g=>
   refine .inr (fun e=>?_)
   rcases hk g hv with q|q
   ·rcases h'.far with r|r
    ·rw[r]at q;cases q
    ·exact r (q.trans e)
   ·have:=(h'.own8.lt g e.symm).2
    omega
 ·rcases h2 j e.symm with q|q<;>omega
 ·rcases hk g e with q|q
  ·exact h2 g q
  ·exact .inr (by omega)
theorem pI.errs{W6:World}{R:Nat}{l:List Rp}{T:List Bool}{E:List Int}{v7 v8:Value}{w:World}(h:pI W6 R l T E v7 v8 w)(d:Int)(hT:E.length≤1000):
  ∃v' w',(Builtin.append_ #[73,73] 73 #[v8,.slice (some ⟨w.heap.size,0,none⟩) 1 1]).run Tryz.prog (w.alloc (.cells #[.int .i64 d] 29))= .ok v' w'∧pI W6 R l T (E++[d]) v7 v' w':=by
 have h':=h.below (zB w (.cells #[.int .i64 d] 29))
 obtain⟨v',w',hr,ho,hg,hk⟩:=eP Tryz.under73 Tryz.info29 rfl (by omega) (w.alloc (.cells #[.int .i64 d] 29)) (W6.heap.size+1) 73 v8 E.length (E.map (Value.int .i64)) h'.own8 w.heap.size (.int .i64 d) (heap_alloc_new w _) rfl hT h'.size
 refine⟨v',w',hr,?_⟩
 obtain⟨B,cap,qs,z,y,k,hc,hq,hD,h1,h0,h2,h3⟩:=h'.box
 have hb:=uj h'.own8 hg h'.size
 have hy:=hD.1
 refine⟨h'.low.trans (hb.mono (by omega)),h'.own7.kept hg h'.far,by rw[List.length_append,List.map_append];exact ho,?_,B,cap,qs,z,y,(hb.block _ (by omega)).trans k,hc,hq,hD.next (Nat.le_trans hy hb.size) (fun j ja jb=>hg.block j (by omega) (fun e=>?_)),h1,h0,h2,fun g e=>?_⟩
 ·cases hv:v7.ownBlock with
  |none=>exact .inl rfl
  |some g=>
   refine .inr (fun e=>?_)
   rcases hk g e.symm with q|q
   ·rcases h'.far with r|r
    ·rw[r]at hv;cases hv
    ·exact r (hv.trans q.symm)
   ·have:=(h'.own7.lt g hv).2
    omega
 ·rcases h3 j e.symm with q|q<;>omega
 ·rcases hk g e with q|q
  ·exact h3 g q
  ·exact .inr (by omega)
theorem DR{w:World}{b:Nat}(h:zy w (some ⟨b,0,none⟩) [q0,q0,q0]):mv w b (b+1) (fun W=>zy W (some ⟨b,0,none⟩) [q0,q0,q0]):=by
 have hb:b<w.heap.size:=by
  obtain⟨b',off,e,zN,-⟩:=h 0 (by decide)
  cases e;exact zN
 refine⟨hb,fun w' hs hk i hi=>⟨b,0,rfl,by omega,fun j hj=>⟨(h.at hj).1.block (hk b (Nat.le_refl _) (by omega)),?_⟩⟩⟩
 have j8:j=0∨j=1∨j=2:=by simp at hj;omega
 rcases j8 with rfl|rfl|rfl
 all_goals exact BS _
theorem pI.start{w:World}{b R t:Nat}{v:Value}(h:zy w (some ⟨b,0,none⟩) [q0,q0,q0])(hR:w.heap[R]? =some (.cells #[v] t)):pI w R vm [] [] (.slice none 0 0) (.slice none 0 0) (w.alloc (.cells #[.slice (some ⟨b,0,none⟩) 3 3] 24)):=by
 have hb:b<w.heap.size:=by
  obtain⟨b',off,e,zN,-⟩:=h 0 (by decide)
  cases e;exact zN
 have yM:R≠b:=fun e=>by
  have:=(h.at (k:=0) (by decide)).1.x1
  rw[←e,cell_of_row w R _ _ _ _ hR]at this
  simp at this
 exact⟨zB w _,World.ownsRow_nil _ _ _ _,World.ownsRow_nil _ _ _ _,.inl rfl,b,3,[q0,q0,q0],b,b+1,heap_alloc_new w _,by omega,rfl,(DR h).below (zB w _),.inl hb,by omega,(fun _ e=>by cases e),(fun _ e=>by cases e)⟩
theorem YB(l:List Rp)(x:Ac):(dL l x).length=3:=by
 unfold dL;split
 ·simp[eL]
 ·rfl
theorem Qy{l:List Rp}(h:l.length=3)(x:Ac):(rI l x).length=3:=by
 unfold rI;split
 ·exact YB l x
 ·exact h
theorem qz: ∀(xs:List Ac) {l:List Rp},l.length=3→(vk l xs).length=3
 |[],_,h=>h
 |x::xs,_,h=>qz xs (Qy h x)
section
open Go.RowKit
attribute [local go_sem] Oper.semAt_some
set_option maxRecDepth 100000
theorem Sc{w:World}{base base':Nat}{e:TypeId}{size:Nat}{v:Value}{n:Nat}{xs:List Value}(h:w.ownsRow base e size v n xs)(hb:base'≤base):w.ownsRow base' e size v n xs:=
 ⟨h.1,h.2.imp_right (fun⟨g,cap,cur,e1,e2,r⟩=>⟨g,cap,cur,e1,Nat.le_trans hb e2,r⟩)⟩
def ST(l:List Ac)(w:World)(e:Ending)(w':World):Prop:=
 Below w.heap.size w w'∧((12<l.length∧e= .returned (.tuple #[.agg #[.slice none 0 0],.slice none 0 0,.slice none 0 0,.int .i64 2]))∨
  (l.length≤12∧∃B cap qs v7 v8,e= .returned (.tuple #[.agg #[.slice (some ⟨B,0,none⟩) 3 cap],v7,v8,.int .i64 0])∧qs.map Rq.r=vk vm l∧zy w' (some ⟨B,0,none⟩) qs∧(3≤cap∧cap≤9223372036854775807)∧w'.ownsRow w.heap.size 4 1 v7 l.length ((sk vm l).map Value.bool)∧w'.ownsRow w.heap.size 29 1 v8 l.length ((ss vm l).map (Value.int .i64))))
theorem Ss(a:Option Addr)(c:Nat)(l:List Aq)(w:World)(hg:xr w)(ht:bP w)(h:uv w a l):
  Calls Tryz.prog 36 #[.slice a l.length c] w (ST (l.map Aq.x) w):=by
 obtain⟨PO,xY⟩: ∃P:Ending→World→Prop,Hid (P=ST (l.map Aq.x) w):=⟨_,rfl⟩
 rw[←xY.out]
 have hA:=zB w (.cells #[.slice none 0 0] 24)
 have k1:=heap_alloc_new w (.cells #[.slice none 0 0] 24)
 go_enter Tryz.func36,Tryz.ntmps36
 go_upto_region 1 with fail
 obtain⟨W0,Lz⟩: ∃W,W=w.alloc (.cells #[.slice none 0 0] 24):=⟨_,rfl⟩
 rw[←Lz]at hA k1⊢
 clear Lz
 by_cases hn:12<l.length
 case pos=>
  have hn':(12:Int)<(l.length:Int):=by omega
  have HF:Hid (∀w',Below w.heap.size w w'→PO (.returned (.tuple #[.agg #[.slice none 0 0],.slice none 0 0,.slice none 0 0,.int .i64 2])) w'):=fun w' hb=>by
   rw[xY.out];exact⟨hb,.inl ⟨by rw[List.length_map];exact hn,rfl⟩⟩
  have f1:=zF (o:=0) k1
  have o1:=zJ k1
  have i0:=zJ (xb (u:=.slice none 0 0) k1)
  have HB:Hid (Below w.heap.size w (W0.setCell ⟨w.heap.size,0,none⟩ (.slice none 0 0))):=hA.setCell (by show w.heap.size≤w.heap.size;omega) _
  clear k1 hA hn
  go_wp2
  refine bodyPost_ret (v:=.tuple #[.agg #[.slice none 0 0],.slice none 0 0,.slice none 0 0,.int .i64 2]) (by simp[results,Tryz.results36,go_sem,i0]) rfl ?_
  exact HF.out _ HB.out
 have hn': ¬(12:Int)<(l.length:Int):=by omega
 have hc:=KX W0
 go_wp2_with fail
 refine hc.mono ?_
 clear hc
 rintro e W1 ⟨b,rfl,hq,zM⟩
 have zT:=bt hA zM
 have j1:=zA5 zM k1
 have S0:=pI.start hq j1
 have Xj:=zG j1
 clear hA k1 zM hq
 go_wp2_with fail
 generalize W1.alloc (.cells #[.slice (some ⟨b,0,none⟩) 3 3] 24)=W2 at *
 obtain⟨X,hX⟩: ∃X,X=l.map Aq.x:=⟨_,rfl⟩
 have BT:X.length=l.length:=by rw[hX,List.length_map]
 rw[←hX]at xY
 have HX:Hid (X=l.map Aq.x):=hX
 clear hX
 go_loopw [7,8,21] (fun v7 v8 i wr=>∃(k:Nat) (x7 x8:Value),x7=v7∧x8=v8∧i= .int .i64 k∧k≤l.length∧pI W1 w.heap.size (vk vm (X.take k)) (sk vm (X.take k)) (ss vm (X.take k)) x7 x8 wr) (fun _ _ i _=>l.length-(intOf i).toNat)
 case atStart=>exact⟨0,_,_,rfl,rfl,rfl,Nat.zero_le _,by rw[List.take_zero];exact S0⟩
 case round=>
  obtain⟨k,v7,v8,rfl,rfl,rfl,hk,RS⟩:=hrel
  have vH:=zT.trans (RS.low.mono zT.size)
  by_cases zN:k<l.length
  case neg=>
   have xl:k=l.length:=by omega
   subst xl
   have eX:X.take l.length=X:=by rw[←BT];exact List.take_length
   rw[eX]at RS
   obtain⟨B,cap,qs,z,y,kC,uO,ng,hD,-,hR,-,-⟩:=RS.box
   have jR:=(RS.low.block _ Xj).trans j1
   have yC:=zJ kC
   have fR:=zF (o:=0) jR
   have oR:=zJ jR
   have iR:=zJ (xb (u:=.slice (some ⟨B,0,none⟩) 3 cap) jR)
   have HF:Hid (PO (.returned (.tuple #[.agg #[.slice (some ⟨B,0,none⟩) 3 cap],v7,v8,.int .i64 0])) (wr.setCell ⟨w.heap.size,0,none⟩ (.slice (some ⟨B,0,none⟩) 3 cap))):=by
    unfold Hid;rw[xY.out]
    have keep: ∀{e:TypeId} {v:Value} {n m:Nat} {xs:List Value},n=m→wr.ownsRow (W1.heap.size+1) e 1 v n xs→(wr.setCell ⟨w.heap.size,0,none⟩ (.slice (some ⟨B,0,none⟩) 3 cap)).ownsRow w.heap.size e 1 v m xs:=fun {e v n m xs} eE ho=>by
     subst eE
     exact Sc (yi ho (fun g hg=>heap_setCell_other wr ⟨w.heap.size,0,none⟩ g (.slice (some ⟨B,0,none⟩) 3 cap) (by have:=(ho.lt g hg).1;show g≠w.heap.size;omega))) (by omega)
    exact⟨vH.setCell (Nat.le_refl _) _,.inr ⟨by omega,B,cap,qs,v7,v8,rfl,ng,(hD.set (p:=w.heap.size) (o:=0) (v:=.slice (some ⟨B,0,none⟩) 3 cap) (by omega)).here,uO,keep (nr _ _) RS.own7,keep (mB _ _) RS.own8⟩⟩
   clear RS kC hD ng jR j1 S0 vH zT hR
   go_wp2
   refine bodyPost_ret (v:=.tuple #[.agg #[.slice (some ⟨B,0,none⟩) 3 cap],v7,v8,.int .i64 0]) (by simp[results,Tryz.results36,go_sem,iR]) rfl ?_
   exact HF.out
  have vg:(k:Int)<(l.length:Int):=by omega
  obtain⟨ba,off,ea,F6,hcA⟩:=(h.below vH) k zN
  obtain⟨⟨u0,u1,u2,u3,u4,u5,u6⟩,aH⟩:=hcA k zN
  have eS:X.take (k+1)=X.take k++[l[k].x]:=by
   rw[List.take_succ_eq_append_getElem (by omega)]
   have:=HX.out
   subst this
   rw[List.getElem_map]
  have HL:Hid ((X.take k).length=k):=by unfold Hid;rw[List.length_take];omega
  have ES:Hid (vk vm (X.take (k+1))=rI (vk vm (X.take k)) l[k].x∧sk vm (X.take (k+1))=sk vm (X.take k)++[tm (vk vm (X.take k)) l[k].x]∧ss vm (X.take (k+1))=ss vm (X.take k)++[rS (vk vm (X.take k)) l[k].x]):=by
   unfold Hid;rw[eS,gU,ga,gZ];exact⟨rfl,rfl,rfl⟩
  have Q6:(vk vm (X.take k)).length=3:=qz _ rfl
  have XA:(sk vm (X.take k)).length≤1000:=by rw[nr,HL.out];omega
  have P1:(ss vm (X.take k)).length≤1000:=by rw[mB,HL.out];omega
  obtain⟨Q,hQd⟩: ∃Q,Q=l[k]:=⟨_,rfl⟩
  rw[←hQd]at u0 u1 u2 u3 u4 u5 u6 aH ES
  obtain⟨L,La⟩: ∃L,L=vk vm (X.take k):=⟨_,rfl⟩
  rw[←La]at RS ES Q6
  generalize sk vm (X.take k)=T at *
  generalize ss vm (X.take k)=E at *
  have tu:=zB wr (Q.x.blk Q.am Q.cm Q.au Q.cu)
  have kA:=heap_alloc_new wr (Q.x.blk Q.am Q.cm Q.au Q.cu)
  have Dk:=RS.below tu
  obtain⟨B,cap,qs,z,y,kC,uO,ng,hD,-,-,-,-⟩:=Dk.box
  have ac:qs.length=3:=by rw[←Q6,←ng,List.length_map]
  have zj:=bt vH tu
  have aH2:=aH.below tu
  have Ys:=NY Q.x (some ⟨B,0,none⟩) cap qs Q.am Q.cm Q.au Q.cu _ (hg.below zj) (ht.below zj) hD.here (by omega) uO.2 aH2.hm aH2.hml aH2.hu aH2.hul
  rw[ac,ng]at Ys
  have yC:=zJ kC
  have kC1:=(tu.block _ (by have:=RS.size;omega)).symm.trans kC
  have yC1:=zJ kC1
  obtain⟨z0,z1,z2,z3,z4,z5,z6⟩:=zI kA
  clear RS hcA aH aH2 Q6 HL eS La hQd kC tu kA vH ac ng hD S0 j1 uO
  rw[ea]
  go_wp2_with fail
  generalize wr.alloc (Q.x.blk Q.am Q.cm Q.au Q.cu)=W3 at *
  refine Ys.mono ?_
  clear Ys yC yC1 kC1 z0 z1 z2 z3 z4 z5 z6 u0 u1 u2 u3 u4 u5 u6 zj
  rintro e W4 ⟨xR,⟨yM,rfl⟩|⟨hz,B',ux,qs',rfl,rU,hD',CU,LT⟩⟩
  ·have RS5:=(Dk.below xR).below (zB W4 (.cells #[.slice none 0 0] 24))
   have q1:(rS L Q.x==0)=false:=by simpa using yM
   have HE:Hid (vk vm (X.take (k+1))=L∧sk vm (X.take (k+1))=T++[false]∧ss vm (X.take (k+1))=E++[rS L Q.x]):=by
    obtain⟨e1,e2,e3⟩:=ES.out
    unfold Hid;rw[e1,e2,e3];unfold rI tm;rw[if_neg yM,if_neg yM];exact⟨rfl,rfl,rfl⟩
   generalize rS L Q.x=D at *
   clear Dk xR yM ES
   go_upto_region 12 with fail
   generalize W4.alloc (.cells #[.slice none 0 0] 24)=W5 at *
   obtain⟨TH,W6,dW,He⟩:=RS5.told false XA
   obtain⟨V8,W7,Eg,LI⟩:=He.errs D P1
   have HN:Hid (pI W1 w.heap.size (vk vm (X.take (k+1))) (sk vm (X.take (k+1))) (ss vm (X.take (k+1))) TH V8 W7):=by
    obtain⟨e1,e2,e3⟩:=HE.out
    unfold Hid;rw[e1,e2,e3];exact LI
   clear RS5 He LI HE
   go_wp2_with first|(at_builtin;refine Lib.wpList_append_run _ rfl _ _ 72 72 rfl _ _ rfl rfl _ _ dW ?_)|(at_builtin;refine Lib.wpList_append_run _ rfl _ _ 73 73 rfl _ _ rfl rfl _ _ Eg ?_)
   go_roundw
   case rel=>exact⟨k+1,TH,V8,rfl,rfl,by go_num,by omega,HN.out⟩
   case measure=>simp[intOf];omega
  ·have JH:=zB W4 (.cells #[.slice (some ⟨B',0,none⟩) 3 ux] 24)
   have Rl:=heap_alloc_new W4 (.cells #[.slice (some ⟨B',0,none⟩) 3 ux] 24)
   have xu:=bt xR JH
   obtain⟨_,_,_,_,_,kC,-⟩:=(Dk.below xu).box
   have He:=Dk.put Xj xu ⟨CU,LT⟩ rU (hD'.below JH)
   have HE:Hid (vk vm (X.take (k+1))=dL L Q.x∧sk vm (X.take (k+1))=T++[dT L Q.x]∧ss vm (X.take (k+1))=E++[0]):=by
    obtain⟨e1,e2,e3⟩:=ES.out
    unfold Hid;rw[e1,e2,e3];unfold rI tm;rw[if_pos hz,if_pos hz,hz];exact⟨rfl,rfl,rfl⟩
   generalize dT L Q.x=D at *
   have y11:=zJ Rl
   have fC:=zF (o:=0) kC
   have oC:=zJ kC
   have zSB:=zG Rl
   clear Dk xR hz ES JH xu hD' kC Rl
   go_upto_region 12 with fail
   generalize (W4.alloc (.cells #[.slice (some ⟨B',0,none⟩) 3 ux] 24)).setCell ⟨W1.heap.size,0,none⟩ (.slice (some ⟨B',0,none⟩) 3 ux)=W5 at *
   obtain⟨TH,W6,dW,LI⟩:=He.told D XA
   obtain⟨V8,W7,Eg,RS8⟩:=LI.errs 0 P1
   have HN:Hid (pI W1 w.heap.size (vk vm (X.take (k+1))) (sk vm (X.take (k+1))) (ss vm (X.take (k+1))) TH V8 W7):=by
    obtain⟨e1,e2,e3⟩:=HE.out
    unfold Hid;rw[e1,e2,e3];exact RS8
   clear He LI RS8 HE
   go_wp2_with first|(at_builtin;refine Lib.wpList_append_run _ rfl _ _ 72 72 rfl _ _ rfl rfl _ _ dW ?_)|(at_builtin;refine Lib.wpList_append_run _ rfl _ _ 73 73 rfl _ _ rfl rfl _ _ Eg ?_)
   go_roundw
   case rel=>exact⟨k+1,TH,V8,rfl,rfl,by go_num,by omega,HN.out⟩
   case measure=>simp[intOf];omega
end
def bU:List Up:=[⟨{data:=#[98]},0,3⟩]
def jo:List Ac:=[⟨1,0,7,4,ez,gR,false⟩,⟨1,0,6,0,[],bU,false⟩,⟨2,2,0,0,[],[],false⟩,⟨1,0,6,0,[],bU,false⟩,⟨3,3,0,0,[],[],false⟩]
def CQ:List Rp:=vk vm jo
def KE:Ac:=⟨2,0,0,0,[],[],false⟩
theorem zAV:sk vm jo=[true,false,true,true,false]:=by decide +kernel
theorem Ai:ss vm jo=[0,0,0,0,3]:=by decide +kernel
theorem zBJ:zi CQ=0:=by decide +kernel
theorem AF:jQ (top CQ)=⟨#[50,58,98,61,51,59,109,97,105,110,61,51,59]⟩:=by decide +kernel
theorem zAJ:rS CQ KE=0:=by decide +kernel
theorem zBW:dT CQ KE=true:=by decide +kernel
theorem zAP:(yq (dL CQ KE) 0).g=2:=by decide +kernel
theorem QW{w:World}{b:Nat}{xs:Array Value}{t:TypeId}{l:List Aq}(k:w.heap[b]? =some (.cells xs t))(hc: ∀i (h:i<l.length),xs[i*7]? =some (.int .i64 l[i].x.k)∧xs[i*7+1]? =some (.int .i64 l[i].x.o)∧xs[i*7+2]? =some (.int .i64 l[i].x.up)∧xs[i*7+3]? =some (.int .i64 l[i].x.la)∧xs[i*7+4]? =some (.slice l[i].am l[i].x.m.length l[i].cm)∧xs[i*7+5]? =some (.slice l[i].au l[i].x.us.length l[i].cu)∧xs[i*7+6]? =some (.bool l[i].x.f))
  (hH: ∀i (h:i<l.length),l[i].H w):uv w (some ⟨b,0,none⟩) l:=by
 intro i hi
 refine⟨b,0,rfl,zG k,fun j hj=>⟨?_,hH j hj⟩⟩
 obtain⟨h0,h1,h2,h3,h4,h5,h6⟩:=hc j hj
 rw[Nat.zero_add]
 exact⟨(cell_of_row _ _ _ _ _ _ k).trans h0,(cell_of_row _ _ _ _ _ _ k).trans h1,(cell_of_row _ _ _ _ _ _ k).trans h2,(cell_of_row _ _ _ _ _ _ k).trans h3,(cell_of_row _ _ _ _ _ _ k).trans h4,(cell_of_row _ _ _ _ _ _ k).trans h5,(cell_of_row _ _ _ _ _ _ k).trans h6⟩
theorem S5{w:World}{b:Nat}{x:Up}(k:w.heap[b]? =some (.cells #[.string x.name,.int .i64 x.old,.int .i64 x.new] 40)):zx w (some ⟨b,0,none⟩) [x]:=by
 intro i hi
 refine⟨_,_,rfl,zG k,fun j hj=>?_⟩
 have Vn:j=0:=by simp at hj;omega
 subst Vn
 exact zQ k
theorem jH(w:World):zP w none []:=fun i hi=>absurd hi (Nat.not_lt_zero i)
theorem Yu(w:World):zx w none []:=fun i hi=>absurd hi (Nat.not_lt_zero i)
theorem UA(w:World):Calls Tryz.prog 91 #[] w fun e w'=>∃b qs,e= .returned (.slice (some ⟨b,0,none⟩) 5 5)∧uv w' (some ⟨b,0,none⟩) qs∧qs.map Aq.x=jo∧Below w.heap.size w w':=by
 have hc:=Re w
 go_enter Tryz.func91,Tryz.ntmps91
 go_wp2_with fail
 refine hc.mono ?_
 clear hc
 rintro e W1 ⟨g,u,rfl,hS,hU,zM⟩
 obtain⟨b1,Gj⟩: ∃b1:Obj,b1= .cells #[.string {data:=#[98]},.int .i64 0,.int .i64 3] 40:=⟨_,rfl⟩
 obtain⟨b3,Fz⟩: ∃b3:Obj,b3= .cells #[.int .i64 1,.int .i64 0,.int .i64 7,.int .i64 4,.slice (some ⟨g,0,none⟩) 3 5,.slice (some ⟨u,0,none⟩) 1 1,.bool false,.int .i64 1,.int .i64 0,.int .i64 6,.int .i64 0,.slice none 0 0,.slice (some ⟨W1.heap.size,0,none⟩) 1 1,.bool false,.int .i64 2,.int .i64 2,.int .i64 0,.int .i64 0,.slice none 0 0,.slice none 0 0,.bool false,.int .i64 1,.int .i64 0,.int .i64 6,.int .i64 0,.slice none 0 0,.slice (some ⟨W1.heap.size+1,0,none⟩) 1 1,.bool false,.int .i64 3,.int .i64 3,.int .i64 0,.int .i64 0,.slice none 0 0,.slice none 0 0,.bool false] 81:=⟨_,rfl⟩
 obtain⟨k1,k2,k3,hB⟩:=xN W1 b1 b1 b3
 have zT:=bt zM hB
 have hS':=hS.below hB
 have hU':=hU.below hB
 have HA:Hid (∃qs,uv (((W1.alloc b1).alloc b1).alloc b3) (some ⟨W1.heap.size+2,0,none⟩) qs∧qs.map Aq.x=jo):=by
  refine⟨[⟨⟨1,0,7,4,ez,gR,false⟩,some ⟨g,0,none⟩,5,some ⟨u,0,none⟩,1⟩,⟨⟨1,0,6,0,[],bU,false⟩,none,0,some ⟨W1.heap.size,0,none⟩,1⟩,⟨⟨2,2,0,0,[],[],false⟩,none,0,none,0⟩,⟨⟨1,0,6,0,[],bU,false⟩,none,0,some ⟨W1.heap.size+1,0,none⟩,1⟩,⟨⟨3,3,0,0,[],[],false⟩,none,0,none,0⟩],QW (k3.trans (congrArg some Fz)) ?_ ?_,rfl⟩
  ·intro i hi
   have Y5:i=0∨i=1∨i=2∨i=3∨i=4:=by simp at hi;omega
   rcases Y5 with rfl|rfl|rfl|rfl|rfl
   all_goals exact⟨rfl,rfl,rfl,rfl,rfl,rfl,rfl⟩
  ·have n0:([]:List Ob).length≤9223372036854775807:=by decide
   have m0:([]:List Up).length≤9223372036854775807:=by decide
   have n1:ez.length≤9223372036854775807:=by decide
   have m1:gR.length≤9223372036854775807:=by decide
   have m2:bU.length≤9223372036854775807:=by decide
   intro i hi
   have Y5:i=0∨i=1∨i=2∨i=3∨i=4:=by simp at hi;omega
   rcases Y5 with rfl|rfl|rfl|rfl|rfl
   ·exact⟨hS',n1,hU',m1⟩
   ·exact⟨jH _,n0,S5 (k1.trans (congrArg some Gj)),m2⟩
   ·exact⟨jH _,n0,Yu _,m0⟩
   ·exact⟨jH _,n0,S5 (k2.trans (congrArg some Gj)),m2⟩
   ·exact⟨jH _,n0,Yu _,m0⟩
 subst Gj Fz
 clear k1 k2 k3 hB zM hS hU hS' hU'
 go_wp2
 go_ret
 obtain⟨qs,q1,q2⟩:=HA.out
 exact⟨_,qs,rfl,q1,q2,zT⟩
theorem pB{w:World}{base:Nat}{e:TypeId}{v:Value}{n:Nat}{xs:List Value}(h:w.ownsRow base e 1 v n xs)(hn:0<n): ∃g cap,v= .slice (some ⟨g,0,none⟩) n cap:=by
 rcases h.2 with⟨-,q⟩|⟨g,cap,_,q,_⟩
 ·omega
 ·exact⟨g,cap,q⟩
theorem qH{w:World}{base:Nat}{e:TypeId}{g n cap:Nat}{xs:List Value}(h:w.ownsRow base e 1 (.slice (some ⟨g,0,none⟩) n cap) n xs)(j:Nat)(u:Value)(hu:xs[j]? =some u):w.cell? ⟨g,j,none⟩=some u:=by
 have:=h.cells (g:=g) rfl j u hu
 rwa[Addr.add_lit,Nat.zero_add]at this
theorem mw(w:World)(hg:xr w)(ht:bP w):Calls Tryz.prog 38 #[] w fun e w'=>e= .returned (.bool true)∧Below w.heap.size w w':=by
 have hc:=UA w
 go_enter Tryz.func38,Tryz.ntmps38
 go_wp2_with fail
 refine hc.mono ?_
 clear hc
 rintro e W1 ⟨b,qs,rfl,hA,ng,zM⟩
 have ac:qs.length=5:=by have:=congrArg List.length ng;rw[List.length_map]at this;exact this
 have hc:=Ss (some ⟨b,0,none⟩) 5 qs W1 (hg.below zM) (ht.below zM) hA
 rw[ac,ng]at hc
 go_wp2_with fail
 refine hc.mono ?_
 clear hc hA ng ac
 rintro e W2 ⟨zZ,⟨pQ,-⟩|⟨-,B,cap,rs,v7,v8,rfl,tM,hQ,uO,hT,hE⟩⟩
 ·exact absurd pQ (by decide)
 rw[zAV]at hT
 rw[Ai]at hE
 have hT:W2.ownsRow W1.heap.size 4 1 v7 5 [.bool true,.bool false,.bool true,.bool true,.bool false]:=hT
 have hE:W2.ownsRow W1.heap.size 29 1 v8 5 [.int .i64 0,.int .i64 0,.int .i64 0,.int .i64 0,.int .i64 3]:=hE
 obtain⟨g7,c7,rfl⟩:=pB hT (by decide)
 obtain⟨g8,c8,rfl⟩:=pB hE (by decide)
 have aP:rs.length=3:=Tt tM (qz _ rfl)
 have tM:rs.map Rq.r=CQ:=tM
 have zj:=bt zM zZ
 have uM:=zB W2 (.cells #[.slice (some ⟨B,0,none⟩) 3 cap] 24)
 have k1:=heap_alloc_new W2 (.cells #[.slice (some ⟨B,0,none⟩) 3 cap] 24)
 have xL:=bt zj uM
 have Bj:=zL hT uM
 have hE3:=zL hE uM
 have hQ3:=hQ.below uM
 have hs:=M9 (some ⟨B,0,none⟩) cap rs _ (hg.below xL) (ht.below xL) hQ3 (by omega) uO.2
 rw[aP,tM]at hs
 have y1:=zJ k1
 clear zM zZ hT hE hQ zj uM
 go_wp2_with fail
 generalize W2.alloc (.cells #[.slice (some ⟨B,0,none⟩) 3 cap] 24)=W3 at *
 refine hs.mono ?_
 clear hs y1
 rintro e W4 ⟨xR,⟨pQ,-⟩|⟨-,rfl⟩⟩
 ·exact absurd zBJ pQ
 rw[AF]
 have xZ:=bt xL xR
 have C6:=zL Bj xR
 have Cz:=zL hE3 xR
 have hQ4:=hQ3.below xR
 have k14:=zA5 xR k1
 have Ys:=NY KE (some ⟨B,0,none⟩) cap rs none 0 none 0 W4 (hg.below xZ) (ht.below xZ) hQ4 (by omega) uO.2 (jH _) (by decide) (Yu _) (by decide)
 rw[aP,tM]at Ys
 have y1:=zJ k14
 clear xR Bj hE3 hQ3 xL k1 hQ4
 go_wp2_with fail
 refine Ys.mono ?_
 clear Ys y1
 rintro e W5 ⟨xu,⟨pQ,-⟩|⟨-,B',ux,qs',rfl,rU,hD',CU,LT⟩⟩
 ·exact absurd zAJ pQ
 rw[zBW]
 have ac:qs'.length=3:=Tt rU (YB _ _)
 have su:=bt xZ xu
 have A2:=zB W5 (.cells #[.slice (some ⟨B',0,none⟩) 3 ux] 24)
 have k7:=heap_alloc_new W5 (.cells #[.slice (some ⟨B',0,none⟩) 3 ux] 24)
 have nE:=bt su A2
 have NF:=zL (zL C6 xu) A2
 have Gr:=zL (zL Cz xu) A2
 have x0:=((hD'.below A2).here.at (k:=0) (by omega)).1.x2
 rw[Bl rU (i:=0) (by omega),zAP]at x0
 have t0:=qH NF 0 _ rfl
 have t1:=qH NF 1 _ rfl
 have t2:=qH NF 2 _ rfl
 have t3:=qH NF 3 _ rfl
 have t4:=qH NF 4 _ rfl
 have e4:=qH Gr 4 _ rfl
 have y7:=zJ k7
 clear xu C6 Cz xZ k14 A2 su hD' NF Gr rU k7 tM hg ht
 go_wp2
 go_ret
 exact⟨rfl,nE⟩
theorem Mn{l:List Rp}{x:Ac}(h:rS l x=0):zi l=0∧vx x=0∧dE l x=0:=by
 unfold rS at h
 split at h
 ·rename_i c;exact absurd h c
 ·rename_i c
  split at h
  ·rename_i d;exact absurd h d
  ·rename_i d;exact⟨Classical.byContradiction c,Classical.byContradiction d,h⟩
def Zo(l:List Rp)(x:Ac):Int:=if x.k=1∧dT l x=true then 1 else 0
structure zIL(l:List Rp)(x:Ac):Prop where
 right:zi (dL l x)=0
 grown:(top (dL l x)).g=(top l).g+Zo l x
 same:Zo l x=0→jQ (top (dL l x))=jQ (top l)
theorem VV{a b:Rp}(h1:a.g=b.g)(h2:a.l=b.l):jQ a=jQ b:=by unfold jQ;rw[h1,h2]
theorem Lv{l:List Rp}{x:Ac}(h:rS l x=0):zIL l x:=by
 obtain⟨hc,ha,hd⟩:=Mn h
 by_cases k1:x.k=1
 ·have hdT:dT l x=mb l x.m x.us x.f x.up x.la:=by unfold dT;rw[if_pos k1]
  have Bq:dL l x=eL l x.m x.us x.f x.up x.la:=by unfold dL;rw[if_pos k1]
  have hp:pE l x.m x.us x.f x.up x.la=0:=by unfold dE at hd;rwa[if_pos k1]at hd
  have P:=Ew hp
  have hm:Zo l x=if mb l x.m x.us x.f x.up x.la=true then 1 else 0:=by
   unfold Zo;rw[hdT];simp[k1]
  refine⟨by rw[Bq];exact P.right,by rw[Bq,hm];exact P.grown,fun h0=>?_⟩
  rw[hm]at h0
  have hf:mb l x.m x.us x.f x.up x.la=false:=by
   cases hq:mb l x.m x.us x.f x.up x.la with
   |false=>rfl
   |true=>rw[hq]at h0;simp at h0
  rw[Bq,P.same hf]
 ·have Bq:dL l x=l3 (XP (yq l) (oN x) (mc l x)):=by unfold dL;rw[if_neg k1]
  have hb:Tl l x=0:=by unfold dE at hd;rwa[if_neg k1]at hd
  have hm:Zo l x=0:=by unfold Zo;rw[if_neg (fun e=>k1 e.1)]
  have he:=(yr.1 hc).2.1
  rcases gb ha with⟨q,-⟩|⟨-,hk,-,ho,-⟩
  ·exact absurd q k1
  have hbe:(mc l x).err=0:=by
   unfold Tl at hb
   unfold mc
   split at hb
   ·rename_i k2;rw[if_pos k2];exact U2 hb
   ·rename_i k2;rw[if_neg k2];exact eZ (s:=(yq l (oN x)).s) (l:=(yq l (oN x)).l) (g:=(yq l (oN x)).g) (nw hb) (rV hb)
  obtain⟨r1,r2,r3⟩:=RF hc (XP (yq l) (oN x) (mc l x)) (fun i hi=>by
    unfold XP;split
    ·exact hbe
    ·exact he i hi) (fun i hi=>by
    unfold XP;split
    ·rename_i e
     unfold mc;split
     ·exact .inr ⟨rfl,rfl⟩
     ·rw[e];exact .inl ⟨rfl,rfl⟩
    ·exact .inl ⟨rfl,rfl⟩)
  rw[←Bq]at r1 r2 r3
  exact⟨r1,by rw[hm,r2];omega,fun _=>VV r2 r3⟩
theorem Xb{l:List Rp}(h:zi l=0)(x:Ac):zi (rI l x)=0:=by
 unfold rI;split
 ·rename_i e;exact(Lv e).right
 ·exact h
theorem ct: ∀(xs:List Ac) {l:List Rp},zi l=0→zi (vk l xs)=0
 |[],_,h=>h
 |x::xs,_,h=>ct xs (Xb h x)
theorem dy: ∀(X:List Ac) (l:List Rp) (k:Nat) (h:k<X.length),(sk l X)[k]? =some (tm (vk l (X.take k)) X[k])
 |[],_,k,h=>absurd h (Nat.not_lt_zero k)
 |_::_,_,0,_=>rfl
 |x::xs,l,k+1,h=>dy xs (rI l x) k (Nat.lt_of_succ_lt_succ h)
theorem eb: ∀(X:List Ac) (l:List Rp) (k:Nat) (h:k<X.length),(ss l X)[k]? =some (rS (vk l (X.take k)) X[k])
 |[],_,k,h=>absurd h (Nat.not_lt_zero k)
 |_::_,_,0,_=>rfl
 |x::xs,l,k+1,h=>eb xs (rI l x) k (Nat.lt_of_succ_lt_succ h)
theorem MW:zi vm=0:=by decide +kernel
theorem uv.at{w:World}{b off:Nat}{l:List Aq}(h:uv w (some ⟨b,off,none⟩) l){k:Nat}(hk:k<l.length):AAt w b (off+k*7) l[k]∧l[k].H w:=by
 obtain⟨b',kQ,e,_,hc⟩:=h k hk
 cases e;exact hc k hk
theorem uv.some{w:World}{a:Option Addr}{l:List Aq}(h:uv w a l)(hl:0<l.length): ∃b off,a=some ⟨b,off,none⟩:=by
 obtain⟨b,off,e,_⟩:=h 0 hl
 exact⟨b,off,e⟩
end Go.Proofs.YtehmlpkapjdhkaaGreatDoor
