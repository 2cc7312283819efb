import Derived.Test.YtehmlpkapjdhkaaGreatDoorML
import Derived.Shelf.Sort.Plain
import Derived.Shelf.Slices.In.SortNone
namespace Go.Proofs.YtehmlpkapjdhkaaGreatDoor
set_option maxHeartbeats 16000000
open Go.RowKit
set_option maxRecDepth 100000
def PE(B:Nat)(w w':World):Prop:=w.heap.size≤w'.heap.size∧∀j,j<w.heap.size→j≠B→w'.heap[j]? =w.heap[j]?
theorem PE.refl(B:Nat)(w:World):PE B w w:=⟨Nat.le_refl _,fun _ _ _=>rfl⟩
theorem PE.below{B:Nat}{w w1 w2:World}(h:PE B w w1)(hb:Below w1.heap.size w1 w2):PE B w w2:=
 ⟨Nat.le_trans h.1 hb.size,fun j hj hn=>(hb.block j (Nat.lt_of_lt_of_le hj h.1)).trans (h.2 j hj hn)⟩
theorem WA(w0:World)(L B off cap:Nat)(Q:Nat→Rq)(V:Nat→ByteArray)(C:Nat→Bool)(pd pf:Nat)(w:World)(hg:xr w0)(sP:Below w0.heap.size w0 w)(hd:Ld w w0.heap.size L B off cap Q V)
  (rg: ∀(i:Nat) (W:World),i<3→PE B w W→Calls Tryz.prog 51 #[.int .i64 i,.pointer (some ⟨pd,0,none⟩),.pointer (some ⟨pf,0,none⟩)] W (fun e w'=>e= .returned (.bool (C i))∧Below W.heap.size W w')):
  Calls Tryz.prog 50 #[.pointer (some ⟨L,0,none⟩),.func (.func 51) #[] #[.pointer (some ⟨pd,0,none⟩),.pointer (some ⟨pf,0,none⟩)]] w fun e w'=>e= .returned (.int .i64 (km (fun i=>qo (Q i).r (V i) (C i))))∧Below w0.heap.size w0 w'∧PE B w w'∧
   (km (fun i=>qo (Q i).r (V i) (C i))=0→∃Q',Ld w' w0.heap.size L B off cap Q' V∧∀i,i<3→(Q' i).r=fg (Q i).r (V i) (C i)):=by
 have yh:=hd.head
 have hLw:=hd.ltL
 have qM:=hd.ltB
 obtain⟨PO,xY⟩: ∃P:Ending→World→Prop,Hid (∀e w',P e w'↔(e= .returned (.int .i64 (km (fun i=>qo (Q i).r (V i) (C i))))∧Below w0.heap.size w0 w'∧PE B w w'∧
   (km (fun i=>qo (Q i).r (V i) (C i))=0→∃Q',Ld w' w0.heap.size L B off cap Q' V∧∀i,i<3→(Q' i).r=fg (Q i).r (V i) (C i)))):=⟨_,fun _ _=>Iff.rfl⟩
 suffices hm:Calls Tryz.prog 50 #[.pointer (some ⟨L,0,none⟩),.func (.func 51) #[] #[.pointer (some ⟨pd,0,none⟩),.pointer (some ⟨pf,0,none⟩)]] w PO from hm.mono (fun e w' h=>(xY.out e w').1 h)
 go_enter Tryz.func50,Tryz.ntmps50
 go_wp2_with fail
 go_loopw [15] (fun i wr=>∃(k:Nat) (Qk:Nat→Rq),i= .int .i64 k∧k≤3∧Below w0.heap.size w0 wr∧Ld wr w0.heap.size L B off cap Qk V∧PE B w wr∧Hid (∀i,i<3→i<k→(Qk i).r=fg (Q i).r (V i) (C i))∧Hid (∀i,i<3→k≤i→Qk i=Q i)∧Hid (∀i,i<k→qo (Q i).r (V i) (C i)=0)) (fun i _=>3-(intOf i).toNat)
 case atStart=>exact⟨0,Q,rfl,Nat.zero_le _,sP,hd,PE.refl _ _,fun i _ h=>absurd h (Nat.not_lt_zero _),fun i _ _=>rfl,fun i h=>absurd h (Nat.not_lt_zero _)⟩
 case round=>
  clear hd sP yh
  obtain⟨k,Qk,rfl,hk,HB,HL,HK,HI,HJ,HZ⟩:=hrel
  by_cases zN:k<3
  ·have vg:(k:Int)<3:=by omega
   obtain⟨x0,x1,x2,x3,x4,x5,x6⟩:=HL.row k zN
   have HQ:Hid (Qk k=Q k):=HJ.out k zN (Nat.le_refl _)
   have hA:=zB wr (Qk k).blk
   have Y7:=heap_alloc_new wr (Qk k).blk
   have X5:=bt HB hA
   have U5:=HL.below hA
   have XD:=HK.below hA
   have hwr:w.heap.size≤wr.heap.size:=HK.1
   have yv:=U5.vote k zN
   obtain⟨z0,z1,z2,z3,z4,z5,z6⟩:=zI Y7
   have mo:=HL.ltL
   have vH:=HL.ltB
   clear HL HB HK hA
   cases hv:(V k).toList.isEmpty with
   |true=>
    have HN:Hid (∃(k':Nat) (Qk':Nat→Rq),Value.int .i64 ((k:Int)+1)= .int .i64 k'∧k'≤3∧Below w0.heap.size w0 (wr.alloc (Qk k).blk)∧Ld (wr.alloc (Qk k).blk) w0.heap.size L B off cap Qk' V∧PE B w (wr.alloc (Qk k).blk)∧Hid (∀i,i<3→i<k'→(Qk' i).r=fg (Q i).r (V i) (C i))∧Hid (∀i,i<3→k'≤i→Qk' i=Q i)∧Hid (∀i,i<k'→qo (Q i).r (V i) (C i)=0)):=by
     refine⟨k+1,Qk,by simp,by omega,X5,U5,XD,fun i hi eB=>?_,fun i hi eB=>HJ.out i hi (by omega),fun i eB=>?_⟩
     ·by_cases e:i=k
      ·subst e;rw[HQ.out];unfold fg;rw[if_pos hv]
      ·exact HI.out i hi (by omega)
     ·by_cases e:i=k
      ·subst e;unfold qo;rw[if_pos hv]
      ·exact HZ.out i (by omega)
    go_wp2
    go_roundw
    case rel=>exact HN.out
    case measure=>simp[intOf];omega
   |false=>
   have HV:Hid (((V k).toList.isEmpty)=false):=hv
   go_upto_region 5 with fail
   generalize hWd:wr.alloc (Qk k).blk=W at *
   clear hWd x0 x1 x2 x3 x4 x5 x6 z0 z1 z2 z3 z4 z5 z6 yv hv
   go_cut [7,8] from 16 to 46 (fun s7 s8 wx=>Below W.heap.size W wx∧∃p,s7= .pointer (some ⟨p,0,none⟩)∧W.heap.size≤p∧((uH (Qk k).r.s (Qk k).r.l (Qk k).r.g (Qk k).r.ph (Qk k).r.m (Qk k).r.us (Qk k).r.f (C k)≠0∧s8= .int .i64 (uH (Qk k).r.s (Qk k).r.l (Qk k).r.g (Qk k).r.ph (Qk k).r.m (Qk k).r.us (Qk k).r.f (C k)))∨(uH (Qk k).r.s (Qk k).r.l (Qk k).r.g (Qk k).r.ph (Qk k).r.m (Qk k).r.us (Qk k).r.f (C k)=0∧s8= .int .i64 0∧∃q:Rq,Hid (q.r=⟨ti (Qk k).r.s (Qk k).r.m (C k),tW (Qk k).r.l (Qk k).r.us (C k),td (Qk k).r.g (C k),0,[],[],false⟩)∧wx.heap[p]? =some q.blk∧rQ wx w0.heap.size (fun j=>j=B∨j=L) q)))
   case first=>
    have xF:=zU W
    have tw:(W.drew.cell? ⟨wr.heap.size,0,none⟩=some (.slice (Qk k).aS (Qk k).r.s.length (Qk k).cs)∧W.drew.cell? ⟨wr.heap.size,1,none⟩=some (.slice (Qk k).al (Qk k).r.l.length (Qk k).cl)∧W.drew.cell? ⟨wr.heap.size,2,none⟩=some (.int .i64 (Qk k).r.g)∧W.drew.cell? ⟨wr.heap.size,3,none⟩=some (.int .i64 (Qk k).r.ph)∧W.drew.cell? ⟨wr.heap.size,4,none⟩=some (.slice (Qk k).a1 (Qk k).r.m.length (Qk k).c1)∧W.drew.cell? ⟨wr.heap.size,5,none⟩=some (.slice (Qk k).a2 (Qk k).r.us.length (Qk k).c2)∧W.drew.cell? ⟨wr.heap.size,6,none⟩=some (.bool (Qk k).r.f)):=zI (show W.drew.heap[wr.heap.size]? =some (Qk k).blk from Y7)
    refine zS (fun W=>(W.cell? ⟨wr.heap.size,0,none⟩=some (.slice (Qk k).aS (Qk k).r.s.length (Qk k).cs)∧W.cell? ⟨wr.heap.size,1,none⟩=some (.slice (Qk k).al (Qk k).r.l.length (Qk k).cl)∧W.cell? ⟨wr.heap.size,2,none⟩=some (.int .i64 (Qk k).r.g)∧W.cell? ⟨wr.heap.size,3,none⟩=some (.int .i64 (Qk k).r.ph)∧W.cell? ⟨wr.heap.size,4,none⟩=some (.slice (Qk k).a1 (Qk k).r.m.length (Qk k).c1)∧W.cell? ⟨wr.heap.size,5,none⟩=some (.slice (Qk k).a2 (Qk k).r.us.length (Qk k).c2)∧W.cell? ⟨wr.heap.size,6,none⟩=some (.bool (Qk k).r.f))) (fun _=>false) (by kernel_rfl) tw (fun hS=>?_)
    generalize W.drew=W1 at *
    have kr:W1.heap[wr.heap.size]? =some (Qk k).blk:=zA5 xF Y7
    have pv:=bt X5 xF
    have j9:=U5.below xF
    have PW:=XD.below xF
    have Dj:W.heap.size≤W1.heap.size:=xF.size
    have nc:=zG kr
    clear tw X5 U5 XD Y7
    have zM:=Below.refl W1.heap.size W1
    refine zAA 0 ?_ rfl ?_ ?_;rotate_left
    ·intro w zD;obtain⟨r0,r1,r2,r3,r4,r5,r6⟩:=zD;go_simp;rfl
    try simp only[tn]
    refine zAA 1 ?_ rfl ?_ ?_;rotate_left
    ·intro w zD;obtain⟨r0,r1,r2,r3,r4,r5,r6⟩:=zD;go_simp;rfl
    try simp only[tn]
    refine zAA 2 ?_ rfl ?_ ?_;rotate_left
    ·intro w zD;obtain⟨r0,r1,r2,r3,r4,r5,r6⟩:=zD;go_simp;rfl
    try simp only[tn]
    refine wpAnyE.two (i:=3) (j:=8) (by kernel_rfl) rfl rfl (fun K hK=>?_) (fun K hK=>?_)
    ·go_simp
     refine(rg k W1 zN (PW.below zM)).mono ?_
     rintro e W2 ⟨rfl,h⟩
     have zZ:=bt zM h
     have xy: ∀j,j<W1.heap.size→W2.heap[j]? =W1.heap[j]?:=fun j hj=>h.block j hj
     have ky:=h.size
     clear h
     refine hK _ _ (fun _=>(zI ((zZ.block _ nc).trans kr))) ?_
     clear hK K
     try simp only[tn]
     refine wpAnyE.two (i:=4) (j:=8) (by kernel_rfl) rfl rfl (fun K hK=>?_) (fun K hK=>?_)
     ·go_simp
      refine(kZ (Qk k).aS (Qk k).cs (Qk k).r.s (Qk k).al (Qk k).cl (Qk k).r.l (Qk k).r.g (Qk k).r.ph (Qk k).a1 (Qk k).c1 (Qk k).r.m (Qk k).a2 (Qk k).c2 (Qk k).r.us (Qk k).r.f (C k) W2 (hg.below ((bt pv zZ))) ((j9.each k zN).below zZ).self).mono ?_
      rintro e W3 ⟨h,xK⟩
      have yT:=bt zZ h
      have tv: ∀j,j<W2.heap.size→W3.heap[j]? =W2.heap[j]?:=fun j hj=>h.block j hj
      have PG:=h.size
      clear h
      have C5:W1.heap.size≤W2.heap.size:=zZ.size
      rcases xK with⟨yM,rfl⟩|⟨hz,b0,d0,b1,d1,b2,d2,b3,d3,rfl,F⟩
      ·refine hK _ _ (fun _=>(zI ((yT.block _ nc).trans kr))) ?_
       clear hK K
       try simp only[tn]
       refine zAB 5 ?_ rfl ?_ (zI ((yT.block _ nc).trans kr)) ?_;rotate_left
       ·intro w zD;obtain⟨r0,r1,r2,r3,r4,r5,r6⟩:=zD;go_simp;rfl
       try simp only[tn]
       refine zAB 6 ?_ rfl ?_ (zI ((yT.block _ nc).trans kr)) ?_;rotate_left
       ·intro w zD;obtain⟨r0,r1,r2,r3,r4,r5,r6⟩:=zD;go_simp;rfl
       try simp only[tn]
       refine zAB 7 ?_ rfl ?_ (zI ((yT.block _ nc).trans kr)) ?_;rotate_left
       ·intro w zD;obtain⟨r0,r1,r2,r3,r4,r5,r6⟩:=zD;go_simp;rfl
       try simp only[tn]
       refine zAC 8 rfl fun K hK=>?_
       have h:=zB W3 zo
       have F6:=zB W3 zo
       have uk:=heap_alloc_new W3 zo
       have xR:=bt yT h
       have Ke: ∀j,j<W3.heap.size→(W3.alloc zo).heap[j]? =W3.heap[j]?:=fun j hj=>h.block j hj
       have AA:=h.size
       clear h
       go_simp
       refine hK _ _ (fun _=>(zI ((xR.block _ nc).trans kr))) ?_
       clear hK K
       try simp only[tn]
       generalize W3.alloc zo=W4 at *
       have PF:W1.heap.size≤W3.heap.size:=yT.size
       refine zAC 9 rfl fun K hK=>?_
       obtain⟨o0,o1,o2,o3,o4,o5,o6⟩:=zI uk
       have pi:=zF (o:=0) uk
       have nG:=zF (o:=1) uk
       have pX:=zF (o:=2) uk
       have pc:=zF (o:=3) uk
       have pg:=zF (o:=4) uk
       have pp:=zF (o:=5) uk
       have nF:=zF (o:=6) uk
       obtain⟨s1,s2,s3⟩:=yQ W4 W3.heap.size 36 (.slice none 0 0) (.slice none 0 0) (.int .i64 0) (.int .i64 0) (.slice none 0 0) (.slice none 0 0) (.bool false) uk
       have bv:=xR.trans (s2.mono PF)
       have WQ:=(zI ((bv.block _ nc).trans kr))
       go_simp
       refine hK _ _ (fun _=>WQ) ?_
       clear hK K
       try simp only[tn]
       refine zAC 10 rfl fun K hK=>?_
       go_simp
       refine hK _ _ (fun _=>WQ) ?_
       clear hK K
       try simp only[tn]
       refine zAE ?_
       have HF:Hid (Below W.heap.size W (((((((W4.setCell ⟨W3.heap.size,0,none⟩ (.slice none 0 0)).setCell ⟨W3.heap.size,1,none⟩ (.slice none 0 0)).setCell ⟨W3.heap.size,2,none⟩ (.int .i64 0)).setCell ⟨W3.heap.size,3,none⟩ (.int .i64 0)).setCell ⟨W3.heap.size,4,none⟩ (.slice none 0 0)).setCell ⟨W3.heap.size,5,none⟩ (.slice none 0 0)).setCell ⟨W3.heap.size,6,none⟩ (.bool false))):=xF.trans (bv.mono Dj)
       have HE:Hid (uH (Qk k).r.s (Qk k).r.l (Qk k).r.g (Qk k).r.ph (Qk k).r.m (Qk k).r.us (Qk k).r.f (C k)≠0):=yM
       go_wp2
       go_meet
       case rel=>exact⟨HF.out,W3.heap.size,rfl,by omega,Or.inl ⟨HE.out,rfl⟩⟩
      ·refine hK _ _ (fun _=>(zI ((yT.block _ nc).trans kr))) ?_
       clear hK K
       try simp only[tn]
       refine zAB 5 ?_ rfl ?_ (zI ((yT.block _ nc).trans kr)) ?_;rotate_left
       ·intro w zD;obtain⟨r0,r1,r2,r3,r4,r5,r6⟩:=zD;go_simp;rfl
       try simp only[tn]
       refine zAB 6 ?_ rfl ?_ (zI ((yT.block _ nc).trans kr)) ?_;rotate_left
       ·intro w zD;obtain⟨r0,r1,r2,r3,r4,r5,r6⟩:=zD;go_simp;rfl
       try simp only[tn]
       refine zAB 7 ?_ rfl ?_ (zI ((yT.block _ nc).trans kr)) ?_;rotate_left
       ·intro w zD;obtain⟨r0,r1,r2,r3,r4,r5,r6⟩:=zD;go_simp;rfl
       try simp only[tn]
       refine zAC 8 rfl fun K hK=>?_
       have h:=zB W3 zo
       have F6:=zB W3 zo
       have uk:=heap_alloc_new W3 zo
       have xR:=bt yT h
       have Ke: ∀j,j<W3.heap.size→(W3.alloc zo).heap[j]? =W3.heap[j]?:=fun j hj=>h.block j hj
       have AA:=h.size
       clear h
       go_simp
       refine hK _ _ (fun _=>(zI ((xR.block _ nc).trans kr))) ?_
       clear hK K
       try simp only[tn]
       generalize W3.alloc zo=W4 at *
       have PF:W1.heap.size≤W3.heap.size:=yT.size
       refine zAC 9 rfl fun K hK=>?_
       obtain⟨o0,o1,o2,o3,o4,o5,o6⟩:=zI uk
       have pi:=zF (o:=0) uk
       have nG:=zF (o:=1) uk
       have pX:=zF (o:=2) uk
       have pc:=zF (o:=3) uk
       have pg:=zF (o:=4) uk
       have pp:=zF (o:=5) uk
       have nF:=zF (o:=6) uk
       obtain⟨s1,s2,s3⟩:=yQ W4 W3.heap.size 36 (.slice b0 (ti (Qk k).r.s (Qk k).r.m (C k)).length d0) (.slice b1 (tW (Qk k).r.l (Qk k).r.us (C k)).length d1) (.int .i64 (td (Qk k).r.g (C k))) (.int .i64 0) (.slice b2 0 d2) (.slice b3 0 d3) (.bool false) uk
       have bv:=xR.trans (s2.mono PF)
       have WQ:=(zI ((bv.block _ nc).trans kr))
       go_simp
       refine hK _ _ (fun _=>WQ) ?_
       clear hK K
       try simp only[tn]
       refine zAC 10 rfl fun K hK=>?_
       go_simp
       refine hK _ _ (fun _=>WQ) ?_
       clear hK K
       try simp only[tn]
       refine zAE ?_
       have FSx:=rQ.fresh (w:=_) (z:=w0.heap.size) (z':=W2.heap.size) (P:=fun j=>j=B∨j=L) (q:=⟨⟨ti (Qk k).r.s (Qk k).r.m (C k),tW (Qk k).r.l (Qk k).r.us (C k),td (Qk k).r.g (C k),0,[],[],false⟩,b0,d0,b1,d1,b2,d2,b3,d3⟩) (F.below ⟨(s2.mono (Nat.le_refl _)).os.trans (F6.os),(s2.mono (Nat.le_refl _)).tape.trans F6.tape,s2.output.trans F6.output,Nat.le_trans F6.size s2.size,fun j hj=>(s3 j (by omega)).trans (F6.block j hj)⟩) (Nat.le_trans pv.size C5) (fun j hj=>by have:=j9.ltB;have:=j9.ltL;rcases hj with rfl|rfl<;>omega)
       have HF:Hid (Below W.heap.size W (((((((W4.setCell ⟨W3.heap.size,0,none⟩ (.slice b0 (ti (Qk k).r.s (Qk k).r.m (C k)).length d0)).setCell ⟨W3.heap.size,1,none⟩ (.slice b1 (tW (Qk k).r.l (Qk k).r.us (C k)).length d1)).setCell ⟨W3.heap.size,2,none⟩ (.int .i64 (td (Qk k).r.g (C k)))).setCell ⟨W3.heap.size,3,none⟩ (.int .i64 0)).setCell ⟨W3.heap.size,4,none⟩ (.slice b2 0 d2)).setCell ⟨W3.heap.size,5,none⟩ (.slice b3 0 d3)).setCell ⟨W3.heap.size,6,none⟩ (.bool false))):=xF.trans (bv.mono Dj)
       have HE:Hid (uH (Qk k).r.s (Qk k).r.l (Qk k).r.g (Qk k).r.ph (Qk k).r.m (Qk k).r.us (Qk k).r.f (C k)=0):=hz
       go_wp2
       go_meet
       case rel=>exact⟨HF.out,W3.heap.size,rfl,by omega,Or.inr ⟨HE.out,rfl,⟨⟨ti (Qk k).r.s (Qk k).r.m (C k),tW (Qk k).r.l (Qk k).r.us (C k),td (Qk k).r.g (C k),0,[],[],false⟩,b0,d0,b1,d1,b2,d2,b3,d3⟩,rfl,s1,FSx⟩⟩
     ·have h:=zB W2 zo
      have bw:=heap_alloc_new W2 zo
      have yT:=bt zZ h
      have tv: ∀j,j<W2.heap.size→(W2.alloc zo).heap[j]? =W2.heap[j]?:=fun j hj=>h.block j hj
      have PG:=h.size
      clear h
      go_simp
      refine hK _ _ (fun _=>(zI ((yT.block _ nc).trans kr))) ?_
      clear hK K
      try simp only[tn]
      generalize W2.alloc zo=W3 at *
      refine zAC 4 rfl fun K hK=>?_
      go_simp
      refine(kZ (Qk k).aS (Qk k).cs (Qk k).r.s (Qk k).al (Qk k).cl (Qk k).r.l (Qk k).r.g (Qk k).r.ph (Qk k).a1 (Qk k).c1 (Qk k).r.m (Qk k).a2 (Qk k).c2 (Qk k).r.us (Qk k).r.f (C k) W3 (hg.below ((bt pv yT))) ((j9.each k zN).below yT).self).mono ?_
      rintro e W4 ⟨h,xK⟩
      have xR:=bt yT h
      have Ke: ∀j,j<W3.heap.size→W4.heap[j]? =W3.heap[j]?:=fun j hj=>h.block j hj
      have AA:=h.size
      clear h
      have C5:W1.heap.size≤W3.heap.size:=yT.size
      rcases xK with⟨yM,rfl⟩|⟨hz,b0,d0,b1,d1,b2,d2,b3,d3,rfl,F⟩
      ·refine hK _ _ (fun _=>(zI ((xR.block _ nc).trans kr))) ?_
       clear hK K
       try simp only[tn]
       refine zAB 5 ?_ rfl ?_ (zI ((xR.block _ nc).trans kr)) ?_;rotate_left
       ·intro w zD;obtain⟨r0,r1,r2,r3,r4,r5,r6⟩:=zD;go_simp;rfl
       try simp only[tn]
       refine zAB 6 ?_ rfl ?_ (zI ((xR.block _ nc).trans kr)) ?_;rotate_left
       ·intro w zD;obtain⟨r0,r1,r2,r3,r4,r5,r6⟩:=zD;go_simp;rfl
       try simp only[tn]
       refine zAB 7 ?_ rfl ?_ (zI ((xR.block _ nc).trans kr)) ?_;rotate_left
       ·intro w zD;obtain⟨r0,r1,r2,r3,r4,r5,r6⟩:=zD;go_simp;rfl
       try simp only[tn]
       have uk:=(Ke _ (zG bw)).trans bw
       have PF:W1.heap.size≤W2.heap.size:=zZ.size
       refine zAC 9 rfl fun K hK=>?_
       obtain⟨o0,o1,o2,o3,o4,o5,o6⟩:=zI uk
       have pi:=zF (o:=0) uk
       have nG:=zF (o:=1) uk
       have pX:=zF (o:=2) uk
       have pc:=zF (o:=3) uk
       have pg:=zF (o:=4) uk
       have pp:=zF (o:=5) uk
       have nF:=zF (o:=6) uk
       obtain⟨s1,s2,s3⟩:=yQ W4 W2.heap.size 36 (.slice none 0 0) (.slice none 0 0) (.int .i64 0) (.int .i64 0) (.slice none 0 0) (.slice none 0 0) (.bool false) uk
       have bv:=xR.trans (s2.mono PF)
       have WQ:=(zI ((bv.block _ nc).trans kr))
       go_simp
       refine hK _ _ (fun _=>WQ) ?_
       clear hK K
       try simp only[tn]
       refine zAC 10 rfl fun K hK=>?_
       go_simp
       refine hK _ _ (fun _=>WQ) ?_
       clear hK K
       try simp only[tn]
       refine zAE ?_
       have HF:Hid (Below W.heap.size W (((((((W4.setCell ⟨W2.heap.size,0,none⟩ (.slice none 0 0)).setCell ⟨W2.heap.size,1,none⟩ (.slice none 0 0)).setCell ⟨W2.heap.size,2,none⟩ (.int .i64 0)).setCell ⟨W2.heap.size,3,none⟩ (.int .i64 0)).setCell ⟨W2.heap.size,4,none⟩ (.slice none 0 0)).setCell ⟨W2.heap.size,5,none⟩ (.slice none 0 0)).setCell ⟨W2.heap.size,6,none⟩ (.bool false))):=xF.trans (bv.mono Dj)
       have HE:Hid (uH (Qk k).r.s (Qk k).r.l (Qk k).r.g (Qk k).r.ph (Qk k).r.m (Qk k).r.us (Qk k).r.f (C k)≠0):=yM
       go_wp2
       go_meet
       case rel=>exact⟨HF.out,W2.heap.size,rfl,by omega,Or.inl ⟨HE.out,rfl⟩⟩
      ·refine hK _ _ (fun _=>(zI ((xR.block _ nc).trans kr))) ?_
       clear hK K
       try simp only[tn]
       refine zAB 5 ?_ rfl ?_ (zI ((xR.block _ nc).trans kr)) ?_;rotate_left
       ·intro w zD;obtain⟨r0,r1,r2,r3,r4,r5,r6⟩:=zD;go_simp;rfl
       try simp only[tn]
       refine zAB 6 ?_ rfl ?_ (zI ((xR.block _ nc).trans kr)) ?_;rotate_left
       ·intro w zD;obtain⟨r0,r1,r2,r3,r4,r5,r6⟩:=zD;go_simp;rfl
       try simp only[tn]
       refine zAB 7 ?_ rfl ?_ (zI ((xR.block _ nc).trans kr)) ?_;rotate_left
       ·intro w zD;obtain⟨r0,r1,r2,r3,r4,r5,r6⟩:=zD;go_simp;rfl
       try simp only[tn]
       have uk:=(Ke _ (zG bw)).trans bw
       have PF:W1.heap.size≤W2.heap.size:=zZ.size
       refine zAC 9 rfl fun K hK=>?_
       obtain⟨o0,o1,o2,o3,o4,o5,o6⟩:=zI uk
       have pi:=zF (o:=0) uk
       have nG:=zF (o:=1) uk
       have pX:=zF (o:=2) uk
       have pc:=zF (o:=3) uk
       have pg:=zF (o:=4) uk
       have pp:=zF (o:=5) uk
       have nF:=zF (o:=6) uk
       obtain⟨s1,s2,s3⟩:=yQ W4 W2.heap.size 36 (.slice b0 (ti (Qk k).r.s (Qk k).r.m (C k)).length d0) (.slice b1 (tW (Qk k).r.l (Qk k).r.us (C k)).length d1) (.int .i64 (td (Qk k).r.g (C k))) (.int .i64 0) (.slice b2 0 d2) (.slice b3 0 d3) (.bool false) uk
       have bv:=xR.trans (s2.mono PF)
       have WQ:=(zI ((bv.block _ nc).trans kr))
       go_simp
       refine hK _ _ (fun _=>WQ) ?_
       clear hK K
       try simp only[tn]
       refine zAC 10 rfl fun K hK=>?_
       go_simp
       refine hK _ _ (fun _=>WQ) ?_
       clear hK K
       try simp only[tn]
       refine zAE ?_
       have FSx:=rQ.fresh (w:=_) (z:=w0.heap.size) (z':=W3.heap.size) (P:=fun j=>j=B∨j=L) (q:=⟨⟨ti (Qk k).r.s (Qk k).r.m (C k),tW (Qk k).r.l (Qk k).r.us (C k),td (Qk k).r.g (C k),0,[],[],false⟩,b0,d0,b1,d1,b2,d2,b3,d3⟩) (F.keep s2.size (fun j hj=>s3 j (by have:=zG bw;omega))) (Nat.le_trans pv.size C5) (fun j hj=>by have:=j9.ltB;have:=j9.ltL;rcases hj with rfl|rfl<;>omega)
       have HF:Hid (Below W.heap.size W (((((((W4.setCell ⟨W2.heap.size,0,none⟩ (.slice b0 (ti (Qk k).r.s (Qk k).r.m (C k)).length d0)).setCell ⟨W2.heap.size,1,none⟩ (.slice b1 (tW (Qk k).r.l (Qk k).r.us (C k)).length d1)).setCell ⟨W2.heap.size,2,none⟩ (.int .i64 (td (Qk k).r.g (C k)))).setCell ⟨W2.heap.size,3,none⟩ (.int .i64 0)).setCell ⟨W2.heap.size,4,none⟩ (.slice b2 0 d2)).setCell ⟨W2.heap.size,5,none⟩ (.slice b3 0 d3)).setCell ⟨W2.heap.size,6,none⟩ (.bool false))):=xF.trans (bv.mono Dj)
       have HE:Hid (uH (Qk k).r.s (Qk k).r.l (Qk k).r.g (Qk k).r.ph (Qk k).r.m (Qk k).r.us (Qk k).r.f (C k)=0):=hz
       go_wp2
       go_meet
       case rel=>exact⟨HF.out,W2.heap.size,rfl,by omega,Or.inr ⟨HE.out,rfl,⟨⟨ti (Qk k).r.s (Qk k).r.m (C k),tW (Qk k).r.l (Qk k).r.us (C k),td (Qk k).r.g (C k),0,[],[],false⟩,b0,d0,b1,d1,b2,d2,b3,d3⟩,rfl,s1,FSx⟩⟩
    ·have h:=zB W1 zo
     have TU:=heap_alloc_new W1 zo
     have zZ:=bt zM h
     have xy: ∀j,j<W1.heap.size→(W1.alloc zo).heap[j]? =W1.heap[j]?:=fun j hj=>h.block j hj
     have ky:=h.size
     clear h
     go_simp
     refine hK _ _ (fun _=>(zI ((zZ.block _ nc).trans kr))) ?_
     clear hK K
     try simp only[tn]
     generalize W1.alloc zo=W2 at *
     refine zAC 3 rfl fun K hK=>?_
     go_simp
     refine(rg k W2 zN (PW.below zZ)).mono ?_
     rintro e W3 ⟨rfl,h⟩
     have yT:=bt zZ h
     have tv: ∀j,j<W2.heap.size→W3.heap[j]? =W2.heap[j]?:=fun j hj=>h.block j hj
     have PG:=h.size
     clear h
     refine hK _ _ (fun _=>(zI ((yT.block _ nc).trans kr))) ?_
     clear hK K
     try simp only[tn]
     have bw:=(tv _ (zG TU)).trans TU
     refine zAC 4 rfl fun K hK=>?_
     go_simp
     refine(kZ (Qk k).aS (Qk k).cs (Qk k).r.s (Qk k).al (Qk k).cl (Qk k).r.l (Qk k).r.g (Qk k).r.ph (Qk k).a1 (Qk k).c1 (Qk k).r.m (Qk k).a2 (Qk k).c2 (Qk k).r.us (Qk k).r.f (C k) W3 (hg.below ((bt pv yT))) ((j9.each k zN).below yT).self).mono ?_
     rintro e W4 ⟨h,xK⟩
     have xR:=bt yT h
     have Ke: ∀j,j<W3.heap.size→W4.heap[j]? =W3.heap[j]?:=fun j hj=>h.block j hj
     have AA:=h.size
     clear h
     have C5:W1.heap.size≤W3.heap.size:=yT.size
     rcases xK with⟨yM,rfl⟩|⟨hz,b0,d0,b1,d1,b2,d2,b3,d3,rfl,F⟩
     ·refine hK _ _ (fun _=>(zI ((xR.block _ nc).trans kr))) ?_
      clear hK K
      try simp only[tn]
      refine zAB 5 ?_ rfl ?_ (zI ((xR.block _ nc).trans kr)) ?_;rotate_left
      ·intro w zD;obtain⟨r0,r1,r2,r3,r4,r5,r6⟩:=zD;go_simp;rfl
      try simp only[tn]
      refine zAB 6 ?_ rfl ?_ (zI ((xR.block _ nc).trans kr)) ?_;rotate_left
      ·intro w zD;obtain⟨r0,r1,r2,r3,r4,r5,r6⟩:=zD;go_simp;rfl
      try simp only[tn]
      refine zAB 7 ?_ rfl ?_ (zI ((xR.block _ nc).trans kr)) ?_;rotate_left
      ·intro w zD;obtain⟨r0,r1,r2,r3,r4,r5,r6⟩:=zD;go_simp;rfl
      try simp only[tn]
      have uk:=(Ke _ (zG bw)).trans bw
      have PF:W1.heap.size≤W1.heap.size:=Nat.le_refl _
      refine zAC 9 rfl fun K hK=>?_
      obtain⟨o0,o1,o2,o3,o4,o5,o6⟩:=zI uk
      have pi:=zF (o:=0) uk
      have nG:=zF (o:=1) uk
      have pX:=zF (o:=2) uk
      have pc:=zF (o:=3) uk
      have pg:=zF (o:=4) uk
      have pp:=zF (o:=5) uk
      have nF:=zF (o:=6) uk
      obtain⟨s1,s2,s3⟩:=yQ W4 W1.heap.size 36 (.slice none 0 0) (.slice none 0 0) (.int .i64 0) (.int .i64 0) (.slice none 0 0) (.slice none 0 0) (.bool false) uk
      have bv:=xR.trans (s2.mono PF)
      have WQ:=(zI ((bv.block _ nc).trans kr))
      go_simp
      refine hK _ _ (fun _=>WQ) ?_
      clear hK K
      try simp only[tn]
      refine zAC 10 rfl fun K hK=>?_
      go_simp
      refine hK _ _ (fun _=>WQ) ?_
      clear hK K
      try simp only[tn]
      refine zAE ?_
      have HF:Hid (Below W.heap.size W (((((((W4.setCell ⟨W1.heap.size,0,none⟩ (.slice none 0 0)).setCell ⟨W1.heap.size,1,none⟩ (.slice none 0 0)).setCell ⟨W1.heap.size,2,none⟩ (.int .i64 0)).setCell ⟨W1.heap.size,3,none⟩ (.int .i64 0)).setCell ⟨W1.heap.size,4,none⟩ (.slice none 0 0)).setCell ⟨W1.heap.size,5,none⟩ (.slice none 0 0)).setCell ⟨W1.heap.size,6,none⟩ (.bool false))):=xF.trans (bv.mono Dj)
      have HE:Hid (uH (Qk k).r.s (Qk k).r.l (Qk k).r.g (Qk k).r.ph (Qk k).r.m (Qk k).r.us (Qk k).r.f (C k)≠0):=yM
      go_wp2
      go_meet
      case rel=>exact⟨HF.out,W1.heap.size,rfl,by omega,Or.inl ⟨HE.out,rfl⟩⟩
     ·refine hK _ _ (fun _=>(zI ((xR.block _ nc).trans kr))) ?_
      clear hK K
      try simp only[tn]
      refine zAB 5 ?_ rfl ?_ (zI ((xR.block _ nc).trans kr)) ?_;rotate_left
      ·intro w zD;obtain⟨r0,r1,r2,r3,r4,r5,r6⟩:=zD;go_simp;rfl
      try simp only[tn]
      refine zAB 6 ?_ rfl ?_ (zI ((xR.block _ nc).trans kr)) ?_;rotate_left
      ·intro w zD;obtain⟨r0,r1,r2,r3,r4,r5,r6⟩:=zD;go_simp;rfl
      try simp only[tn]
      refine zAB 7 ?_ rfl ?_ (zI ((xR.block _ nc).trans kr)) ?_;rotate_left
      ·intro w zD;obtain⟨r0,r1,r2,r3,r4,r5,r6⟩:=zD;go_simp;rfl
      try simp only[tn]
      have uk:=(Ke _ (zG bw)).trans bw
      have PF:W1.heap.size≤W1.heap.size:=Nat.le_refl _
      refine zAC 9 rfl fun K hK=>?_
      obtain⟨o0,o1,o2,o3,o4,o5,o6⟩:=zI uk
      have pi:=zF (o:=0) uk
      have nG:=zF (o:=1) uk
      have pX:=zF (o:=2) uk
      have pc:=zF (o:=3) uk
      have pg:=zF (o:=4) uk
      have pp:=zF (o:=5) uk
      have nF:=zF (o:=6) uk
      obtain⟨s1,s2,s3⟩:=yQ W4 W1.heap.size 36 (.slice b0 (ti (Qk k).r.s (Qk k).r.m (C k)).length d0) (.slice b1 (tW (Qk k).r.l (Qk k).r.us (C k)).length d1) (.int .i64 (td (Qk k).r.g (C k))) (.int .i64 0) (.slice b2 0 d2) (.slice b3 0 d3) (.bool false) uk
      have bv:=xR.trans (s2.mono PF)
      have WQ:=(zI ((bv.block _ nc).trans kr))
      go_simp
      refine hK _ _ (fun _=>WQ) ?_
      clear hK K
      try simp only[tn]
      refine zAC 10 rfl fun K hK=>?_
      go_simp
      refine hK _ _ (fun _=>WQ) ?_
      clear hK K
      try simp only[tn]
      refine zAE ?_
      have FSx:=rQ.fresh (w:=_) (z:=w0.heap.size) (z':=W3.heap.size) (P:=fun j=>j=B∨j=L) (q:=⟨⟨ti (Qk k).r.s (Qk k).r.m (C k),tW (Qk k).r.l (Qk k).r.us (C k),td (Qk k).r.g (C k),0,[],[],false⟩,b0,d0,b1,d1,b2,d2,b3,d3⟩) (F.keep s2.size (fun j hj=>s3 j (by have:=zG bw;omega))) (Nat.le_trans pv.size C5) (fun j hj=>by have:=j9.ltB;have:=j9.ltL;rcases hj with rfl|rfl<;>omega)
      have HF:Hid (Below W.heap.size W (((((((W4.setCell ⟨W1.heap.size,0,none⟩ (.slice b0 (ti (Qk k).r.s (Qk k).r.m (C k)).length d0)).setCell ⟨W1.heap.size,1,none⟩ (.slice b1 (tW (Qk k).r.l (Qk k).r.us (C k)).length d1)).setCell ⟨W1.heap.size,2,none⟩ (.int .i64 (td (Qk k).r.g (C k)))).setCell ⟨W1.heap.size,3,none⟩ (.int .i64 0)).setCell ⟨W1.heap.size,4,none⟩ (.slice b2 0 d2)).setCell ⟨W1.heap.size,5,none⟩ (.slice b3 0 d3)).setCell ⟨W1.heap.size,6,none⟩ (.bool false))):=xF.trans (bv.mono Dj)
      have HE:Hid (uH (Qk k).r.s (Qk k).r.l (Qk k).r.g (Qk k).r.ph (Qk k).r.m (Qk k).r.us (Qk k).r.f (C k)=0):=hz
      go_wp2
      go_meet
      case rel=>exact⟨HF.out,W1.heap.size,rfl,by omega,Or.inr ⟨HE.out,rfl,⟨⟨ti (Qk k).r.s (Qk k).r.m (C k),tW (Qk k).r.l (Qk k).r.us (C k),td (Qk k).r.g (C k),0,[],[],false⟩,b0,d0,b1,d1,b2,d2,b3,d3⟩,rfl,s1,FSx⟩⟩
   case rest=>
    obtain⟨hbx,p,rfl,PF,Fu⟩:=hcut
    have pv:=bt X5 hbx
    have j9:=U5.below hbx
    have PW:=XD.below hbx
    have Bh:p≠B:=by have:=U5.ltB;omega
    have HFV:Hid (qo (Q k).r (V k) (C k)=uH (Qk k).r.s (Qk k).r.l (Qk k).r.g (Qk k).r.ph (Qk k).r.m (Qk k).r.us (Qk k).r.f (C k)):=by unfold Hid qo;rw[HV.out,←HQ.out];rfl
    clear hbx X5 U5 XD Y7
    rcases Fu with⟨yM,rfl⟩|⟨hz,rfl,q,Nv,kq,J9⟩
    ·have hb:(uH (Qk k).r.s (Qk k).r.l (Qk k).r.g (Qk k).r.ph (Qk k).r.m (Qk k).r.us (Qk k).r.f (C k) != 0)=true:=by simpa using yM
     have HF:Hid (PO (.returned (.int .i64 (uH (Qk k).r.s (Qk k).r.l (Qk k).r.g (Qk k).r.ph (Qk k).r.m (Qk k).r.us (Qk k).r.f (C k)))) wc):=by
      have e:km (fun i=>qo (Q i).r (V i) (C i))=uH (Qk k).r.s (Qk k).r.l (Qk k).r.g (Qk k).r.ph (Qk k).r.m (Qk k).r.us (Qk k).r.f (C k):=by
       rw[Ks zN (fun i hi=>HZ.out i hi) (by rw[HFV.out];exact yM)];exact HFV.out
      refine(xY.out _ _).2 ⟨by rw[e],pv,PW,fun h=>?_⟩
      rw[e]at h;exact absurd h yM
     clear yM
     go_wp2
     exact HF.out
    ·go_upto_region 8 with fail
     have xF:=zU wc
     have na:=bt pv xF
     have nJ:=j9.below xF
     have Eu:=PW.below xF
     have YA:=zA5 xF kq
     have GU:=J9.below xF
     have tw:wc.drew.cell? ⟨L,0,none⟩=some (.slice (some ⟨B,off,none⟩) 3 cap)∧(wc.drew.cell? ⟨p,0,none⟩=some (.slice q.aS q.r.s.length q.cs)∧wc.drew.cell? ⟨p,1,none⟩=some (.slice q.al q.r.l.length q.cl)∧wc.drew.cell? ⟨p,2,none⟩=some (.int .i64 q.r.g)∧wc.drew.cell? ⟨p,3,none⟩=some (.int .i64 q.r.ph)∧wc.drew.cell? ⟨p,4,none⟩=some (.slice q.a1 q.r.m.length q.c1)∧wc.drew.cell? ⟨p,5,none⟩=some (.slice q.a2 q.r.us.length q.c2)∧wc.drew.cell? ⟨p,6,none⟩=some (.bool q.r.f)):=⟨nJ.head,zI YA⟩
     refine zS (fun W=>W.cell? ⟨L,0,none⟩=some (.slice (some ⟨B,off,none⟩) 3 cap)∧(W.cell? ⟨p,0,none⟩=some (.slice q.aS q.r.s.length q.cs)∧W.cell? ⟨p,1,none⟩=some (.slice q.al q.r.l.length q.cl)∧W.cell? ⟨p,2,none⟩=some (.int .i64 q.r.g)∧W.cell? ⟨p,3,none⟩=some (.int .i64 q.r.ph)∧W.cell? ⟨p,4,none⟩=some (.slice q.a1 q.r.m.length q.c1)∧W.cell? ⟨p,5,none⟩=some (.slice q.a2 q.r.us.length q.c2)∧W.cell? ⟨p,6,none⟩=some (.bool q.r.f))) (fun _=>false) (by kernel_rfl) tw (fun hS=>?_)
     generalize wc.drew=W1 at *
     clear tw xF pv j9 PW kq J9
     refine zAA 0 ?_ rfl ?_ ?_;rotate_left
     ·intro w zD;obtain⟨s0,r0,r1,r2,r3,r4,r5,r6⟩:=zD;go_simp;rfl
     try simp only[tn]
     refine zAA 1 ?_ rfl ?_ ?_;rotate_left
     ·intro w zD;obtain⟨s0,r0,r1,r2,r3,r4,r5,r6⟩:=zD;go_simp;rfl
     try simp only[tn]
     refine zAA 2 ?_ rfl ?_ ?_;rotate_left
     ·intro w zD;obtain⟨s0,r0,r1,r2,r3,r4,r5,r6⟩:=zD;go_simp;rfl
     try simp only[tn]
     refine zAA 3 ?_ rfl ?_ ?_;rotate_left
     ·intro w zD;obtain⟨s0,r0,r1,r2,r3,r4,r5,r6⟩:=zD;go_simp;rfl
     try simp only[tn]
     refine zAA 4 ?_ rfl ?_ ?_;rotate_left
     ·intro w zD;obtain⟨s0,r0,r1,r2,r3,r4,r5,r6⟩:=zD;go_simp;rfl
     try simp only[tn]
     refine zAA 5 ?_ rfl ?_ ?_;rotate_left
     ·intro w zD;obtain⟨s0,r0,r1,r2,r3,r4,r5,r6⟩:=zD;go_simp;rfl
     try simp only[tn]
     refine zAA 6 ?_ rfl ?_ ?_;rotate_left
     ·intro w zD;obtain⟨s0,r0,r1,r2,r3,r4,r5,r6⟩:=zD;go_simp;rfl
     try simp only[tn]
     refine zAA 7 ?_ rfl ?_ ?_;rotate_left
     ·intro w zD;obtain⟨s0,r0,r1,r2,r3,r4,r5,r6⟩:=zD;go_simp;rfl
     try simp only[tn]
     refine zAC 8 rfl fun K hK=>?_
     obtain⟨u0,u1,u2,u3,u4,u5,u6⟩:=nJ.row k zN
     obtain⟨cb,nv⟩:=nJ.hB
     have Ep:=zF (o:=off+k*7) nv
     have DC:=zF (o:=off+k*7+1) nv
     have Fb:=zF (o:=off+k*7+2) nv
     have DF:=zF (o:=off+k*7+3) nv
     have Fq:=zF (o:=off+k*7+4) nv
     have Gp:=zF (o:=off+k*7+5) nv
     have F0:=zF (o:=off+k*7+6) nv
     have bs:=nJ.row_set zN q GU
     have gC:Below w0.heap.size w0 (xJ W1 B (off+k*7) (.slice q.aS q.r.s.length q.cs) (.slice q.al q.r.l.length q.cl) (.int .i64 q.r.g) (.int .i64 q.r.ph) (.slice q.a1 q.r.m.length q.c1) (.slice q.a2 q.r.us.length q.c2) (.bool q.r.f)):=pk _ _ _ _ _ _ _ na nJ.zb
     have Dz:PE B w (xJ W1 B (off+k*7) (.slice q.aS q.r.s.length q.cs) (.slice q.al q.r.l.length q.cl) (.int .i64 q.r.g) (.int .i64 q.r.ph) (.slice q.a1 q.r.m.length q.c1) (.slice q.a2 q.r.us.length q.c2) (.bool q.r.f)):=⟨Nat.le_trans Eu.1 (Nat.le_of_eq (gp _ _ _ _ _ _ _ _ _ _).symm),fun j hj hn=>(tZ W1 B (off+k*7) j _ _ _ _ _ _ _ hn).trans (Eu.2 j hj hn)⟩
     have Nl:(xJ W1 B (off+k*7) (.slice q.aS q.r.s.length q.cs) (.slice q.al q.r.l.length q.cl) (.int .i64 q.r.g) (.int .i64 q.r.ph) (.slice q.a1 q.r.m.length q.c1) (.slice q.a2 q.r.us.length q.c2) (.bool q.r.f)).heap[p]? =some q.blk:=(tZ W1 B (off+k*7) p _ _ _ _ _ _ _ Bh).trans YA
     have Zi:(xJ W1 B (off+k*7) (.slice q.aS q.r.s.length q.cs) (.slice q.al q.r.l.length q.cl) (.int .i64 q.r.g) (.int .i64 q.r.ph) (.slice q.a1 q.r.m.length q.c1) (.slice q.a2 q.r.us.length q.c2) (.bool q.r.f)).cell? ⟨L,0,none⟩=some (.slice (some ⟨B,off,none⟩) 3 cap)∧((xJ W1 B (off+k*7) (.slice q.aS q.r.s.length q.cs) (.slice q.al q.r.l.length q.cl) (.int .i64 q.r.g) (.int .i64 q.r.ph) (.slice q.a1 q.r.m.length q.c1) (.slice q.a2 q.r.us.length q.c2) (.bool q.r.f)).cell? ⟨p,0,none⟩=some (.slice q.aS q.r.s.length q.cs)∧(xJ W1 B (off+k*7) (.slice q.aS q.r.s.length q.cs) (.slice q.al q.r.l.length q.cl) (.int .i64 q.r.g) (.int .i64 q.r.ph) (.slice q.a1 q.r.m.length q.c1) (.slice q.a2 q.r.us.length q.c2) (.bool q.r.f)).cell? ⟨p,1,none⟩=some (.slice q.al q.r.l.length q.cl)∧(xJ W1 B (off+k*7) (.slice q.aS q.r.s.length q.cs) (.slice q.al q.r.l.length q.cl) (.int .i64 q.r.g) (.int .i64 q.r.ph) (.slice q.a1 q.r.m.length q.c1) (.slice q.a2 q.r.us.length q.c2) (.bool q.r.f)).cell? ⟨p,2,none⟩=some (.int .i64 q.r.g)∧(xJ W1 B (off+k*7) (.slice q.aS q.r.s.length q.cs) (.slice q.al q.r.l.length q.cl) (.int .i64 q.r.g) (.int .i64 q.r.ph) (.slice q.a1 q.r.m.length q.c1) (.slice q.a2 q.r.us.length q.c2) (.bool q.r.f)).cell? ⟨p,3,none⟩=some (.int .i64 q.r.ph)∧(xJ W1 B (off+k*7) (.slice q.aS q.r.s.length q.cs) (.slice q.al q.r.l.length q.cl) (.int .i64 q.r.g) (.int .i64 q.r.ph) (.slice q.a1 q.r.m.length q.c1) (.slice q.a2 q.r.us.length q.c2) (.bool q.r.f)).cell? ⟨p,4,none⟩=some (.slice q.a1 q.r.m.length q.c1)∧(xJ W1 B (off+k*7) (.slice q.aS q.r.s.length q.cs) (.slice q.al q.r.l.length q.cl) (.int .i64 q.r.g) (.int .i64 q.r.ph) (.slice q.a1 q.r.m.length q.c1) (.slice q.a2 q.r.us.length q.c2) (.bool q.r.f)).cell? ⟨p,5,none⟩=some (.slice q.a2 q.r.us.length q.c2)∧(xJ W1 B (off+k*7) (.slice q.aS q.r.s.length q.cs) (.slice q.al q.r.l.length q.cl) (.int .i64 q.r.g) (.int .i64 q.r.ph) (.slice q.a1 q.r.m.length q.c1) (.slice q.a2 q.r.us.length q.c2) (.bool q.r.f)).cell? ⟨p,6,none⟩=some (.bool q.r.f)):=⟨bs.head,zI Nl⟩
     go_simp
     refine hK _ _ (fun _=>Zi) ?_
     clear hK K
     try simp only[tn]
     generalize hW6:(xJ W1 B (off+k*7) (.slice q.aS q.r.s.length q.cs) (.slice q.al q.r.l.length q.cl) (.int .i64 q.r.g) (.int .i64 q.r.ph) (.slice q.a1 q.r.m.length q.c1) (.slice q.a2 q.r.us.length q.c2) (.bool q.r.f))=W6 at bs gC Dz Nl Zi
     unfold xJ at hW6
     rw[hW6]
     clear hW6 u0 u1 u2 u3 u4 u5 u6 Ep DC Fb DF Fq Gp F0 nv nJ na Eu YA Zi Nl GU
     refine zAE ?_
     have HI':Hid (∀i,i<3→i<k+1→(jf Qk k q i).r=fg (Q i).r (V i) (C i)):=fun i hi eB=>by
      by_cases e:i=k
      ·subst e
       rw[tr,Nv.out,HQ.out]
       unfold fg
       rw[HV.out];rfl
      ·rw[vQ _ _ e];exact HI.out i hi (by omega)
     have HJ':Hid (∀i,i<3→k+1≤i→jf Qk k q i=Q i):=fun i hi eB=>by
      rw[vQ _ _ (by omega:i≠k)];exact HJ.out i hi (by omega)
     have HZ':Hid (∀i,i<k+1→qo (Q i).r (V i) (C i)=0):=fun i eB=>by
      by_cases e:i=k
      ·subst e;rw[HFV.out];exact hz
      ·exact HZ.out i (by omega)
     clear HI HJ HZ hz
     go_wp2
     go_roundw
     case rel=>exact⟨k+1,_,by go_num,by omega,gC,bs,Dz,HI',HJ',HZ'⟩
     case measure=>simp[intOf];omega
  ·have tv:k=3:=by omega
   subst tv
   have HF:Hid (PO (.returned (.int .i64 0)) wr):=by
    have e:km (fun i=>qo (Q i).r (V i) (C i))=0:=Zp.2 (fun i hi=>HZ.out i hi)
    exact(xY.out _ _).2 ⟨by rw[e],HB,HK,fun _=>⟨Qk,HL,fun i hi=>HI.out i hi hi⟩⟩
   clear HI HJ HZ HB HL HK
   go_wp2
   exact HF.out
def mv(w:World)(z y:Nat)(P:World→Prop):Prop:=y≤w.heap.size∧∀w',y≤w'.heap.size→(∀k,z≤k→k<y→w'.heap[k]? =w.heap[k]?)→P w'
theorem mv.here{w:World}{z y:Nat}{P:World→Prop}(h:mv w z y P):P w:=h.2 w h.1 (fun _ _ _=>rfl)
theorem mv.next{w w':World}{z y:Nat}{P:World→Prop}(h:mv w z y P)(hs:y≤w'.heap.size)(hk: ∀k,z≤k→k<y→w'.heap[k]? =w.heap[k]?):mv w' z y P:=
 ⟨hs,fun w2 h2 k2=>h.2 w2 h2 (fun k q1 q2=>(k2 k q1 q2).trans (hk k q1 q2))⟩
theorem mv.below{w w':World}{z y:Nat}{P:World→Prop}(h:mv w z y P)(hb:Below w.heap.size w w'):mv w' z y P:=
 h.next (Nat.le_trans h.1 hb.size) (fun k _ q=>hb.block k (Nat.lt_of_lt_of_le q h.1))
theorem mv.set{w:World}{z y p o:Nat}{v:Value}{P:World→Prop}(h:mv w z y P)(hp:p<z∨y≤p):mv (w.setCell ⟨p,o,none⟩ v) z y P:=
 h.next (Nat.le_trans h.1 (yX _ _ _)) (fun k q1 q2=>heap_setCell_other w ⟨p,o,none⟩ k v (by show k≠p;omega))
theorem mv.imp{w:World}{z y:Nat}{P Q:World→Prop}(h:mv w z y P)(f: ∀W,P W→Q W):mv w z y Q:=⟨h.1,fun w' a b=>f _ (h.2 w' a b)⟩
theorem mv.and{w:World}{z y:Nat}{P Q:World→Prop}(h:mv w z y P)(k:mv w z y Q):mv w z y (fun W=>P W∧Q W):=⟨h.1,fun w' a b=>⟨h.2 w' a b,k.2 w' a b⟩⟩
theorem mv.widen{w:World}{z z' y:Nat}{P:World→Prop}(h:mv w z y P)(hz:z'≤z):mv w z' y P:=⟨h.1,fun w' a b=>h.2 w' a (fun k q1 q2=>b k (Nat.le_trans hz q1) q2)⟩
theorem n7.dep{w:World}{z:Nat}{aS al am au:Option Addr}{cs cl cm cu:Nat}{s:List Ob}{l:List Rf}{m:List Ob}{us:List Up}(h:n7 w z aS cs s al cl l am cm m au cu us):mv w z w.heap.size (fun W=>sJ W aS s al l am m au us):=
 ⟨Nat.le_refl _,fun w' hs hk=>by
  obtain⟨a,b,c,d⟩:=(h.fr.kept hs hk).holds
  exact⟨a,b,c,d,h.h.ns,h.h.nl,h.h.nm,h.h.nu⟩⟩
theorem xt.dep{w:World}{z:Nat}{m:List Ob}{rs:List Pl}{a:Option Addr}{c:Nat}(e:rs.map Pl.x=m)(o:xt w z (.slice a m.length c) rs):mv w z w.heap.size (fun W=>zP W a m∧rT W a m):=
 ⟨Nat.le_refl _,fun w' hs hk=>by
  have o':=o.kept hs hk
  refine⟨xt.list e o',?_⟩
  have:=o'.room
  rwa[e]at this⟩
theorem Ld.dep{w:World}{z L B cap:Nat}{Q:Nat→Rq}{V:Nat→ByteArray}(h:Ld w z L B 0 cap Q V):mv w z w.heap.size (fun W=>zy W (some ⟨B,0,none⟩) [Q 0,Q 1,Q 2]):=
 ⟨Nat.le_refl _,fun w' hs hk=>by
  have hB:=(hk B h.zb h.ltB)
  have hl:kI z (fun k=>k=B∨k=L) w w':=⟨hs,fun k q1 q2 _=>hk k q1 q2⟩
  intro i hi
  refine⟨B,0,rfl,Nat.lt_of_lt_of_le h.ltB hs,fun j hj=>?_⟩
  have j8:j=0∨j=1∨j=2:=by simp at hj;omega
  rcases j8 with rfl|rfl|rfl
  ·exact⟨(h.row 0 (by omega)).block hB,h.each 0 (by omega) w' hl⟩
  ·exact⟨(h.row 1 (by omega)).block hB,h.each 1 (by omega) w' hl⟩
  ·exact⟨(h.row 2 (by omega)).block hB,h.each 2 (by omega) w' hl⟩⟩
def yq(l:List Rp)(i:Nat):Rp:=l.getD i ⟨[],[],0,0,[],[],false⟩
def vI(l:List Rp)(m:List Ob)(us:List Up)(f:Bool)(up:Int)(i:Nat):ByteArray:=eA m us f up (yq l i) i
def tI(l:List Rp)(m:List Ob)(us:List Up)(f:Bool)(up:Int):ByteArray×Bool:=qf (vI l m us f up 0) (vI l m us f up 1) (vI l m us f up 2)
def wI(l:List Rp)(m:List Ob)(us:List Up)(f:Bool)(up late:Int)(i:Nat):Bool:=nx (tI l m us f up).2 (vI l m us f up i) (tI l m us f up).1 late i
def mb(l:List Rp)(m:List Ob)(us:List Up)(f:Bool)(up late:Int):Bool:=decide (3<2*xw (wI l m us f up late) 3)
def cI(l:List Rp)(m:List Ob)(us:List Up)(f:Bool)(up late:Int)(i:Nat):Bool:=mb l m us f up late&&wI l m us f up late i
def eI(l:List Rp)(m:List Ob)(us:List Up)(f:Bool)(up late:Int)(i:Nat):Rp:=fg (n9 m us f up (yq l i) i) (vI l m us f up i) (cI l m us f up late i)
def FX(l:List Rp)(m:List Ob)(us:List Up)(f:Bool)(up late:Int):Int:=km (fun i=>qo (n9 m us f up (yq l i) i) (vI l m us f up i) (cI l m us f up late i))
def pE(l:List Rp)(m:List Ob)(us:List Up)(f:Bool)(up late:Int):Int:=if Wj l m us up late≠0 then Wj l m us up late else FX l m us f up late
def eL(l:List Rp)(m:List Ob)(us:List Up)(f:Bool)(up late:Int):List Rp:=[eI l m us f up late 0,eI l m us f up late 1,eI l m us f up late 2]
def gm(l:List Rp)(m:List Ob)(us:List Up)(f:Bool)(up late:Int)(w:World)(e:Ending)(w':World):Prop:=
 Below w.heap.size w w'∧((pE l m us f up late≠0∧e= .returned (.tuple #[.agg #[.slice none 0 0],.bool false,.int .i64 (pE l m us f up late)]))∨
  (pE l m us f up late=0∧∃B cap qs,e= .returned (.tuple #[.agg #[.slice (some ⟨B,0,none⟩) 3 cap],.bool (mb l m us f up late),.int .i64 0])∧qs.map Rq.r=eL l m us f up late∧mv w' w.heap.size w'.heap.size (fun W=>zy W (some ⟨B,0,none⟩) qs)∧3≤cap∧cap≤9223372036854775807))
theorem Ld.holds{w:World}{z L B cap:Nat}{Q:Nat→Rq}{V:Nat→ByteArray}(h:Ld w z L B 0 cap Q V):zy w (some ⟨B,0,none⟩) [Q 0,Q 1,Q 2]:=by
 intro i hi
 refine⟨B,0,rfl,h.ltB,fun j hj=>?_⟩
 have j8:j=0∨j=1∨j=2:=by simp at hj;omega
 rcases j8 with rfl|rfl|rfl
 ·exact⟨h.row 0 (by omega),(h.each 0 (by omega)).self⟩
 ·exact⟨h.row 1 (by omega),(h.each 1 (by omega)).self⟩
 ·exact⟨h.row 2 (by omega),(h.each 2 (by omega)).self⟩
theorem Ld.of_copy{w:World}{z B cap:Nat}{qs:List Rq}(h:Qs w z (.slice (some ⟨B,0,none⟩) 3 cap) qs)(hl:qs.length=3)(d:Rq)(hz:z≤w.heap.size):
  Ld (w.alloc (.cells #[.slice (some ⟨B,0,none⟩) 3 cap,.string yJ,.string yJ,.string yJ] 89)) z w.heap.size B 0 cap (fun i=>qs.getD i d) (fun _=>yJ):=by
 have hA:=zB w (.cells #[.slice (some ⟨B,0,none⟩) 3 cap,.string yJ,.string yJ,.string yJ] 89)
 have hn:=heap_alloc_new w (.cells #[.slice (some ⟨B,0,none⟩) 3 cap,.string yJ,.string yJ,.string yJ] 89)
 have zN:=h.own.lt B rfl
 have rg:=h.own.cells (g:=B) rfl
 have vd: ∀j,(⟨B,0,none⟩:Addr).add j=⟨B,0+j,none⟩:=fun j=>by unfold Addr.add;split<;>simp_all
 have Lf: ∀i,i<3→bY w B (0+i*7) (qs.getD i d):=by
  intro i hi
  have TS:i<qs.length:=by omega
  have e:qs.getD i d=qs[i]:=by simp[TS]
  rw[e]
  have hr: ∀j u,j<7→(qs[i].cells)[j]? =some u→w.cell? ⟨B,0+i*7+j,none⟩=some u:=by
   intro j u hj hu
   have:=rg (i*7+j) u (by rw[pK qs i j TS hj];exact hu)
   rw[vd]at this
   rw[show 0+i*7+j=0+(i*7+j) by omega];exact this
  exact⟨hr 0 _ (by omega) rfl,hr 1 _ (by omega) rfl,hr 2 _ (by omega) rfl,hr 3 _ (by omega) rfl,hr 4 _ (by omega) rfl,hr 5 _ (by omega) rfl,hr 6 _ (by omega) rfl⟩
 refine⟨⟨_,hn⟩,?_,hz,zN.1,by omega,?_,?_,fun i hi=>(Lf i hi).block (hA.block B zN.2),?_⟩
 ·rcases h.own.2 with⟨e,_⟩|⟨g,c2,cur,e,_,hg,_⟩
  ·cases e
  ·have PV:some g=some B:=by have:=congrArg Value.ownBlock e;simpa[Value.ownBlock]using this.symm
   cases PV
   exact⟨cur,(hA.block _ zN.2).trans hg⟩
 ·rw[cell_of_row _ _ _ _ _ _ hn];rfl
 ·intro i hi
  have:i=0∨i=1∨i=2:=by omega
  rcases this with rfl|rfl|rfl<;>(rw[cell_of_row _ _ _ _ _ _ hn];rfl)
 ·intro i hi
  have hm:qs.getD i d∈qs:=by
   have TS:i<qs.length:=by omega
   have e:qs.getD i d=qs[i]:=by simp[TS]
   rw[e];exact List.getElem_mem _
  refine(h.each _ hm).next (kI.of_below hA) (fun j hj e=>?_)
  rcases e with rfl|rfl
  ·rfl
  ·exact absurd hj (Nat.lt_irrefl _)
theorem Sf{l:List Rq}{i:Nat}{d:Rq}(h:i<l.length):yq (l.map Rq.r) i=(l.getD i d).r:=by simp[yq,h]
theorem Xu(w:World)(A B C D:Obj):((((w.alloc A).alloc B).alloc C).alloc D).heap[w.heap.size]? =some A∧((((w.alloc A).alloc B).alloc C).alloc D).heap[w.heap.size+1]? =some B∧((((w.alloc A).alloc B).alloc C).alloc D).heap[w.heap.size+2]? =some C∧((((w.alloc A).alloc B).alloc C).alloc D).heap[w.heap.size+3]? =some D∧Below w.heap.size w ((((w.alloc A).alloc B).alloc C).alloc D):=by
 obtain⟨h1,h2,h3,hB⟩:=xN w A B C
 have hA:=zB (((w.alloc A).alloc B).alloc C) D
 have h4:=heap_alloc_new (((w.alloc A).alloc B).alloc C) D
 rw[show(((w.alloc A).alloc B).alloc C).heap.size=w.heap.size+3 by simp]at h4
 exact⟨(zA5 hA h1),(zA5 hA h2),(zA5 hA h3),h4,(bt hB hA)⟩
theorem gm.bad{l:List Rp}{m:List Ob}{us:List Up}{f:Bool}{up late:Int}{w w':World}{r:Int}(h:pE l m us f up late=r)(h0:r≠0)(hb:Below w.heap.size w w'):gm l m us f up late w (.returned (.tuple #[.agg #[.slice none 0 0],.bool false,.int .i64 r])) w':=
 ⟨hb,.inl ⟨by rw[h];exact h0,by rw[h]⟩⟩
section
theorem P8{a b c v:ByteArray}:vj a b c v=true↔pr v=true∧2≤PH a b c v:=by simp[vj,aG]
theorem ah{a b c:ByteArray}: ∀L:List ByteArray,(nX a b c L).2=true→vj a b c (nX a b c L).1=true
 |[],h=>by cases h
 |v::r,h=>by
  unfold nX at h⊢
  split
  ·assumption
  ·rename_i k
   rw[if_neg k]at h
   exact ah r h
theorem Xs{a b c:ByteArray}(h:(qf a b c).2=true):pr (qf a b c).1=true:=(P8.1 (ah _ h)).1
theorem KK:pr yJ=false:=by decide +kernel
theorem mX{v:ByteArray}:v.toList.isEmpty=true↔v=yJ:=by
 rw[List.isEmpty_iff]
 constructor
 ·intro h
  exact tD.1 (by rw[h,show yJ.toList=[] by decide +kernel];rfl)
 ·rintro rfl;decide +kernel
theorem VP{m:List Ob}{us:List Up}{f:Bool}(h:xj m us f=true):m=[]∧us=[]∧f=false:=by
 simp only[xj,Bool.and_eq_true,decide_eq_true_eq]at h
 exact⟨List.eq_nil_of_length_eq_zero h.1.1,List.eq_nil_of_length_eq_zero h.1.2,by simpa using h.2⟩
theorem eZ{s:List Ob}{l:List Rf}{g:Int}(h:yG l s=0)(hg:0≤g∧g≤999):xA s l g 0 [] [] false=0:=tY.2 ⟨h,hg,by omega,fun e=>absurd rfl e,fun _=>rfl⟩
theorem Xe{s:List Ob}{l:List Rf}{g:Int}{m:List Ob}{us:List Up}{f:Bool}(hv:t7 g m us=0)(h:xX s l m us f=0):yY s l g m us f=qF++(zz g++Ym++tQ us):=by
 unfold yY je
 rw[if_neg (fun e=>e hv),if_neg (fun e=>e h)]
 apply ByteArray.ext
 simp[ByteArray.data_append,Array.append_assoc]
theorem VA{s:List Ob}{l:List Rf}{g:Int}{m:List Ob}{us:List Up}{f:Bool}(hv:t7 g m us=0)(h:xX s l m us f≠0):pr (yY s l g m us f)=false:=by
 unfold yY je
 rw[if_neg (fun e=>e hv),if_pos h]
 unfold pr Lib.hasPrefix
 rw[ByteArray.data_append,Array.toList_append]
 rfl
theorem re{s:List Ob}{l:List Rf}{g:Int}{m:List Ob}{us:List Up}{f:Bool}(hv:t7 g m us=0):yY s l g m us f≠yJ:=by
 intro e
 have h:3≤(yY s l g m us f).size:=by
  unfold yY je
  rw[if_neg (fun e=>e hv)]
  split
  ·rw[rn];show 3≤3+_;omega
  ·rw[rn,rn,rn];show 3≤4+_+_+_;omega
 rw[e]at h
 exact absurd h (by decide)
def zBV(l:List UInt8):Nat:=l.foldl (fun n c=>n*10+(c.toNat-48)) 0
theorem cT: ∀n:Nat,n≤999→zBV (zz (n:Int)).data.toList=n:=by decide +kernel
theorem LO{g h:Int}(hg:0≤g∧g≤999)(hh:0≤h∧h≤999)(e:zz g=zz h):g=h:=by
 obtain⟨n,rfl⟩:=Int.eq_ofNat_of_zero_le hg.1
 obtain⟨k,rfl⟩:=Int.eq_ofNat_of_zero_le hh.1
 have h1:=cT n (by omega)
 have h2:=cT k (by omega)
 rw[e,h2]at h1
 omega
theorem MI{g h:Int}{t:ByteArray}(hg:0≤g∧g≤999)(hh:0≤h∧h≤999)(e:qF++(zz g++Ym++t)=qF++(zz h++Ym++t)):g=h:=by
 refine LO hg hh (ByteArray.ext ?_)
 have q:=congrArg (fun x=>x.data.toList) e
 simp only[ByteArray.data_append,Array.toList_append,List.append_assoc]at q
 have q1:=List.append_cancel_left q
 have q2:=List.append_cancel_right q1
 exact Array.ext' q2
theorem gi{m:List Ob}{us:List Up}{f:Bool}{up:Int}{r:Rp}{i:Nat}(h:qr up r i=false):n9 m us f up r i=r∧eA m us f up r i=yJ:=by simp[n9,eA,h]
theorem tB{m:List Ob}{us:List Up}{f:Bool}{up:Int}{r:Rp}{i:Nat}(h:qr up r i=true):n9 m us f up r i=⟨r.s,r.l,r.g,2,m,us,f⟩∧eA m us f up r i=yY r.s r.l r.g m us f:=by simp[n9,eA,h]
theorem SY(r:Rp)(c:Bool):fg r yJ c=r∧qo r yJ c=0:=by
 unfold fg qo
 rw[if_pos (mX.2 rfl),if_pos (mX.2 rfl)];exact⟨rfl,rfl⟩
theorem pA(r:Rp){v:ByteArray}(c:Bool)(h:v≠yJ):fg r v c=⟨ti r.s r.m c,tW r.l r.us c,td r.g c,0,[],[],false⟩∧qo r v c=uH r.s r.l r.g r.ph r.m r.us r.f c:=by
 unfold fg qo
 rw[if_neg (fun e=>h (mX.1 e)),if_neg (fun e=>h (mX.1 e))];exact⟨rfl,rfl⟩
theorem RK{r:Rp}(h:r.err=0)(hp:r.ph=0):(⟨r.s,r.l,r.g,0,[],[],false⟩:Rp)=r:=by
 obtain⟨s,l,g,ph,m,us,f⟩:=r
 obtain⟨rfl,rfl,rfl⟩:=VP ((tY.1 h).2.2.2.2 hp)
 cases hp;rfl
theorem rV{r:Rp}(h:r.err=0):0≤r.g∧r.g≤999:=(tY.1 h).2.1
theorem vy{r:Rp}{m:List Ob}{us:List Up}(h:r.err=0)(hp:zr m us=0):t7 r.g m us=0:=Zf.2 ⟨hp,rV h⟩
theorem Dd{up:Int}{r:Rp}{i:Nat}(h:qr up r i=true):aV up i=true∧r.ph=0:=by
 simpa[qr]using h
section
variable {l:List Rp} {m:List Ob} {us:List Up} {f:Bool} {up late:Int} {i:Nat}
theorem Pm(he:(yq l i).err=0)(hp:zr m us=0)(hc:cI l m us f up late i=false):eI l m us f up late i=yq l i:=by
 unfold eI
 rw[hc]
 cases ha:qr up (yq l i) i with
 |false=>
  rw[(gi ha).1];unfold vI;rw[(gi ha).2];exact(SY _ _).1
 |true=>
  rw[(tB ha).1];unfold vI;rw[(tB ha).2]
  rw[(pA _ _ (re (vy he hp))).1]
  exact RK he (Dd ha).2
theorem Zq(he:(yq l i).err=0)(hp:zr m us=0)(hw:wI l m us f up late i=true):
  qr up (yq l i) i=true∧xX (yq l i).s (yq l i).l m us f=0∧aV late i=false∧qF++(zz (yq l i).g++Ym++tQ us)=(tI l m us f up).1:=by
 unfold wI nx at hw
 simp only[Bool.and_eq_true,Bool.not_eq_true']at hw
 obtain⟨⟨h1,h2⟩,h3⟩:=hw
 have me:pr (tI l m us f up).1=true:=Xs h1
 have hv:vI l m us f up i=(tI l m us f up).1:=tD.1 h2
 rw[←hv]at me⊢
 unfold vI at me⊢
 cases ha:qr up (yq l i) i with
 |false=>rw[(gi ha).2,KK]at me;cases me
 |true=>
  rw[(tB ha).2]at me⊢
  have ht:xX (yq l i).s (yq l i).l m us f=0:=by
   refine Classical.byContradiction fun hn=>?_
   rw[VA (vy he hp) hn]at me;cases me
  exact⟨rfl,ht,h3,(Xe (vy he hp) ht).symm⟩
theorem WI(h:cI l m us f up late i=true):mb l m us f up late=true∧wI l m us f up late i=true:=by
 simpa[cI]using h
theorem Bv(he:(yq l i).err=0)(hp:zr m us=0)(hc:cI l m us f up late i=true)(hz:qo (n9 m us f up (yq l i) i) (vI l m us f up i) (cI l m us f up late i)=0):
  eI l m us f up late i=⟨zH (yq l i).s m,yK (yq l i).l us,(yq l i).g+1,0,[],[],false⟩∧xX (yq l i).s (yq l i).l m us f=0∧(yq l i).g≠999:=by
 obtain⟨h1,h2,_,_⟩:=Zq he hp (WI hc).2
 unfold eI
 rw[hc]at hz⊢
 rw[(tB h1).1]at hz⊢
 unfold vI at hz⊢
 rw[(tB h1).2]at hz⊢
 rw[(pA _ _ (re (vy he hp))).1]
 rw[(pA _ _ (re (vy he hp))).2]at hz
 refine⟨rfl,h2,fun h9=>?_⟩
 have hr:xA (yq l i).s (yq l i).l (yq l i).g 2 m us f=0:=jx he hp ⟨by decide,by decide⟩
 unfold uH at hz
 rw[if_neg (fun e=>e (tF.2 ⟨hr,rfl⟩)),if_neg (by decide),if_neg (fun e=>e h2),if_pos h9]at hz
 cases hz
end
theorem Kf{l:List Rp}{m:List Ob}{us:List Up}{f:Bool}{up late:Int}(h:pE l m us f up late=0):Wj l m us up late=0∧∀i,i<3→qo (n9 m us f up (yq l i) i) (vI l m us f up i) (cI l m us f up late i)=0:=by
 unfold pE at h
 split at h
 ·rename_i c;exact absurd h c
 ·rename_i c
  exact⟨Classical.byContradiction c,Zp.1 h⟩
theorem yr{l:List Rp}:zi l=0↔l.length=3∧(∀i,i<3→(yq l i).err=0)∧(∀i j,i<j→j<3→¬bR (yq l i) (yq l j))∧2≤xw (aL l) 3:=by
 have key:l.length=3→∀i (h:i<l.length),yq l i=l[i]:=fun _ i h=>by simp[yq,h]
 unfold zi
 by_cases h3:l.length=3
 ·rw[if_neg (fun e=>e h3)]
  have k:=key h3
  have hf:vu l=0↔∀i,i<3→(yq l i).err=0:=by
   rw[fb]
   constructor
   ·intro h i hi;rw[k i (by omega)];exact h _ (List.getElem_mem _)
   ·intro h r hr
    obtain⟨n,hn,rfl⟩:=List.mem_iff_getElem.1 hr
    rw[←k n hn];exact h n (by omega)
  have hu:rK l=true↔∃i j,i<j∧j<3∧bR (yq l i) (yq l j):=by
   rw[fM]
   constructor
   ·rintro⟨i,j,hi,hj,nZ,q⟩;exact⟨i,j,nZ,by omega,by rw[k i hi,k j hj];exact q⟩
   ·rintro⟨i,j,nZ,hj,q⟩;exact⟨i,j,by omega,by omega,nZ,by rw[k i (by omega),k j (by omega)]at q;exact q⟩
  constructor
  ·intro h
   split at h
   ·rename_i c;exact absurd h c
   rename_i c1
   split at h
   ·cases h
   rename_i c2
   split at h
   ·rename_i c3
    exact⟨h3,hf.1 (Classical.byContradiction c1),fun i j nZ hj q=>c2 (hu.2 ⟨i,j,nZ,hj,q⟩),by omega⟩
   ·cases h
  ·rintro⟨_,h1,h2,h4⟩
   rw[if_neg (fun e=>e (hf.2 h1)),if_neg (fun e=>by obtain⟨i,j,nZ,hj,q⟩:=hu.1 e;exact h2 i j nZ hj q),if_pos (by omega)]
 ·rw[if_pos h3]
  constructor
  ·intro h;cases h
  ·intro h;exact absurd h.1 h3
def vp(l:List Rp):Nat:=za (Mu l) l.length
theorem N7(gs:List Int)(n:Nat): ∀k,k<n→gs.getD k 0≤gs.getD (za gs n) 0:=by
 induction n with
 |zero=>intro k hk;omega
 |succ n ih=>
  intro k hk
  rw[za]
  rcases Nat.lt_or_ge k n with c|c
  ·have:=ih k c
   split
   ·omega
   ·exact this
  ·have:k=n:=by omega
   subst this
   split
   ·exact Int.le_refl _
   ·omega
theorem YM(l:List Rp)(i:Nat):(Mu l).getD i 0=(yq l i).g:=by
 unfold Mu yq
 rw[List.getD_eq_getElem?_getD,List.getD_eq_getElem?_getD,List.getElem?_map]
 cases l[i]? <;>rfl
theorem ud{l:List Rp}(h:l.length=3):vp l<3:=by
 have:=pN (Mu l) l.length l.length (by omega) (Nat.le_refl _)
 unfold vp;omega
theorem uh{l:List Rp}(h:l.length=3){i:Nat}(hi:i<3):(yq l i).g≤(yq l (vp l)).g:=by
 have:=N7 (Mu l) l.length i (by omega)
 rwa[YM,YM]at this
theorem pG{l:List Rp}{i:Nat}:aL l i=true↔(yq l i).g=(yq l (vp l)).g:=by
 unfold aL
 rw[YM,YM,beq_iff_eq];rfl
theorem WM{a b:Nat→Bool}(ha:2≤xw a 3)(hb:2≤xw b 3): ∃k,k<3∧a k=true∧b k=true:=by
 simp only[xw]at ha hb
 cases a0:a 0<;>cases a1:a 1<;>cases a2:a 2<;>cases b0:b 0<;>cases b1:b 1<;>cases b2:b 2<;>simp[a0,a1,a2,b0,b1,b2]at ha hb<;>
  first|exact⟨0,by decide,a0,b0⟩|exact⟨1,by decide,a1,b1⟩|exact⟨2,by decide,a2,b2⟩
theorem ji{a b:Nat→Bool}(h: ∀i,i<3→a i=true→b i=true):xw a 3≤xw b 3:=by
 have h0:=h 0 (by decide);have h1:=h 1 (by decide);have h2:=h 2 (by decide)
 simp only[xw]
 revert h0 h1 h2
 cases a 0<;>cases a 1<;>cases a 2<;>cases b 0<;>cases b 1<;>cases b 2<;>simp
theorem SV{a:Nat→Bool}(h:2≤xw a 3): ∃i,i<3∧a i=true:=by
 obtain⟨k,hk,h1,_⟩:=WM h h;exact⟨k,hk,h1⟩
theorem pa{l:List Rp}{m:List Ob}{us:List Up}{f:Bool}{up late:Int}{i:Nat}(hi:i<3):yq (eL l m us f up late) i=eI l m us f up late i:=by
 have:i=0∨i=1∨i=2:=by omega
 rcases this with rfl|rfl|rfl<;>rfl
structure cx(l:List Rp)(m:List Ob)(us:List Up)(f:Bool)(up late:Int):Prop where
 len:l.length=3
 err: ∀i,i<3→(yq l i).err=0
 not: ∀i,i<3→cI l m us f up late i=false→eI l m us f up late i=yq l i
 yes: ∀i,i<3→cI l m us f up late i=true→eI l m us f up late i=⟨zH (yq l i).s m,yK (yq l i).l us,(yq l i).g+1,0,[],[],false⟩∧xX (yq l i).s (yq l i).l m us f=0∧(yq l i).g≠999
 top: ∀i,i<3→cI l m us f up late i=true→(yq l i).g=(yq l (vp l)).g
 many:mb l m us f up late=true→2≤xw (cI l m us f up late) 3
 right:zi (eL l m us f up late)=0
 best:mb l m us f up late=true→cI l m us f up late (vp (eL l m us f up late))=true
theorem Ew{l:List Rp}{m:List Ob}{us:List Up}{f:Bool}{up late:Int}(h:pE l m us f up late=0):cx l m us f up late:=by
 obtain⟨Vf,hfv⟩:=Kf h
 obtain⟨hC,hP,-,-⟩:=X1.1 Vf
 obtain⟨hlen,b8,T1,JK⟩:=yr.1 hC
 have QQ: ∀i,i<3→cI l m us f up late i=false→eI l m us f up late i=yq l i:=fun i hi hc=>Pm (b8 i hi) hP hc
 have MS:=fun i (hi:i<3) (hc:cI l m us f up late i=true)=>Bv (b8 i hi) hP hc (hfv i hi)
 have ei:mb l m us f up late=true→2≤xw (cI l m us f up late) 3:=fun hd=>by
  have h1:2≤xw (wI l m us f up late) 3:=by
   have:=hd;unfold mb at this;have:=of_decide_eq_true this;omega
  exact Nat.le_trans h1 (ji fun i _ hw=>by unfold cI;rw[hd,hw];rfl)
 have hT: ∀i,i<3→cI l m us f up late i=true→(yq l i).g=(yq l (vp l)).g:=fun i hi hc=>by
  obtain⟨hd,hw⟩:=WI hc
  obtain⟨k,hk,nL,htk⟩:=WM (ei hd) JK
  obtain⟨_,_,_,e1⟩:=Zq (b8 i hi) hP hw
  obtain⟨_,_,_,e2⟩:=Zq (b8 k hk) hP (WI nL).2
  rw[MI (rV (b8 i hi)) (rV (b8 k hk)) (e1.trans e2.symm)]
  exact pG.1 htk
 have Cg: ∀i,i<3→(eI l m us f up late i).err=0:=fun i hi=>by
  cases hc:cI l m us f up late i with
  |false=>rw[QQ i hi hc];exact b8 i hi
  |true=>
   obtain⟨e,ht,h9⟩:=MS i hi hc
   rw[e]
   have hg:=rV (b8 i hi)
   exact eZ (ru.1 (e9.1 ht).2.2).2.2.2 (by show 0≤(yq l i).g+1∧(yq l i).g+1≤999;omega)
 have Pk: ∀i,i<3→(eI l m us f up late i).g=if cI l m us f up late i=true then(yq l (vp l)).g+1 else(yq l i).g:=fun i hi=>by
  cases hc:cI l m us f up late i with
  |false=>rw[QQ i hi hc];rfl
  |true=>rw[(MS i hi hc).1,if_pos rfl];show(yq l i).g+1=_;rw[hT i hi hc]
 have aY:=ud (l:=eL l m us f up late) rfl
 have GR:mb l m us f up late=true→cI l m us f up late (vp (eL l m us f up late))=true:=fun hd=>by
  obtain⟨k,hk,nL⟩:=SV (ei hd)
  have h1:=uh (l:=eL l m us f up late) rfl hk
  rw[pa hk,pa aY,Pk k hk,if_pos nL,Pk _ aY]at h1
  cases hc:cI l m us f up late (vp (eL l m us f up late))with
  |true=>rfl
  |false=>
   rw[hc,if_neg (by decide)]at h1
   have:=uh hlen aY
   omega
 refine⟨hlen,b8,QQ,MS,hT,ei,?_,GR⟩
 refine yr.2 ⟨rfl,fun i hi=>by rw[pa hi];exact Cg i hi,fun i j nZ hj=>?_,?_⟩
 ·have hi:i<3:=by omega
  rw[pa hi,pa hj]
  rintro⟨q1,q2⟩
  rw[Pk i hi,Pk j hj]at q1
  cases ci:cI l m us f up late i<;>cases cj:cI l m us f up late j
  ·rw[QQ i hi ci,QQ j hj cj]at q2
   rw[ci,cj]at q1
   exact T1 i j nZ hj ⟨q1,q2⟩
  ·rw[ci,cj]at q1
   simp at q1
   have:=uh hlen hi;omega
  ·rw[ci,cj]at q1
   simp at q1
   have:=uh hlen hj;omega
  ·rw[(MS i hi ci).1, (MS j hj cj).1]at q2
   refine T1 i j nZ hj ⟨(hT i hi ci).trans (hT j hj cj).symm,fun e=>q2 ?_⟩
   show yK (yq l i).l us=yK (yq l j).l us
   rw[e]
 ·cases hd:mb l m us f up late with
  |true=>
   have hb:=GR hd
   refine Nat.le_trans (ei hd) (ji fun i hi hc=>pG.2 ?_)
   rw[pa hi,pa aY,Pk i hi,Pk _ aY,if_pos hc,if_pos hb]
  |false=>
   have hc: ∀i,cI l m us f up late i=false:=fun i=>by unfold cI;rw[hd];rfl
   have e: ∀i,i<3→yq (eL l m us f up late) i=yq l i:=fun i hi=>by rw[pa hi];exact QQ i hi (hc i)
   refine Nat.le_trans JK (ji fun i hi ht=>pG.2 ?_)
   rw[e i hi]
   have h1:=uh (l:=eL l m us f up late) rfl hi
   have h2:=uh (l:=eL l m us f up late) rfl (ud hlen)
   have h3:=uh hlen aY
   have h4:=pG.1 ht
   rw[e _ aY]at h1 h2⊢
   rw[e i hi]at h1
   rw[e _ (ud hlen)]at h2
   omega
theorem cx.same{l:List Rp}{m:List Ob}{us:List Up}{f:Bool}{up late:Int}(h:cx l m us f up late)(hd:mb l m us f up late=false):eL l m us f up late=l:=by
 have hc: ∀i,cI l m us f up late i=false:=fun i=>by unfold cI;rw[hd];rfl
 obtain⟨a,b,c,rfl⟩: ∃a b c,l=[a,b,c]:=by
  match l,h.len with
  |[a,b,c],_=>exact⟨a,b,c,rfl⟩
 unfold eL
 rw[h.not 0 (by decide) (hc 0),h.not 1 (by decide) (hc 1),h.not 2 (by decide) (hc 2)]
 rfl
theorem cx.grown{l:List Rp}{m:List Ob}{us:List Up}{f:Bool}{up late:Int}(h:cx l m us f up late):(yq (eL l m us f up late) (vp (eL l m us f up late))).g=(yq l (vp l)).g+if mb l m us f up late=true then 1 else 0:=by
 cases hd:mb l m us f up late with
 |false=>rw[h.same hd];simp
 |true=>
  have aY:=ud (l:=eL l m us f up late) rfl
  rw[pa aY,(h.yes _ aY (h.best hd)).1,if_pos rfl]
  show(yq l _).g+1=_
  rw[h.top _ aY (h.best hd)]
theorem cx.out{l:List Rp}{m:List Ob}{us:List Up}{f:Bool}{up late:Int}(h:cx l m us f up late)(hp:pE l m us f up late=0){i:Nat}(hi:i<3)(hn:aV up i=false∨aV late i=true∨(yq l i).ph≠0):eI l m us f up late i=yq l i:=by
 refine h.not i hi ?_
 cases hc:cI l m us f up late i with
 |false=>rfl
 |true=>
  obtain⟨Vf,_⟩:=Kf hp
  obtain⟨_,hP,-,-⟩:=X1.1 Vf
  obtain⟨h1,_,h3,_⟩:=Zq (h.err i hi) hP (WI hc).2
  obtain⟨h4,h5⟩:=Dd h1
  rcases hn with q|q|q
  ·rw[h4]at q;cases q
  ·rw[h3]at q;cases q
  ·exact absurd h5 q
end
section
def yH(a b:List Ob):List Ob:=a.filter (fun o=>decide (zW b o.id<0))
def vc(b:List Ob):List Ob→Int
 |[]=>0
 |o::r=>if xW b o≠0 then xW b o else vc b r
def tq(a b:List Ob):Int:=if zK a≠0 then zK a else if zK b≠0 then zK b else vc b a
theorem Zv{b:List Ob}: ∀{a:List Ob},vc b a=0↔∀o∈a,xW b o=0
 |[]=>by simp[vc]
 |o::r=>by
  unfold vc
  by_cases h:xW b o=0
  ·rw[if_neg (fun e=>e h),Zv];simp[h]
  ·rw[if_pos h];simp[h]
theorem kW{a b:List Ob}:tq a b=0↔zK a=0∧zK b=0∧vc b a=0:=by
 unfold tq
 by_cases h1:zK a=0
 ·rw[if_neg (fun e=>e h1)]
  by_cases h2:zK b=0
  ·rw[if_neg (fun e=>e h2)];simp[h1,h2]
  ·rw[if_pos h2];simp[h2]
 ·rw[if_pos h1];simp[h1]
theorem sI{b:List Ob}(hr:xm b){o:Ob}:xW b o=0↔∀y∈b,y.id=o.id→y=o:=by
 rcases xG b o.id with c|⟨i,c,hi⟩
 ·have h0:xW b o=0:=by
   unfold xW
   rw[c]
   split
   ·rw[if_pos rfl]
   ·rfl
  refine⟨fun _ y hy e=>?_,fun _=>h0⟩
  have:=yy.2 ⟨y,hy,e⟩
  omega
 ·rw[ra c hi]
  obtain⟨_,hid⟩:=tH c
  constructor
  ·intro h y hy e
   have:b[i]=o:=by
    cases hs:xi b[i].id b[i].kind b[i].links b[i].text o.id o.kind o.links o.text with
    |true=>exact np hs
    |false=>rw[hs]at h;cases h
   rw[←this]
   exact rW hr hy (List.getElem_mem hi) (by rw[e,hid])
  ·intro h
   rw[h b[i] (List.getElem_mem hi) hid,rl];rfl
theorem nA{a b:List Ob}(ha:xm a)(hb:xm b):vc b a=0↔ed (b++a):=by
 rw[Zv]
 constructor
 ·intro h x hx y hy e
  rcases List.mem_append.1 hx with hx|hx<;>rcases List.mem_append.1 hy with hy|hy
  ·exact rW hb hx hy e
  ·exact(sI hb).1 (h y hy) x hx e
  ·exact((sI hb).1 (h x hx) y hy e.symm).symm
  ·exact rW ha hx hy e
 ·intro h o ho
  exact(sI hb).2 fun y hy e=>h y (List.mem_append_left _ hy) o (List.mem_append_right _ ho) e
theorem gd{a b:List Ob}{x:Ob}:x∈yH a b↔x∈a∧zW b x.id<0:=by simp[yH]
theorem uf{a b:List Ob}: ∀x∈yH a b,x∈a:=fun _ h=>(gd.1 h).1
theorem fK{a b:List Ob}(h:xm a):xm (yH a b):=List.Pairwise.filter _ h
theorem th(a b:List Ob):(yH a b).length≤a.length:=List.length_filter_le _ _
theorem Sm{a b:List Ob}(hg:ed (b++a)){x:Ob}(hx:x∈a):x∈b∨x∈yH a b:=by
 by_cases h:zW b x.id<0
 ·exact .inr (gd.2 ⟨hx,h⟩)
 ·obtain⟨y,hy,e⟩:=yy.1 (by omega:0≤zW b x.id)
  exact .inl (by rw[hg x (List.mem_append_right _ hx) y (List.mem_append_left _ hy) e.symm];exact hy)
theorem ed.sub{l m:List Ob}(h:ed l)(hs: ∀x∈m,x∈l):ed m:=fun x hx y hy e=>h x (hs x hx) y (hs y hy) e
theorem VE{U:List Ob}(hr:xm U)(hl:U.length≤40)(h: ∀x∈U,∃A,zK A=0∧x∈A∧∀y∈A,y.id<x.id→y∈U):zK U=0:=by
 refine zh.2 ⟨hl,fun x hx=>?_,hr⟩
 obtain⟨A,hA,hxA,fT⟩:=h x hx
 refine⟨vE hA x hxA,(mU _ 0).2 fun j hj=>?_⟩
 have KI:=(zh.1 hA).2.2
 obtain⟨q1,q2⟩:=(mU _ 0).1 ((zh.1 hA).2.1 x hxA).2 j hj
 obtain⟨z,hz,Dt⟩:=yy.1 q1
 have zN:=(mA hA x hxA _ (List.getElem_mem hj)).2
 have hzU:=fT z hz (by rw[Dt];exact zN)
 refine⟨yy.2 ⟨z,hzU,Dt⟩,?_⟩
 rw[←Dt]at q2⊢
 rw[sH KI hz]at q2
 rw[sH hr hzU]
 exact q2
section
variable {a b:List Ob}
theorem mK(ha:zK a=0)(hb:zK b=0)(hd:vc b a=0){x:Ob}:x∈zH b (yH a b)↔x∈b∨x∈a:=by
 have Hl:=(zh.1 ha).2.2
 have Lh:=(zh.1 hb).2.2
 have hg:=(nA Hl Lh).1 hd
 have ht:zw b (yH a b)=0:=(sp _ Lh).2 (hg.sub fun x hx=>by
  rcases List.mem_append.1 hx with q|q
  ·exact List.mem_append_left _ q
  ·exact List.mem_append_right _ (uf x q))
 rw[qd ht]
 constructor
 ·rintro(q|q)
  ·exact .inl q
  ·exact .inr (uf x q)
 ·rintro(q|q)
  ·exact .inl q
  ·exact Sm hg q
theorem fB(hb:zK b=0)(m:List Ob):xm (zH b m):=b9 _ (zh.1 hb).2.2
theorem fJ(ha:zK a=0)(hb:zK b=0)(hd:vc b a=0)(hl:(zH b (yH a b)).length≤40):zK (zH b (yH a b))=0:=by
 refine VE (fB hb _) hl fun x hx=>?_
 rcases(mK ha hb hd).1 hx with q|q
 ·exact⟨b,hb,q,fun y hy _=>(mK ha hb hd).2 (.inl hy)⟩
 ·exact⟨a,ha,q,fun y hy _=>(mK ha hb hd).2 (.inr hy)⟩
theorem TF(ha:zK a=0)(hb:zK b=0)(hd:vc b a=0):zw b (yH a b)=0∧yL (yH a b)=0:=by
 have Hl:=(zh.1 ha).2.2
 have Lh:=(zh.1 hb).2.2
 refine⟨(sp _ Lh).2 (((nA Hl Lh).1 hd).sub fun x hx=>?_),gF.2 fun x hx=>vE ha x (uf x hx)⟩
 rcases List.mem_append.1 hx with q|q
 ·exact List.mem_append_left _ q
 ·exact List.mem_append_right _ (uf x q)
theorem cH(m m':List Ob): ∀L:List Ob,zH L (m++m')=zH (zH L m) m':=by
 induction m with
 |nil=>intro L;rfl
 |cons x m ih=>intro L;exact ih _
theorem cU(ha:zK a=0)(hb:zK b=0)(hd:vc b a=0)(hl:b.length+(yH a b).length≤40)(n:Nat):zK (zH b ((yH a b).take n))=0:=by
 have Hl:=(zh.1 ha).2.2
 have Lh:=(zh.1 hb).2.2
 have hg:=(nA Hl Lh).1 hd
 have BZ: ∀x∈(yH a b).take n,x∈yH a b:=fun x hx=>List.mem_of_mem_take hx
 have ht:zw b ((yH a b).take n)=0:=(sp _ Lh).2 (hg.sub fun x hx=>by
  rcases List.mem_append.1 hx with q|q
  ·exact List.mem_append_left _ q
  ·exact List.mem_append_right _ (uf x (BZ x q)))
 refine VE (fB hb _) ?_ fun x hx=>?_
 ·have h3:=vi ((yH a b).take n) b
  have h4:((yH a b).take n).length≤(yH a b).length:=by rw[List.length_take];omega
  omega
 rcases(qd ht).1 hx with q|q
 ·exact⟨b,hb,q,fun y hy _=>(qd ht).2 (.inl hy)⟩
 ·refine⟨a,ha,uf x (BZ x q),fun y hy zN=>(qd ht).2 ?_⟩
  rcases Sm hg hy with k|k
  ·exact .inl k
  ·refine .inr ?_
   obtain⟨i,hi,rfl⟩:=List.mem_iff_getElem.1 q
   obtain⟨j,hj,rfl⟩:=List.mem_iff_getElem.1 k
   rw[List.getElem_take]at zN
   rw[List.length_take]at hi
   have Vp:j<i:=(fK (b:=b) Hl).of_lt hj (by omega) zN
   exact List.mem_iff_getElem.2 ⟨j,by rw[List.length_take];omega,by rw[List.getElem_take]⟩
theorem Ta(ha:zK a=0)(hb:zK b=0)(hd:vc b a=0)(hl:b.length+(yH a b).length≤40)(n k:Nat)(hk:k≤12):
  xD (zH b ((yH a b).take n)) (((yH a b).drop n).take k)=0∧zH (zH b ((yH a b).take n)) (((yH a b).drop n).take k)=zH b ((yH a b).take (n+k)):=by
 have e:zH (zH b ((yH a b).take n)) (((yH a b).drop n).take k)=zH b ((yH a b).take (n+k)):=by
  rw[←cH,←List.take_add]
 have Hl:=(zh.1 ha).2.2
 have Lh:=(zh.1 hb).2.2
 have hg:=(nA Hl Lh).1 hd
 refine⟨N9.2 ⟨cU ha hb hd hl n,by rw[List.length_take];omega,fun x hx=>vE ha x (uf x (List.mem_of_mem_drop (List.mem_of_mem_take hx))),?_,by rw[e];exact cU ha hb hd hl (n+k)⟩,e⟩
 refine hg.sub fun x hx=>?_
 rcases List.mem_append.1 hx with q|q
 ·rcases fZ q with q|q
  ·exact List.mem_append_left _ q
  ·exact List.mem_append_right _ (uf x (List.mem_of_mem_take q))
 ·exact List.mem_append_right _ (uf x (List.mem_of_mem_drop (List.mem_of_mem_take q)))
end
theorem PB{l:List Rf}{s t:List Ob}(h:yG l s=0)(ht:zK t=0)(hs: ∀x∈s,x∈t):yG l t=0:=by
 obtain⟨hc,h2,h3,h4⟩:=xc.1 h
 refine xc.2 ⟨ht,h2,(uI _ _).2 ⟨fun r hr=>?_,((uI _ _).1 h3).2⟩,h4⟩
 obtain⟨q1,q2,q3⟩:=((uI _ _).1 h3).1 r hr
 refine⟨q1,?_,q3⟩
 unfold xS at q2⊢
 split at q2
 ·omega
 rename_i c1
 split at q2
 ·omega
 rename_i c2
 obtain⟨z,hz,Dt⟩:=yy.1 (by omega:0≤zW s r.id)
 have hzt:=hs z hz
 rw[if_neg (by have:=yy.2 ⟨z,hzt,Dt⟩;omega),if_neg]
 rw[←Dt]at c2⊢
 rw[sH (zh.1 hc).2.2 hz]at c2
 rw[sH (zh.1 ht).2.2 hzt]
 exact c2
end
def nW(a b:List Ob):Int:=if tq a b≠0 then tq a b else if 40<b.length+(yH a b).length then 2 else 0
def uZ(n r:Rp):Int:=if n.err≠0 then n.err else if r.err≠0 then r.err else if n.g<r.g then 4 else nW n.s r.s
def uW(n r:Rp):Rp:=⟨zH r.s (yH n.s r.s),n.l,n.g,0,[],[],false⟩
theorem ay{a b:List Ob}:nW a b=0↔tq a b=0∧b.length+(yH a b).length≤40:=by
 unfold nW
 by_cases h1:tq a b=0
 ·rw[if_neg (fun e=>e h1)]
  by_cases h2:40<b.length+(yH a b).length
  ·rw[if_pos h2];constructor
   ·intro h;cases h
   ·intro h;omega
  ·rw[if_neg h2];simp[h1];omega
 ·rw[if_pos h1];simp[h1]
theorem kk{n r:Rp}:uZ n r=0↔n.err=0∧r.err=0∧r.g≤n.g∧nW n.s r.s=0:=by
 unfold uZ
 by_cases h1:n.err=0
 ·rw[if_neg (fun e=>e h1)]
  by_cases h2:r.err=0
  ·rw[if_neg (fun e=>e h2)]
   by_cases h3:n.g<r.g
   ·rw[if_pos h3];constructor
    ·intro h;cases h
    ·intro h;omega
   ·rw[if_neg h3];simp[h1,h2];omega
  ·rw[if_pos h2];simp[h2]
 ·rw[if_pos h1];simp[h1]
theorem nw{r:Rp}(h:r.err=0):yG r.l r.s=0:=(tY.1 h).1
theorem sC{r:Rp}(h:r.err=0):zK r.s=0:=(xc.1 (nw h)).1
theorem ZI{a b:List Ob}(h:nW a b=0):zK a=0∧zK b=0∧vc b a=0∧zK (zH b (yH a b))=0:=by
 obtain⟨h1,h2⟩:=ay.1 h
 obtain⟨ha,hb,hd⟩:=kW.1 h1
 refine⟨ha,hb,hd,fJ ha hb hd ?_⟩
 have:=vi (yH a b) b
 omega
theorem Nr{n r:Rp}(h:uZ n r=0){x:Ob}:x∈(uW n r).s↔x∈r.s∨x∈n.s:=by
 obtain⟨ha,hb,hd,_⟩:=ZI (kk.1 h).2.2.2
 exact mK ha hb hd
theorem cL{n r:Rp}(h:uZ n r=0):zK (uW n r).s=0:=(ZI (kk.1 h).2.2.2).2.2.2
theorem U2{n r:Rp}(h:uZ n r=0):(uW n r).err=0:=by
 obtain⟨hn,_,_,_⟩:=kk.1 h
 have h1:yG n.l (uW n r).s=0:=PB (nw hn) (cL h) fun x hx=>(Nr h).2 (.inr hx)
 have h2:=rV hn
 exact eZ (s:=(uW n r).s) (l:=n.l) (g:=n.g) h1 h2
def l3(R:Nat→Rp):List Rp:=[R 0,R 1,R 2]
theorem pe(R:Nat→Rp){i:Nat}(hi:i<3):yq (l3 R) i=R i:=by
 have:i=0∨i=1∨i=2:=by omega
 rcases this with rfl|rfl|rfl<;>rfl
theorem Vx{l:List Rp}(h:l.length=3):l3 (yq l)=l:=by
 match l,h with
 |[a,b,c],_=>rfl
theorem mH{R R':Nat→Rp}(h: ∀i,i<3→R i=R' i):l3 R=l3 R':=by
 unfold l3;rw[h 0 (by decide),h 1 (by decide),h 2 (by decide)]
abbrev top(l:List Rp):Rp:=yq l (vp l)
theorem Nm{l:List Rp}(h:zi l=0){i:Nat}(hi:i<3)(hg:(yq l i).g=(top l).g):(yq l i).l=(top l).l:=by
 obtain⟨hlen,_,T1,_⟩:=yr.1 h
 have hb:=ud hlen
 rcases Nat.lt_trichotomy i (vp l)with c|c|c
 ·exact Classical.byContradiction fun q=>T1 i _ c hb ⟨hg,q⟩
 ·rw[c]
 ·exact Classical.byContradiction fun q=>T1 _ i c hi ⟨hg.symm,fun e=>q e.symm⟩
theorem RF{l:List Rp}(h:zi l=0)(R:Nat→Rp)(he: ∀i,i<3→(R i).err=0)
  (hR: ∀i,i<3→((R i).g=(yq l i).g∧(R i).l=(yq l i).l)∨((R i).g=(top l).g∧(R i).l=(top l).l)):
  zi (l3 R)=0∧(top (l3 R)).g=(top l).g∧(top (l3 R)).l=(top l).l:=by
 obtain⟨hlen,b8,T1,JK⟩:=yr.1 h
 have hb:=ud hlen
 have dw:=ud (l:=l3 R) rfl
 have hle: ∀i,i<3→(R i).g≤(top l).g:=fun i hi=>by
  rcases hR i hi with⟨q,_⟩|⟨q,_⟩
  ·rw[q];exact uh hlen hi
  ·rw[q];exact Int.le_refl _
 have bT: ∀i,i<3→(yq l i).g=(top l).g→(R i).g=(top l).g:=fun i hi e=>by
  rcases hR i hi with⟨q,_⟩|⟨q,_⟩
  ·rw[q,e]
  ·exact q
 have htg:(top (l3 R)).g=(top l).g:=by
  have h1:=uh (l:=l3 R) rfl hb
  rw[pe R hb,pe R dw,bT _ hb rfl]at h1
  have h2:=hle _ dw
  show(yq (l3 R) (vp (l3 R))).g=_
  rw[pe R dw];omega
 have aP: ∀i,i<3→(R i).g=(top l).g→(R i).l=(top l).l:=fun i hi e=>by
  rcases hR i hi with⟨q1,q2⟩|⟨_,q2⟩
  ·rw[q2];exact Nm h hi (q1▸e)
  ·exact q2
 refine⟨yr.2 ⟨rfl,fun i hi=>by rw[pe R hi];exact he i hi,fun i j nZ hj=>?_,?_⟩,htg,?_⟩
 ·have hi:i<3:=by omega
  rw[pe R hi,pe R hj]
  rintro⟨q1,q2⟩
  rcases hR i hi with⟨a1,a2⟩|⟨a1,a2⟩
  ·rcases hR j hj with⟨b1,b2⟩|⟨b1,b2⟩
   ·exact T1 i j nZ hj ⟨by rw[←a1,←b1];exact q1,fun e=>q2 (by rw[a2,b2];exact e)⟩
   ·exact q2 (by rw[aP i hi (by rw[q1,b1]),b2])
  ·exact q2 (by rw[a2,aP j hj (by rw[←q1,a1])])
 ·refine Nat.le_trans JK (ji fun i hi ht=>pG.2 ?_)
  have:=pG.1 ht
  show(yq (l3 R) i).g=(top (l3 R)).g
  rw[pe R hi,htg]
  exact bT i hi this
 ·show(yq (l3 R) (vp (l3 R))).l=_
  rw[pe R dw]
  refine aP _ dw ?_
  have:(yq (l3 R) (vp (l3 R))).g=(top l).g:=htg
  rwa[pe R dw]at this
/-! Repair of all. -/
theorem Ld.low{w:World}{z L B off cap:Nat}{Q:Nat→Rq}{V:Nat→ByteArray}(h:Ld w z L B off cap Q V)(p o:Nat)(v:Value)(hp:p<z):Ld (w.setCell ⟨p,o,none⟩ v) z L B off cap Q V:=by
 have hzl:=h.zl
 have pS:=h.zb
 have H9: ∀k,k≠p→(w.setCell ⟨p,o,none⟩ v).heap[k]? =w.heap[k]?:=fun k hk=>heap_setCell_other w ⟨p,o,none⟩ k v hk
 refine⟨?_,?_,h.zl,h.zb,h.ne,?_,?_,fun i hi=>(h.row i hi).block (H9 B (by omega)),fun i hi=>(h.each i hi).next (P':=fun k=>k=B∨k=L) ⟨yX _ _ _,fun k hk _ _=>H9 k (by omega)⟩ (fun _ _ e=>e)⟩
 ·obtain⟨c,hc⟩:=h.hL;exact⟨c,(H9 L (by omega)).trans hc⟩
 ·obtain⟨c,hc⟩:=h.hB;exact⟨c,(H9 B (by omega)).trans hc⟩
 ·exact(XK w p L o 0 v (by omega)).trans h.head
 ·intro i hi;exact(XK w p L o (1+i) v (by omega)).trans (h.vote i hi)
theorem yo{B ab o:Nat}{w w':World}{v:Value}(hb:Below B w w')(h:ab<B)(e:w.cell? ⟨ab,o,none⟩=some v):w'.cell? ⟨ab,o,none⟩=some v:=(hb.cell (p:=⟨ab,o,none⟩) h).trans e
theorem NS(a:Option Addr)(c:Nat)(l:List Rq)(am:Option Addr)(cm:Nat)(m:List Ob)(au:Option Addr)(cu:Nat)(us:List Up)(f:Bool)(up late:Int)(w:World)(hg:xr w)(ht:bP w)(h:zy w a l)(ZY:l.length≤c)(qt:c≤9223372036854775807)
  (hm:zP w am m) (hml:m.length≤9223372036854775807) (hu:zx w au us) (hul:us.length≤9223372036854775807):
  Calls Tryz.prog 11 #[.agg #[.slice a l.length c],uw am m.length cm au us.length cu f,.int .i64 up,.int .i64 late] w (gm (l.map Rq.r) m us f up late w):=by
 have Uk: ∀(fn:Fn) (first cap:Array Value) (w:World),(Instr.makeFunc fn first cap).run Tryz.prog w= .ok (.func fn first cap) w:=fun _ _ _ _=>rfl
 obtain⟨PO,xY⟩: ∃P:Ending→World→Prop,Hid (P=gm (l.map Rq.r) m us f up late w):=⟨_,rfl⟩
 rw[←xY.out]
 obtain⟨Vj,xa,xy,tv,hB⟩:=Xu w (.cells #[.slice a l.length c] 24) (.cells #[.slice am m.length cm,.slice au us.length cu,.bool f] 28) (.cells #[.int .i64 late] 3) (.cells #[.slice none 0 0] 24)
 have y0:((((w.alloc (.cells #[.slice a l.length c] 24)).alloc (.cells #[.slice am m.length cm,.slice au us.length cu,.bool f] 28)).alloc (.cells #[.int .i64 late] 3)).alloc (.cells #[.slice none 0 0] 24)).cell? ⟨w.heap.size,0,none⟩=some (.slice a l.length c):=by rw[cell_of_row _ _ _ _ _ _ Vj];rfl
 have Vf:=bj a c l am cm m au cu us f up late _ (hg.below hB) (h.below hB) ZY qt (hm.below hB) hml (hu.below hB) hul
 go_enter Tryz.func11,Tryz.ntmps11
 go_wp2_with fail
 generalize (((w.alloc (.cells #[.slice a l.length c] 24)).alloc (.cells #[.slice am m.length cm,.slice au us.length cu,.bool f] 28)).alloc (.cells #[.int .i64 late] 3)).alloc (.cells #[.slice none 0 0] 24)=W0 at *
 obtain⟨E,HE⟩: ∃E,Hid (Wj (l.map Rq.r) m us up late=E):=⟨_,rfl⟩
 rw[HE.out]at Vf
 refine Vf.mono ?_
 clear Vf
 rintro e W1 ⟨rfl,zM⟩
 have zT:=bt hB zM
 have k0:=zA5 zM Vj
 have k1:=zA5 zM xa
 have k2:=zA5 zM xy
 have k3:=zA5 zM tv
 clear Vj xa xy tv zM hB y0
 by_cases he:E=0
 case neg=>
  have HF:Hid (∀w',Below w.heap.size w w'→PO (.returned (.tuple #[.agg #[.slice none 0 0],.bool false,.int .i64 E])) w'):=fun w' hb=>by
   rw[xY.out];exact gm.bad (by unfold pE;rw[HE.out,if_pos he]) he hb
  have GF:(E != 0)=true:=by simpa using he
  have z3:W1.cell? ⟨w.heap.size+3,0,none⟩=some (.slice none 0 0):=by rw[cell_of_row _ _ _ _ _ _ k3];rfl
  have f3:=zF (o:=0) k3
  have s5:=heap_setCell_same W1 (w.heap.size+3) 0 _ 24 (.slice none 0 0) k3
  have y5:(W1.setCell ⟨w.heap.size+3,0,none⟩ (.slice none 0 0)).cell? ⟨w.heap.size+3,0,none⟩=some (.slice none 0 0):=by rw[cell_of_row _ _ _ _ _ _ s5];rfl
  have GA:Hid (Below w.heap.size w (W1.setCell ⟨w.heap.size+3,0,none⟩ (.slice none 0 0))):=zT.setCell (by show w.heap.size≤w.heap.size+3;omega) _
  clear he s5
  go_wp2
  refine bodyPost_ret (v:=.tuple #[.agg #[.slice none 0 0],.bool false,.int .i64 E]) (by simp[results,Tryz.results11,go_sem,y5]) rfl ?_
  exact HF.out _ GA.out
 subst he
 obtain⟨HC,HPU,⟨GP,eM⟩,⟨Dx,TT⟩⟩:=X1.1 HE.out
 have Ro:Hid (pE (l.map Rq.r) m us f up late=FX (l.map Rq.r) m us f up late):=by unfold Hid pE;rw[HE.out];rfl
 have H3:l.length=3:=by
  refine Classical.byContradiction fun hn=>?_
  unfold zi at HC;rw[if_pos (by simpa using hn)]at HC;exact absurd HC (by decide)
 have Gf:Hid (∀q∈l,q.r.err=0):=by
  intro q hq
  have:vu (l.map Rq.r)=0:=by
   refine Classical.byContradiction fun hn=>?_
   unfold zi at HC;rw[if_neg (by simpa using H3),if_pos hn]at HC;exact absurd HC hn
  exact fb.1 this _ (List.mem_map_of_mem hq)
 have z0:W1.cell? ⟨w.heap.size,0,none⟩=some (.slice a l.length c):=by rw[cell_of_row _ _ _ _ _ _ k0];rfl
 have Li:=ZK a c l W1 (h.below zT) (by omega) Gf.out
 have H3h:Hid (l.length=3):=H3
 clear HC HE H3
 go_wp2_with fail
 refine Li.mono ?_
 clear Li
 rintro e W2 ⟨v,qs,rfl,HM,SQ,zZ⟩
 have ac:qs.length=3:=by have:=congrArg List.length HM;simpa[H3h.out]using this
 obtain⟨B,cap,rfl,uO,zBF⟩: ∃B cap,v= .slice (some ⟨B,0,none⟩) 3 cap∧3≤cap∧cap≤9223372036854775807:=by
  rcases SQ.own.2 with⟨_,e⟩|⟨g,cp,cur,e,_,_,h5,h6,_⟩
  ·omega
  ·rw[ac]at e h5;exact⟨g,cp,e,h5,by unfold maxLen at h6;omega⟩
 obtain⟨Q,hQ⟩: ∃Q:Nat→Rq,Q=fun i=>qs.getD i ⟨⟨[],[],0,0,[],[],false⟩,none,0,none,0,none,0,none,0⟩:=⟨_,rfl⟩
 have HMi:Hid (∀i,i<3→(Q i).r=yq (l.map Rq.r) i):=by
  intro i hi
  rw[←HM,hQ]
  exact(Sf (by omega)).symm
 have hD2:=Ld.of_copy SQ ac ⟨⟨[],[],0,0,[],[],false⟩,none,0,none,0,none,0,none,0⟩ zZ.size
 rw[←hQ]at hD2
 clear hQ
 have uM:=zB W2 (.cells #[.slice (some ⟨B,0,none⟩) 3 cap,.string yJ,.string yJ,.string yJ] 89)
 have Wn:=zB (W2.alloc (.cells #[.slice (some ⟨B,0,none⟩) 3 cap,.string yJ,.string yJ,.string yJ] 89)) (.cells #[.pointer (some ⟨W2.heap.size,0,none⟩)] 85)
 have uk:=heap_alloc_new (W2.alloc (.cells #[.slice (some ⟨B,0,none⟩) 3 cap,.string yJ,.string yJ,.string yJ] 89)) (.cells #[.pointer (some ⟨W2.heap.size,0,none⟩)] 85)
 rw[show(W2.alloc (.cells #[.slice (some ⟨B,0,none⟩) 3 cap,.string yJ,.string yJ,.string yJ] 89)).heap.size=W2.heap.size+1 by simp]at uk
 have xR:=bt zZ uM
 have xR:=bt xR Wn
 have Fe:=hD2.below Wn
 have r1:=zA5 xR k1
 have p40:((W2.alloc (.cells #[.slice (some ⟨B,0,none⟩) 3 cap,.string yJ,.string yJ,.string yJ] 89)).alloc (.cells #[.pointer (some ⟨W2.heap.size,0,none⟩)] 85)).cell? ⟨W2.heap.size+1,0,none⟩=some (.pointer (some ⟨W2.heap.size,0,none⟩)):=by rw[cell_of_row _ _ _ _ _ _ uk];rfl
 have q40:((W2.alloc (.cells #[.slice (some ⟨B,0,none⟩) 3 cap,.string yJ,.string yJ,.string yJ] 89)).alloc (.cells #[.pointer (some ⟨W2.heap.size,0,none⟩)] 85)).cell? ⟨w.heap.size+1,0,none⟩=some (.slice am m.length cm):=by rw[cell_of_row _ _ _ _ _ _ r1];rfl
 have q41:((W2.alloc (.cells #[.slice (some ⟨B,0,none⟩) 3 cap,.string yJ,.string yJ,.string yJ] 89)).alloc (.cells #[.pointer (some ⟨W2.heap.size,0,none⟩)] 85)).cell? ⟨w.heap.size+1,1,none⟩=some (.slice au us.length cu):=by rw[cell_of_row _ _ _ _ _ _ r1];rfl
 have q42:((W2.alloc (.cells #[.slice (some ⟨B,0,none⟩) 3 cap,.string yJ,.string yJ,.string yJ] 89)).alloc (.cells #[.pointer (some ⟨W2.heap.size,0,none⟩)] 85)).cell? ⟨w.heap.size+1,2,none⟩=some (.bool f):=by rw[cell_of_row _ _ _ _ _ _ r1];rfl
 have HQ3:Hid (∀i,i<3→(Q i).r.err=0):=by
  intro i hi
  have Vc:i<l.length:=by have:=H3h.out;omega
  rw[HMi.out i hi,Sf (d:=(⟨⟨[],[],0,0,[],[],false⟩,none,0,none,0,none,0,none,0⟩:Rq)) Vc]
  have e:l.getD i ⟨⟨[],[],0,0,[],[],false⟩,none,0,none,0,none,0,none,0⟩=l[i]:=by simp[Vc]
  rw[e];exact Gf.out _ (List.getElem_mem _)
 have hak:=JJ W1 W2.heap.size B 0 cap Q am cm m au cu us f up _ (hg.below zT) (ht.below zT) (hm.below zT) (hu.below zT) HPU GP eM HQ3.out xR Fe
 clear hD2 uM Wn Gf z0 SQ HM HQ3 h ht hm hu r1
 go_wp2_with fail
 generalize (W2.alloc (.cells #[.slice (some ⟨B,0,none⟩) 3 cap,.string yJ,.string yJ,.string yJ] 89)).alloc (.cells #[.pointer (some ⟨W2.heap.size,0,none⟩)] 85)=W4 at *
 refine hak.mono ?_
 clear hak p40 q40 q41 q42
 rintro e W5 ⟨rfl,xu,Bm,Q5,Lp,HR5⟩
 have Qj:Hid (∀i,i<3→(Q5 i).r=n9 m us f up (yq (l.map Rq.r) i) i):=fun i hi=>by rw[HR5 i hi,HMi.out i hi]
 have Lp:Ld W5 W1.heap.size W2.heap.size B 0 cap Q5 (vI (l.map Rq.r) m us f up):=Lp.same (fun i hi=>by unfold vI;rw[←HMi.out i hi])
 have zGC:=Fe.ltB
 have hLB:=Fe.ne
 have hzB:=Fe.zb
 have hzL:=Fe.zl
 have Fd:=(Bm.2 _ (zG uk) (by intro e;have:=Fe.hB;rw[←e,uk]at this;obtain⟨c0,q⟩:=this;simp at q) (by omega)).trans uk
 have l3:=zG k3
 have l2:=zG k2
 have t2:=zA5 xu k2
 have t3:=zA5 xu k3
 have su:=bt zT xu
 have hgt:=hg.below zT
 clear HR5 HMi uk Bm Fe xR zZ hg k0 k1 k2 k3
 have p50:W5.cell? ⟨W2.heap.size+1,0,none⟩=some (.pointer (some ⟨W2.heap.size,0,none⟩)):=by rw[cell_of_row _ _ _ _ _ _ Fd];rfl
 have bW:=Qg (some ⟨W2.heap.size,1,none⟩) 3 (vI (l.map Rq.r) m us f up 0) (vI (l.map Rq.r) m us f up 1) (vI (l.map Rq.r) m us f up 2) W5 (fun i hi=>⟨W2.heap.size,1,rfl,Lp.ltL,fun j hj=>by
  have j8:j=0∨j=1∨j=2:=by simp at hj;omega
  rcases j8 with rfl|rfl|rfl
  ·exact Lp.vote 0 (by omega)
  ·exact Lp.vote 1 (by omega)
  ·exact Lp.vote 2 (by omega)⟩)
 go_wp2_with fail
 refine bW.mono ?_
 clear bW
 rintro e W6 ⟨rfl,qY⟩
 obtain⟨sd,wn,HT⟩: ∃sd wn,Hid (tI (l.map Rq.r) m us f up=(sd,wn)):=⟨_,_,rfl⟩
 rw[show qf (vI (l.map Rq.r) m us f up 0) (vI (l.map Rq.r) m us f up 1) (vI (l.map Rq.r) m us f up 2)=(sd,wn) from HT.out]
 have HWI:Hid (∀i,nx wn (vI (l.map Rq.r) m us f up i) sd late i=wI (l.map Rq.r) m us f up late i):=fun i=>by unfold wI;rw[HT.out]
 clear HT p50
 obtain⟨h70,h71,CN,MP⟩:=xN W6 (.cells #[.string sd] 9) (.cells #[.bool wn] 4) (.cells #[(.func (.func 47) #[] #[.pointer (some ⟨W6.heap.size+1,0,none⟩),.pointer (some ⟨W2.heap.size+1,0,none⟩),.pointer (some ⟨W6.heap.size,0,none⟩),.pointer (some ⟨w.heap.size+2,0,none⟩)])] 94)
 have yw:(((W6.alloc (.cells #[.string sd] 9)).alloc (.cells #[.bool wn] 4)).alloc (.cells #[(.func (.func 47) #[] #[.pointer (some ⟨W6.heap.size+1,0,none⟩),.pointer (some ⟨W2.heap.size+1,0,none⟩),.pointer (some ⟨W6.heap.size,0,none⟩),.pointer (some ⟨w.heap.size+2,0,none⟩)])] 94)).cell? ⟨W6.heap.size+2,0,none⟩=some (.func (.func 47) #[] #[.pointer (some ⟨W6.heap.size+1,0,none⟩),.pointer (some ⟨W2.heap.size+1,0,none⟩),.pointer (some ⟨W6.heap.size,0,none⟩),.pointer (some ⟨w.heap.size+2,0,none⟩)]):=by rw[cell_of_row _ _ _ _ _ _ CN];rfl
 have Sd:=bt qY MP
 have DE:=Lp.below Sd
 have Kg:=zA5 Sd Fd
 have t27:=zA5 Sd t2
 have t37:=zA5 Sd t3
 have zT2:=bt su Sd
 have Fy:Below W1.heap.size W1 (((W6.alloc (.cells #[.string sd] 9)).alloc (.cells #[.bool wn] 4)).alloc (.cells #[(.func (.func 47) #[] #[.pointer (some ⟨W6.heap.size+1,0,none⟩),.pointer (some ⟨W2.heap.size+1,0,none⟩),.pointer (some ⟨W6.heap.size,0,none⟩),.pointer (some ⟨w.heap.size+2,0,none⟩)])] 94)):=bt xu Sd
 have yp:(((W6.alloc (.cells #[.string sd] 9)).alloc (.cells #[.bool wn] 4)).alloc (.cells #[(.func (.func 47) #[] #[.pointer (some ⟨W6.heap.size+1,0,none⟩),.pointer (some ⟨W2.heap.size+1,0,none⟩),.pointer (some ⟨W6.heap.size,0,none⟩),.pointer (some ⟨w.heap.size+2,0,none⟩)])] 94)).cell? ⟨W2.heap.size+1,0,none⟩=some (.pointer (some ⟨W2.heap.size,0,none⟩)):=by rw[cell_of_row _ _ _ _ _ _ Kg];rfl
 have yh:=DE.head
 have nE:B<W6.heap.size:=Nat.lt_of_lt_of_le Lp.ltB qY.size
 have Ms:W2.heap.size+1≠B:=by
  intro e
  obtain⟨cb,q⟩:=Lp.hB
  rw[←e,Fd]at q
  simp at q
 have HWD: ∀(i:Nat) (W:World),i<3→(∀k,k<(((W6.alloc (.cells #[.string sd] 9)).alloc (.cells #[.bool wn] 4)).alloc (.cells #[(.func (.func 47) #[] #[.pointer (some ⟨W6.heap.size+1,0,none⟩),.pointer (some ⟨W2.heap.size+1,0,none⟩),.pointer (some ⟨W6.heap.size,0,none⟩),.pointer (some ⟨w.heap.size+2,0,none⟩)])] 94)).heap.size→k≠B→W.heap[k]? =(((W6.alloc (.cells #[.string sd] 9)).alloc (.cells #[.bool wn] 4)).alloc (.cells #[(.func (.func 47) #[] #[.pointer (some ⟨W6.heap.size+1,0,none⟩),.pointer (some ⟨W2.heap.size+1,0,none⟩),.pointer (some ⟨W6.heap.size,0,none⟩),.pointer (some ⟨w.heap.size+2,0,none⟩)])] 94)).heap[k]?)→(((W6.alloc (.cells #[.string sd] 9)).alloc (.cells #[.bool wn] 4)).alloc (.cells #[(.func (.func 47) #[] #[.pointer (some ⟨W6.heap.size+1,0,none⟩),.pointer (some ⟨W2.heap.size+1,0,none⟩),.pointer (some ⟨W6.heap.size,0,none⟩),.pointer (some ⟨w.heap.size+2,0,none⟩)])] 94)).heap.size≤W.heap.size→Calls Tryz.prog 47 #[.int .i64 i,.pointer (some ⟨W6.heap.size+1,0,none⟩),.pointer (some ⟨W2.heap.size+1,0,none⟩),.pointer (some ⟨W6.heap.size,0,none⟩),.pointer (some ⟨w.heap.size+2,0,none⟩)] W (fun e w'=>e= .returned (.bool (wI (l.map Rq.r) m us f up late i))∧Below W.heap.size W w'):=by
  intro i W hi hk hs
  have hL7:=DE.ltL
  rw[←HWI.out i]
  exact Qr i hi (W6.heap.size+1) (W2.heap.size+1) W6.heap.size (w.heap.size+2) W2.heap.size wn sd (vI (l.map Rq.r) m us f up i) late W Dx TT
   ((hk _ (zG h71) (by omega)).trans h71) ((hk _ (zG Kg) Ms).trans Kg) ((hk _ (zG h70) (by omega)).trans h70) ((hk _ (zG t27) (by omega)).trans t27)
   (by omega) ((World.cell?_of_block (a:=⟨W2.heap.size,1+i,none⟩) (hk _ hL7 hLB)).trans (DE.vote i hi))
 clear h70 h71 Fd t2 t3 su qY MP Sd t27 xu zGC Lp
 have HMO: ∀W,Below (((W6.alloc (.cells #[.string sd] 9)).alloc (.cells #[.bool wn] 4)).alloc (.cells #[(.func (.func 47) #[] #[.pointer (some ⟨W6.heap.size+1,0,none⟩),.pointer (some ⟨W2.heap.size+1,0,none⟩),.pointer (some ⟨W6.heap.size,0,none⟩),.pointer (some ⟨w.heap.size+2,0,none⟩)])] 94)).heap.size (((W6.alloc (.cells #[.string sd] 9)).alloc (.cells #[.bool wn] 4)).alloc (.cells #[(.func (.func 47) #[] #[.pointer (some ⟨W6.heap.size+1,0,none⟩),.pointer (some ⟨W2.heap.size+1,0,none⟩),.pointer (some ⟨W6.heap.size,0,none⟩),.pointer (some ⟨w.heap.size+2,0,none⟩)])] 94)) W→Calls Tryz.prog 49 #[.slice (some ⟨B,0,none⟩) 3 cap,.func (.func 47) #[] #[.pointer (some ⟨W6.heap.size+1,0,none⟩),.pointer (some ⟨W2.heap.size+1,0,none⟩),.pointer (some ⟨W6.heap.size,0,none⟩),.pointer (some ⟨w.heap.size+2,0,none⟩)]] W fun e w'=>e= .returned (.bool (mb (l.map Rq.r) m us f up late))∧Below W.heap.size W w':=fun W hbW=>
  Qh (some ⟨B,0,none⟩) cap 3 (W6.heap.size+1) (W2.heap.size+1) W6.heap.size (w.heap.size+2) (wI (l.map Rq.r) m us f up late) W (by decide) (fun i W' hi hb=>HWD i W' hi (fun k hk _=>(hb.block k (Nat.lt_of_lt_of_le hk hbW.size)).trans (hbW.block k hk)) (Nat.le_trans hbW.size hb.size))
 obtain⟨dn,HDN⟩: ∃dn,Hid (mb (l.map Rq.r) m us f up late=dn):=⟨_,rfl⟩
 rw[HDN.out]at HMO
 go_upto_region 10 with fail
 generalize (((W6.alloc (.cells #[.string sd] 9)).alloc (.cells #[.bool wn] 4)).alloc (.cells #[(.func (.func 47) #[] #[.pointer (some ⟨W6.heap.size+1,0,none⟩),.pointer (some ⟨W2.heap.size+1,0,none⟩),.pointer (some ⟨W6.heap.size,0,none⟩),.pointer (some ⟨w.heap.size+2,0,none⟩)])] 94))=W7 at *
 go_cut [17] from 49 to 67 (fun s17 wx=>∃pd,s17= .pointer (some ⟨pd,0,none⟩)∧wx.heap[pd]? =some (.cells #[.bool dn] 4)∧W7.heap.size≤pd∧Below W7.heap.size W7 wx)
 case first=>
  have xF:=zU W7
  have yw0:=yo xF (zG CN) yw
  have yp0:=yo xF (zG Kg) yp
  have yh0:=yo xF DE.ltL yh
  have tw:W7.drew.cell? ⟨W2.heap.size+1,0,none⟩=some (.pointer (some ⟨W2.heap.size,0,none⟩))∧W7.drew.cell? ⟨W2.heap.size,0,none⟩=some (.slice (some ⟨B,0,none⟩) 3 cap)∧W7.drew.cell? ⟨W6.heap.size+2,0,none⟩=some (.func (.func 47) #[] #[.pointer (some ⟨W6.heap.size+1,0,none⟩),.pointer (some ⟨W2.heap.size+1,0,none⟩),.pointer (some ⟨W6.heap.size,0,none⟩),.pointer (some ⟨w.heap.size+2,0,none⟩)]):=⟨yp0,yh0,yw0⟩
  refine zS (fun W=>W.cell? ⟨W2.heap.size+1,0,none⟩=some (.pointer (some ⟨W2.heap.size,0,none⟩))∧W.cell? ⟨W2.heap.size,0,none⟩=some (.slice (some ⟨B,0,none⟩) 3 cap)∧W.cell? ⟨W6.heap.size+2,0,none⟩=some (.func (.func 47) #[] #[.pointer (some ⟨W6.heap.size+1,0,none⟩),.pointer (some ⟨W2.heap.size+1,0,none⟩),.pointer (some ⟨W6.heap.size,0,none⟩),.pointer (some ⟨w.heap.size+2,0,none⟩)])) (fun _=>false) (by kernel_rfl) tw (fun hS=>?_)
  clear tw yw0 yp0 yh0
  have CM:=zG CN
  have Gg:=zG Kg
  have Dm:=DE.ltL
  generalize W7.drew=V0 at *
  refine zAA 0 ?_ rfl ?_ ?_;rotate_left
  ·intro w zD;obtain⟨s0,s1,s2⟩:=zD;go_simp;rfl
  try simp only[tn]
  refine zAA 1 ?_ rfl ?_ ?_;rotate_left
  ·intro w zD;obtain⟨s0,s1,s2⟩:=zD;go_simp;rfl
  try simp only[tn]
  refine zAA 2 ?_ rfl ?_ ?_;rotate_left
  ·intro w zD;obtain⟨s0,s1,s2⟩:=zD;go_simp;rfl
  try simp only[tn]
  refine zAA 3 ?_ rfl ?_ ?_;rotate_left
  ·intro w zD;obtain⟨s0,s1,s2⟩:=zD;go_simp;rfl
  try simp only[tn]
  refine zAA 4 ?_ rfl ?_ ?_;rotate_left
  ·intro w zD;obtain⟨s0,s1,s2⟩:=zD;go_simp;rfl
  try simp only[tn]
  refine zAA 5 ?_ rfl ?_ ?_;rotate_left
  ·intro w zD;obtain⟨s0,s1,s2⟩:=zD;go_simp;rfl
  try simp only[tn]
  refine wpAnyE.two (i:=6) (j:=7) (by kernel_rfl) rfl rfl (fun K hK=>?_) (fun K hK=>?_)
  ·go_simp
   refine(HMO V0 xF).mono ?_
   rintro e V1 ⟨rfl,hb⟩
   have zM:=bt xF hb
   have ue:V1.cell? ⟨W2.heap.size+1,0,none⟩=some (.pointer (some ⟨W2.heap.size,0,none⟩))∧V1.cell? ⟨W2.heap.size,0,none⟩=some (.slice (some ⟨B,0,none⟩) 3 cap)∧V1.cell? ⟨W6.heap.size+2,0,none⟩=some (.func (.func 47) #[] #[.pointer (some ⟨W6.heap.size+1,0,none⟩),.pointer (some ⟨W2.heap.size+1,0,none⟩),.pointer (some ⟨W6.heap.size,0,none⟩),.pointer (some ⟨w.heap.size+2,0,none⟩)]):=⟨yo zM Gg yp,yo zM Dm yh,yo zM CM yw⟩
   refine hK _ _ (fun _=>ue) ?_
   clear hK K hS hb
   try simp only[tn]
   refine zAC 7 rfl fun K hK=>?_
   go_simp
   have hA:=zB V1 (.cells #[.bool false] 4)
   have zZ:=bt zM hA
   have kd:=heap_alloc_new V1 (.cells #[.bool false] 4)
   have r8:(V1.alloc (.cells #[.bool false] 4)).cell? ⟨W2.heap.size+1,0,none⟩=some (.pointer (some ⟨W2.heap.size,0,none⟩))∧(V1.alloc (.cells #[.bool false] 4)).cell? ⟨W2.heap.size,0,none⟩=some (.slice (some ⟨B,0,none⟩) 3 cap)∧(V1.alloc (.cells #[.bool false] 4)).cell? ⟨W6.heap.size+2,0,none⟩=some (.func (.func 47) #[] #[.pointer (some ⟨W6.heap.size+1,0,none⟩),.pointer (some ⟨W2.heap.size+1,0,none⟩),.pointer (some ⟨W6.heap.size,0,none⟩),.pointer (some ⟨w.heap.size+2,0,none⟩)]):=⟨yo zZ Gg yp,yo zZ Dm yh,yo zZ CM yw⟩
   refine hK _ _ (fun _=>r8) ?_
   clear hK K ue
   try simp only[tn]
   refine zAC 8 rfl fun K hK=>?_
   have uM:=zB V1 (.cells #[.bool dn] 4)
   have kd2:=heap_alloc_new V1 (.cells #[.bool dn] 4)
   have yT:=bt zM uM
   have tV:(V1.alloc (.cells #[.bool dn] 4)).cell? ⟨W2.heap.size+1,0,none⟩=some (.pointer (some ⟨W2.heap.size,0,none⟩))∧(V1.alloc (.cells #[.bool dn] 4)).cell? ⟨W2.heap.size,0,none⟩=some (.slice (some ⟨B,0,none⟩) 3 cap)∧(V1.alloc (.cells #[.bool dn] 4)).cell? ⟨W6.heap.size+2,0,none⟩=some (.func (.func 47) #[] #[.pointer (some ⟨W6.heap.size+1,0,none⟩),.pointer (some ⟨W2.heap.size+1,0,none⟩),.pointer (some ⟨W6.heap.size,0,none⟩),.pointer (some ⟨w.heap.size+2,0,none⟩)]):=⟨yo yT Gg yp,yo yT Dm yh,yo yT CM yw⟩
   go_simp
   refine hK _ _ (fun _=>tV) ?_
   clear hK K r8
   try simp only[tn]
   refine zAE ?_
   go_wp2
   go_meet
   case rel=>exact⟨_,rfl,kd2,zM.size,yT⟩
  ·go_simp
   have hA:=zB V0 (.cells #[.bool false] 4)
   have zM:=bt xF hA
   have kd:=heap_alloc_new V0 (.cells #[.bool false] 4)
   have ue:(V0.alloc (.cells #[.bool false] 4)).cell? ⟨W2.heap.size+1,0,none⟩=some (.pointer (some ⟨W2.heap.size,0,none⟩))∧(V0.alloc (.cells #[.bool false] 4)).cell? ⟨W2.heap.size,0,none⟩=some (.slice (some ⟨B,0,none⟩) 3 cap)∧(V0.alloc (.cells #[.bool false] 4)).cell? ⟨W6.heap.size+2,0,none⟩=some (.func (.func 47) #[] #[.pointer (some ⟨W6.heap.size+1,0,none⟩),.pointer (some ⟨W2.heap.size+1,0,none⟩),.pointer (some ⟨W6.heap.size,0,none⟩),.pointer (some ⟨w.heap.size+2,0,none⟩)]):=⟨yo zM Gg yp,yo zM Dm yh,yo zM CM yw⟩
   refine hK _ _ (fun _=>ue) ?_
   clear hK K hS
   try simp only[tn]
   refine zAC 6 rfl fun K hK=>?_
   go_simp
   refine(HMO _ zM).mono ?_
   rintro e V1 ⟨rfl,hb⟩
   have zZ:=bt zM hb
   have kd1:=zA5 hb kd
   have r8:V1.cell? ⟨W2.heap.size+1,0,none⟩=some (.pointer (some ⟨W2.heap.size,0,none⟩))∧V1.cell? ⟨W2.heap.size,0,none⟩=some (.slice (some ⟨B,0,none⟩) 3 cap)∧V1.cell? ⟨W6.heap.size+2,0,none⟩=some (.func (.func 47) #[] #[.pointer (some ⟨W6.heap.size+1,0,none⟩),.pointer (some ⟨W2.heap.size+1,0,none⟩),.pointer (some ⟨W6.heap.size,0,none⟩),.pointer (some ⟨w.heap.size+2,0,none⟩)]):=⟨yo zZ Gg yp,yo zZ Dm yh,yo zZ CM yw⟩
   refine hK _ _ (fun _=>r8) ?_
   clear hK K ue kd
   try simp only[tn]
   refine zAC 8 rfl fun K hK=>?_
   have zd:V1.cell? ⟨V0.heap.size,0,none⟩=some (.bool false):=by rw[cell_of_row _ _ _ _ _ _ kd1];rfl
   have fd:=zF (o:=0) kd1
   have kd2:=heap_setCell_same V1 V0.heap.size 0 _ 4 (.bool dn) kd1
   have yT:Below W7.heap.size W7 (V1.setCell ⟨V0.heap.size,0,none⟩ (.bool dn)):=zZ.setCell (by show W7.heap.size≤V0.heap.size;exact xF.size) _
   have tV:(V1.setCell ⟨V0.heap.size,0,none⟩ (.bool dn)).cell? ⟨W2.heap.size+1,0,none⟩=some (.pointer (some ⟨W2.heap.size,0,none⟩))∧(V1.setCell ⟨V0.heap.size,0,none⟩ (.bool dn)).cell? ⟨W2.heap.size,0,none⟩=some (.slice (some ⟨B,0,none⟩) 3 cap)∧(V1.setCell ⟨V0.heap.size,0,none⟩ (.bool dn)).cell? ⟨W6.heap.size+2,0,none⟩=some (.func (.func 47) #[] #[.pointer (some ⟨W6.heap.size+1,0,none⟩),.pointer (some ⟨W2.heap.size+1,0,none⟩),.pointer (some ⟨W6.heap.size,0,none⟩),.pointer (some ⟨w.heap.size+2,0,none⟩)]):=⟨yo yT Gg yp,yo yT Dm yh,yo yT CM yw⟩
   go_simp
   refine hK _ _ (fun _=>tV) ?_
   clear hK K r8
   try simp only[tn]
   refine zAE ?_
   go_wp2
   go_meet
   case rel=>exact⟨_,rfl,by simpa using kd2,xF.size,yT⟩
 case rest=>
 obtain⟨pd,rfl,hn9,hpd,sG⟩:=hcut
 have hD9:=DE.below sG
 have kp9:=zA5 sG Kg
 have t39:=zA5 sG t37
 have h9w:=zA5 sG CN
 have zA9:=bt Fy sG
 have yp9:wc.cell? ⟨W2.heap.size+1,0,none⟩=some (.pointer (some ⟨W2.heap.size,0,none⟩)):=by rw[cell_of_row _ _ _ _ _ _ kp9];rfl
 have zQ2:=zG CN
 have A9:pd≠B:=by omega
 have hfi:=WA W1 W2.heap.size B 0 cap Q5 (vI (l.map Rq.r) m us f up) (cI (l.map Rq.r) m us f up late) pd (W6.heap.size+2) wc hgt zA9 hD9 (fun i W hi hk=>by
  have hkb:=hk.2
  have:=Wt i pd (W6.heap.size+2) _ _ _ _ dn (wI (l.map Rq.r) m us f up late i) W ((hkb _ (zG hn9) A9).trans hn9) ((hkb _ (zG h9w) (by omega)).trans h9w)
   (HWD i W hi (fun k hk7 hn=>(hkb k (Nat.lt_of_lt_of_le hk7 sG.size) hn).trans (sG.block k hk7)) (Nat.le_trans sG.size hk.1))
  rw[show(dn&&wI (l.map Rq.r) m us f up late i)=cI (l.map Rq.r) m us f up late i by unfold cI;rw[HDN.out]]at this
  exact this)
 rw[show km (fun i=>qo (Q5 i).r (vI (l.map Rq.r) m us f up i) (cI (l.map Rq.r) m us f up late i))=FX (l.map Rq.r) m us f up late by
  unfold FX km
  simp only[Qj.out 0 (by decide),Qj.out 1 (by decide),Qj.out 2 (by decide)]]at hfi
 obtain⟨E,HE⟩: ∃E,Hid (FX (l.map Rq.r) m us f up late=E):=⟨_,rfl⟩
 rw[HE.out]at hfi
 have A5:=Fy.size
 clear DE Kg t37 CN Fy yw yp yh HWD HMO
 go_wp2_with fail
 refine hfi.mono ?_
 clear hfi
 rintro e M8 ⟨rfl,Ei,Fr,GK⟩
 have Ec:Below w.heap.size w M8:=bt zT Ei
 have NB:=(Ei.block _ l3).trans (((zA9.block _ l3).symm.trans t39) |> fun q=>q)
 by_cases he:E=0
 case neg=>
  have HF:Hid (∀w',Below w.heap.size w w'→PO (.returned (.tuple #[.agg #[.slice none 0 0],.bool false,.int .i64 E])) w'):=fun w' hb=>by
   rw[xY.out];exact gm.bad (by rw[Ro.out];exact HE.out) he hb
  have GF:(E != 0)=true:=by simpa using he
  have z3:M8.cell? ⟨w.heap.size+3,0,none⟩=some (.slice none 0 0):=by rw[cell_of_row _ _ _ _ _ _ NB];rfl
  have f3:=zF (o:=0) NB
  have s5:=heap_setCell_same M8 (w.heap.size+3) 0 _ 24 (.slice none 0 0) NB
  have y5:(M8.setCell ⟨w.heap.size+3,0,none⟩ (.slice none 0 0)).cell? ⟨w.heap.size+3,0,none⟩=some (.slice none 0 0):=by rw[cell_of_row _ _ _ _ _ _ s5];rfl
  have GA:Hid (Below w.heap.size w (M8.setCell ⟨w.heap.size+3,0,none⟩ (.slice none 0 0))):=Ec.setCell (by show w.heap.size≤w.heap.size+3;omega) _
  clear he s5 GK
  go_wp2
  refine bodyPost_ret (v:=.tuple #[.agg #[.slice none 0 0],.bool false,.int .i64 E]) (by simp[results,Tryz.results11,go_sem,y5]) rfl ?_
  exact HF.out _ GA.out
 subst he
 obtain⟨Q',zB1,JX⟩:=GK rfl
 have At:=(Fr.2 _ (zG kp9) Ms).trans kp9
 have AC:=(Fr.2 _ (zG hn9) A9).trans hn9
 go_upto_region 14 with fail
 have xF:=zU M8
 have EG:=zA5 xF At
 have Gh:=zA5 xF AC
 have JZ:=zA5 xF NB
 have Ey:=zB1.below xF
 have zEX:=bt Ec xF
 have tw:M8.drew.cell? ⟨W2.heap.size+1,0,none⟩=some (.pointer (some ⟨W2.heap.size,0,none⟩))∧M8.drew.cell? ⟨pd,0,none⟩=some (.bool dn)∧M8.drew.cell? ⟨W2.heap.size,0,none⟩=some (.slice (some ⟨B,0,none⟩) 3 cap):=⟨by rw[cell_of_row _ _ _ _ _ _ EG];rfl,by rw[cell_of_row _ _ _ _ _ _ Gh];rfl,Ey.head⟩
 refine zS (fun W=>W.cell? ⟨W2.heap.size+1,0,none⟩=some (.pointer (some ⟨W2.heap.size,0,none⟩))∧W.cell? ⟨pd,0,none⟩=some (.bool dn)∧W.cell? ⟨W2.heap.size,0,none⟩=some (.slice (some ⟨B,0,none⟩) 3 cap)) (fun _=>false) (by kernel_rfl) tw (fun hS=>?_)
 clear tw xF At AC NB zB1 Ec Fr Ei
 generalize M8.drew=W11 at *
 refine zAA 0 ?_ rfl ?_ ?_;rotate_left
 ·intro w zD;obtain⟨s0,s1,s2⟩:=zD;go_simp;rfl
 try simp only[tn]
 refine zAA 1 ?_ rfl ?_ ?_;rotate_left
 ·intro w zD;obtain⟨s0,s1,s2⟩:=zD;go_simp;rfl
 try simp only[tn]
 refine zAA 2 ?_ rfl ?_ ?_;rotate_left
 ·intro w zD;obtain⟨s0,s1,s2⟩:=zD;go_simp;rfl
 try simp only[tn]
 refine zAA 3 ?_ rfl ?_ ?_;rotate_left
 ·intro w zD;obtain⟨s0,s1,s2⟩:=zD;go_simp;rfl
 try simp only[tn]
 refine zAA 4 ?_ rfl ?_ ?_;rotate_left
 ·intro w zD;obtain⟨s0,s1,s2⟩:=zD;go_simp;rfl
 try simp only[tn]
 refine zAC 5 rfl fun K hK=>?_
 have z3:W11.cell? ⟨w.heap.size+3,0,none⟩=some (.slice none 0 0):=by rw[cell_of_row _ _ _ _ _ _ JZ];rfl
 have f3:=zF (o:=0) JZ
 have s5:=heap_setCell_same W11 (w.heap.size+3) 0 _ 24 (.slice (some ⟨B,0,none⟩) 3 cap) JZ
 have Rh:=Ey.low (w.heap.size+3) 0 (.slice (some ⟨B,0,none⟩) 3 cap) l3
 have y5:(W11.setCell ⟨w.heap.size+3,0,none⟩ (.slice (some ⟨B,0,none⟩) 3 cap)).cell? ⟨w.heap.size+3,0,none⟩=some (.slice (some ⟨B,0,none⟩) 3 cap):=by rw[cell_of_row _ _ _ _ _ _ s5];rfl
 have H9: ∀k,k≠w.heap.size+3→(W11.setCell ⟨w.heap.size+3,0,none⟩ (.slice (some ⟨B,0,none⟩) 3 cap)).heap[k]? =W11.heap[k]?:=fun k hk=>heap_setCell_other W11 ⟨w.heap.size+3,0,none⟩ k (.slice (some ⟨B,0,none⟩) 3 cap) hk
 have zFN:pd≠w.heap.size+3:=by
  have:=A5;omega
 have Y8:(W11.setCell ⟨w.heap.size+3,0,none⟩ (.slice (some ⟨B,0,none⟩) 3 cap)).cell? ⟨W2.heap.size+1,0,none⟩=some (.pointer (some ⟨W2.heap.size,0,none⟩))∧(W11.setCell ⟨w.heap.size+3,0,none⟩ (.slice (some ⟨B,0,none⟩) 3 cap)).cell? ⟨pd,0,none⟩=some (.bool dn)∧(W11.setCell ⟨w.heap.size+3,0,none⟩ (.slice (some ⟨B,0,none⟩) 3 cap)).cell? ⟨W2.heap.size,0,none⟩=some (.slice (some ⟨B,0,none⟩) 3 cap):=⟨by rw[cell_of_row _ _ _ _ _ _ ((H9 _ (by omega)).trans EG)];rfl,by rw[cell_of_row _ _ _ _ _ _ ((H9 _ zFN).trans Gh)];rfl,Rh.head⟩
 have HLL:Hid (PO (.returned (.tuple #[.agg #[(.slice (some ⟨B,0,none⟩) 3 cap)],.bool dn,.int .i64 0])) (W11.setCell ⟨w.heap.size+3,0,none⟩ (.slice (some ⟨B,0,none⟩) 3 cap))):=by
  rw[xY.out]
  have zHO:=zT.size
  refine⟨zEX.setCell (by show w.heap.size≤w.heap.size+3;omega) _,.inr ⟨by rw[Ro.out];exact HE.out,B,cap,[Q' 0,Q' 1,Q' 2],by rw[HDN.out],?_,Rh.dep.widen zHO,uO,zBF⟩⟩
  unfold eL eI
  simp only[List.map_cons,List.map_nil]
  rw[JX 0 (by decide),JX 1 (by decide),JX 2 (by decide),Qj.out 0 (by decide),Qj.out 1 (by decide),Qj.out 2 (by decide)]
 go_simp
 refine hK _ _ (fun _=>Y8) ?_
 clear hK K hS
 try simp only[tn]
 refine zAC 6 rfl fun K hK=>?_
 go_simp
 refine hK _ _ (fun _=>Y8) ?_
 clear hK K
 try simp only[tn]
 refine zAC 7 rfl fun K hK=>?_
 go_simp
 refine hK _ _ (fun _=>Y8) ?_
 clear hK K
 try simp only[tn]
 refine zAE ?_
 clear JX Rh Ey s5 H9 EG Gh JZ
 generalize W11.setCell ⟨w.heap.size+3,0,none⟩ (.slice (some ⟨B,0,none⟩) 3 cap)=W12 at *
 go_wp2
 refine bodyPost_ret (v:=.tuple #[.agg #[(.slice (some ⟨B,0,none⟩) 3 cap)],.bool dn,.int .i64 0]) (by simp[results,Tryz.results11,go_sem,y5]) rfl ?_
 exact HLL.out
theorem zy.at{w:World}{b off:Nat}{l:List Rq}(h:zy w (some ⟨b,off,none⟩) l){k:Nat}(hk:k<l.length):bY w b (off+k*7) l[k]∧l[k].H w:=by
 obtain⟨b',kQ,e,_,hc⟩:=h k hk
 cases e;exact hc k hk
theorem zy.some{w:World}{a:Option Addr}{l:List Rq}(h:zy w a l)(hl:0<l.length): ∃b off,a=some ⟨b,off,none⟩:=by
 obtain⟨b,off,e,_⟩:=h 0 hl
 exact⟨b,off,e⟩
theorem gQ(n:Int)(i:Nat)(w:World)(h0:0≤n)(h1:n<8)(hi:i<3):Calls Tryz.prog 17 #[.int .i64 n,.int .i64 i] w fun e w'=>e= .returned (.bool (aV n i))∧Below w.heap.size w w':=by
 have hn:n=0∨n=1∨n=2∨n=3∨n=4∨n=5∨n=6∨n=7:=by omega
 have hj:i=0∨i=1∨i=2:=by omega
 have hA:=zB w (.cells #[.int .i64 1,.int .i64 2,.int .i64 4] 3)
 have kA:=heap_alloc_new w (.cells #[.int .i64 1,.int .i64 2,.int .i64 4] 3)
 obtain⟨y0,y1,y2⟩:=zQ kA
 rcases hn with rfl|rfl|rfl|rfl|rfl|rfl|rfl|rfl<;>rcases hj with rfl|rfl|rfl
 all_goals
  go_enter Tryz.func17,Tryz.ntmps17
  go_wp2
  go_ret
  exact⟨rfl,hA⟩
def q0:Rq:=⟨⟨[],[],0,0,[],[],false⟩,none,0,none,0,none,0,none,0⟩
def ez:List Ob:=[o1,o2,o3]
def gR:List Up:=[⟨{data:=#[109,97,105,110]},0,3⟩]
theorem mk3(w:World):(Instr.makeSlice 22 (.int .i64 3) (.int .i64 3)).run Tryz.prog w= .ok (.slice (some ⟨w.heap.size,0,none⟩) 3 3) (w.alloc (.cells #[.slice none 0 0,.slice none 0 0,.int .i64 0,.int .i64 0,.slice none 0 0,.slice none 0 0,.bool false,.slice none 0 0,.slice none 0 0,.int .i64 0,.int .i64 0,.slice none 0 0,.slice none 0 0,.bool false,.slice none 0 0,.slice none 0 0,.int .i64 0,.int .i64 0,.slice none 0 0,.slice none 0 0,.bool false] 36)):=by kernel_rfl
theorem BS(w:World):q0.H w:=⟨fun i hi=>absurd hi (Nat.not_lt_zero i),fun i hi=>absurd hi (Nat.not_lt_zero i),fun i hi=>absurd hi (Nat.not_lt_zero i),fun i hi=>absurd hi (Nat.not_lt_zero i),by decide,by decide,by decide,by decide⟩
theorem WF{w:World}{b:Nat}(k:w.heap[b]? =some (.cells #[.slice none 0 0,.slice none 0 0,.int .i64 0,.int .i64 0,.slice none 0 0,.slice none 0 0,.bool false,.slice none 0 0,.slice none 0 0,.int .i64 0,.int .i64 0,.slice none 0 0,.slice none 0 0,.bool false,.slice none 0 0,.slice none 0 0,.int .i64 0,.int .i64 0,.slice none 0 0,.slice none 0 0,.bool false] 36)):zy w (some ⟨b,0,none⟩) [q0,q0,q0]:=by
 have hc: ∀o,w.cell? ⟨b,o,none⟩=(#[.slice none 0 0,.slice none 0 0,.int .i64 0,.int .i64 0,.slice none 0 0,.slice none 0 0,.bool false,.slice none 0 0,.slice none 0 0,.int .i64 0,.int .i64 0,.slice none 0 0,.slice none 0 0,.bool false,.slice none 0 0,.slice none 0 0,.int .i64 0,.int .i64 0,.slice none 0 0,.slice none 0 0,.bool false]:Array Value)[o]?:=fun o=>cell_of_row _ _ _ _ _ _ k
 intro i hi
 refine⟨b,0,rfl,zG k,fun j hj=>?_⟩
 have j8:j=0∨j=1∨j=2:=by simp at hj;omega
 rcases j8 with rfl|rfl|rfl
 all_goals exact⟨⟨by rw[hc];rfl,by rw[hc];rfl,by rw[hc];rfl,by rw[hc];rfl,by rw[hc];rfl,by rw[hc];rfl,by rw[hc];rfl⟩,BS _⟩
theorem KX(w:World):Calls Tryz.prog 40 #[] w fun e w'=>∃b,e= .returned (.agg #[.slice (some ⟨b,0,none⟩) 3 3])∧zy w' (some ⟨b,0,none⟩) [q0,q0,q0]∧Below w.heap.size w w':=by
 have hm:=mk3 (w.alloc (.cells #[.slice none 0 0] 24))
 rw[show(w.alloc (.cells #[.slice none 0 0] 24)).heap.size=w.heap.size+1 by simp]at hm
 have hA:=zV w (.cells #[.slice (some ⟨w.heap.size+1,0,none⟩) 3 3] 24) (.cells #[.slice none 0 0,.slice none 0 0,.int .i64 0,.int .i64 0,.slice none 0 0,.slice none 0 0,.bool false,.slice none 0 0,.slice none 0 0,.int .i64 0,.int .i64 0,.slice none 0 0,.slice none 0 0,.bool false,.slice none 0 0,.slice none 0 0,.int .i64 0,.int .i64 0,.slice none 0 0,.slice none 0 0,.bool false] 36)
 obtain⟨k0,k1⟩:=ye w (.cells #[.slice (some ⟨w.heap.size+1,0,none⟩) 3 3] 24) (.cells #[.slice none 0 0,.slice none 0 0,.int .i64 0,.int .i64 0,.slice none 0 0,.slice none 0 0,.bool false,.slice none 0 0,.slice none 0 0,.int .i64 0,.int .i64 0,.slice none 0 0,.slice none 0 0,.bool false,.slice none 0 0,.slice none 0 0,.int .i64 0,.int .i64 0,.slice none 0 0,.slice none 0 0,.bool false] 36)
 have hq:=WF k1
 have y1:=zJ k0
 clear k0 k1
 go_enter Tryz.func40,Tryz.ntmps40
 go_wp2
 refine bodyPost_ret (v:=.agg #[.slice (some ⟨w.heap.size+1,0,none⟩) 3 3]) (by simp[results,Tryz.results40,go_sem]) rfl ?_
 exact⟨_,rfl,hq,hA⟩
theorem zFG{W:World}{R t:Nat}(h:W.heap[R]? =some (.cells #[.slice none 0 0,.slice none 0 0,.bool false] t)):NoS W R:=by
 intro off x e
 rw[cell_of_row W R _ _ _ _ h]at e
 match off,e with
 |0,e=>cases e
 |1,e=>cases e
 |2,e=>cases e
 |n+3,e=>simp at e
theorem zAG{W:World}{R t:Nat}(h:W.heap[R]? =some (.cells #[.slice none 0 0,.slice none 0 0,.bool false] t)):Ft W R:=by
 intro off x e
 rw[cell_of_row W R _ _ _ _ h]at e
 match off,e with
 |0,e=>cases e
 |1,e=>cases e
 |2,e=>cases e
 |n+3,e=>simp at e
theorem Re(w:World):Calls Tryz.prog 52 #[] w fun e w'=>∃g u,e= .returned (uw (some ⟨g,0,none⟩) 3 5 (some ⟨u,0,none⟩) 1 1 false)∧zP w' (some ⟨g,0,none⟩) ez∧zx w' (some ⟨u,0,none⟩) gR∧Below w.heap.size w w':=by
 have hA:=zB w (.cells #[.slice none 0 0,.slice none 0 0,.bool false] 28)
 have k0:=heap_alloc_new w (.cells #[.slice none 0 0,.slice none 0 0,.bool false] 28)
 go_enter Tryz.func52,Tryz.ntmps52
 go_wp2_with fail
 generalize w.alloc (.cells #[.slice none 0 0,.slice none 0 0,.bool false] 28)=W0 at *
 refine(WB _).mono ?_
 rintro e w1 ⟨g,rfl,hb,hS⟩
 have zT:=bt hA hb
 have k1:=zA5 hb k0
 have tu:=zB w1 (.cells #[.string {data:=#[109,97,105,110]},.int .i64 0,.int .i64 3] 40)
 have ku:=heap_alloc_new w1 (.cells #[.string {data:=#[109,97,105,110]},.int .i64 0,.int .i64 3] 40)
 have zj:=bt zT tu
 have r8:=di (hS.below tu) 3
 have k2:=zA5 tu k1
 have zN:w.heap.size<w1.heap.size:=zG k1
 clear hA k0 hb zT hS
 obtain⟨c0,c1,c2⟩:=zQ k2
 have f0:=zF (o:=0) k2
 have f1:=zF (o:=1) k2
 have f2:=zF (o:=2) k2
 obtain⟨t1,t2,t3⟩:=dp _ w.heap.size (.slice (some ⟨g,0,none⟩) 3 5) (.slice (some ⟨w1.heap.size,0,none⟩) 1 1) (.bool false) k2
 have xL:=zj.trans t2
 obtain⟨d0,d1,d2⟩:=zQ t1
 have HU:Hid (zx ((((w1.alloc (.cells #[.string {data:=#[109,97,105,110]},.int .i64 0,.int .i64 3] 40)).setCell ⟨w.heap.size,0,none⟩ (.slice (some ⟨g,0,none⟩) 3 5)).setCell ⟨w.heap.size,1,none⟩ (.slice (some ⟨w1.heap.size,0,none⟩) 1 1)).setCell ⟨w.heap.size,2,none⟩ (.bool false)) (some ⟨w1.heap.size,0,none⟩) gR):=by
  intro i hi
  have e:=(t3 w1.heap.size (by omega)).trans ku
  refine⟨_,_,rfl,zG e,fun j hj=>?_⟩
  have Vn:j=0:=by simp[gR]at hj;omega
  subst Vn
  exact zQ e
 have HS:Hid (zP ((((w1.alloc (.cells #[.string {data:=#[109,97,105,110]},.int .i64 0,.int .i64 3] 40)).setCell ⟨w.heap.size,0,none⟩ (.slice (some ⟨g,0,none⟩) 3 5)).setCell ⟨w.heap.size,1,none⟩ (.slice (some ⟨w1.heap.size,0,none⟩) 1 1)).setCell ⟨w.heap.size,2,none⟩ (.bool false)) (some ⟨g,0,none⟩) ez):=zP.no r8 (zFG k2) (zAG k2) (QY (by decide)) (by simp) t3
 clear ku r8 k2 t1 t2 t3 zj k1 zN tu
 go_wp2
 refine bodyPost_ret (v:=uw (some ⟨g,0,none⟩) 3 5 (some ⟨w1.heap.size,0,none⟩) 1 1 false) (by simp[results,Tryz.results52,go_sem,d0,d1,d2]) rfl ?_
 exact⟨_,_,rfl,HS.out,HU.out,xL⟩
def GG:Rp:=⟨[],[],0,0,[],[],false⟩
theorem UZ(x y:Rq)(w:World)(hx:x.H w)(hy:y.H w):Calls Tryz.prog 14 #[x.val,y.val] w fun e w'=>∃r,e= .returned (.bool r)∧(r=true↔x.r=y.r)∧Below w.heap.size w w':=
 VU x.aS x.cs x.r.s x.al x.cl x.r.l x.r.g x.r.ph x.a1 x.c1 x.r.m x.a2 x.c2 x.r.us x.r.f y.aS y.cs y.r.s y.al y.cl y.r.l y.r.g y.r.ph y.a1 y.c1 y.r.m y.a2 y.c2 y.r.us y.r.f w hx hy
theorem eU{l:List Rq}{k:Nat}(hk:k<l.length):(l.map Rq.r).getD k GG=l[k].r:=by simp[hk]
theorem nN(a:Option Addr)(c:Nat)(l:List Rq)(a2:Option Addr)(c2:Nat)(l2:List Rq)(w:World)(h:zy w a l)(h2:zy w a2 l2)(hl:l.length≤9223372036854775807):
  Calls Tryz.prog 18 #[.agg #[.slice a l.length c],.agg #[.slice a2 l2.length c2]] w fun e w'=>∃r,e= .returned (.bool r)∧(r=true↔l.map Rq.r=l2.map Rq.r)∧Below w.heap.size w w':=by
 have hA:=zV w (.cells #[.slice a l.length c] 24) (.cells #[.slice a2 l2.length c2] 24)
 obtain⟨k1,k2⟩:=ye w (.cells #[.slice a l.length c] 24) (.cells #[.slice a2 l2.length c2] 24)
 have q1:=h.below hA
 have q2:=h2.below hA
 have y1:=zJ k1
 have y2:=zJ k2
 by_cases hn:l.length=l2.length
 case neg=>
  have hd:((l.length:Int) != (l2.length:Int))=true:=by simp;omega
  have HN:Hid (¬l.map Rq.r=l2.map Rq.r):=fun e=>hn (by have:=congrArg List.length e;simpa using this)
  clear hn
  go_enter Tryz.func18,Tryz.ntmps18
  go_wp2
  go_ret
  exact⟨false,rfl,⟨fun e=>(by cases e),fun e=>absurd e HN.out⟩,hA⟩
 have hd:((l.length:Int) != (l2.length:Int))=false:=by simp[hn]
 have fW:Hid (l.length=l2.length):=hn
 clear hn
 go_enter Tryz.func18,Tryz.ntmps18
 go_wp2_with fail
 generalize (w.alloc (.cells #[.slice a l.length c] 24)).alloc (.cells #[.slice a2 l2.length c2] 24)=W0 at *
 go_loopw [5] (fun i wr=>∃k:Nat,i= .int .i64 k∧k≤l.length∧Below W0.heap.size W0 wr∧Hid (∀j,j<k→(l.map Rq.r).getD j GG=(l2.map Rq.r).getD j GG)) (fun i _=>l.length-(intOf i).toNat)
 case atStart=>exact⟨0,rfl,Nat.zero_le _,Below.refl _ _,fun j hj=>absurd hj (Nat.not_lt_zero _)⟩
 case round=>
  obtain⟨k,rfl,hk,hB,HI⟩:=hrel
  have k1r:=zA5 hB k1
  have k2r:=zA5 hB k2
  have z1:=zJ k1r
  have z2:=zJ k2r
  by_cases zN:k<l.length
  ·have sZ:k<l2.length:=by have:=fW.out;omega
   obtain⟨b,off,rfl⟩:=h.some (by omega)
   obtain⟨b2,vK,rfl⟩:=h2.some (by omega)
   have vg:(k:Int)<(l.length:Int):=by omega
   have A3:(k:Int)<(l2.length:Int):=by omega
   clear z1 z2
   have z1:=zJ k1r
   have z2:=zJ k2r
   go_upto_region 6 with fail
   clear z1 z2
   have zk:=zU wr
   have zX:=bt hB zk
   have gH:=zA5 zk k1r
   have gS:=zA5 zk k2r
   have DY:=zk.size
   clear k1r k2r zk hB
   refine zS (fun W=>(W.heap[w.heap.size]? =some (.cells #[.slice (some ⟨b,off,none⟩) l.length c] 24))∧(W.heap[w.heap.size+1]? =some (.cells #[.slice (some ⟨b2,vK,none⟩) l2.length c2] 24))∧(zy W (some ⟨b,off,none⟩) l)∧(zy W (some ⟨b2,vK,none⟩) l2)) (fun _=>false) (by kernel_rfl) ⟨gH,gS,(q1.below zX),(q2.below zX)⟩ (fun hS=>?_)
   clear hS
   generalize wr.drew=qe at *
   refine zAB 0 ?_ rfl ?_ ⟨gH,gS,(q1.below zX),(q2.below zX)⟩ ?_;rotate_left
   ·intro w zD;obtain⟨s1,s2,s3,s4⟩:=zD;have e1:=zJ s1;have e2:=zJ s2;obtain⟨x0,x1,x2,x3,x4,x5,x6⟩:=(s3.at zN).1;obtain⟨v0,v1,v2,v3,v4,v5,v6⟩:=(s4.at sZ).1;clear s1 s2 s3 s4;go_simp;rfl
   try simp only[tn]
   refine zAB 2 ?_ rfl ?_ ⟨gH,gS,(q1.below zX),(q2.below zX)⟩ ?_;rotate_left
   ·intro w zD;obtain⟨s1,s2,s3,s4⟩:=zD;have e1:=zJ s1;have e2:=zJ s2;obtain⟨x0,x1,x2,x3,x4,x5,x6⟩:=(s3.at zN).1;obtain⟨v0,v1,v2,v3,v4,v5,v6⟩:=(s4.at sZ).1;clear s1 s2 s3 s4;go_simp;rfl
   try simp only[tn]
   refine zAB 5 ?_ rfl ?_ ⟨gH,gS,(q1.below zX),(q2.below zX)⟩ ?_;rotate_left
   ·intro w zD;obtain⟨s1,s2,s3,s4⟩:=zD;have e1:=zJ s1;have e2:=zJ s2;obtain⟨x0,x1,x2,x3,x4,x5,x6⟩:=(s3.at zN).1;obtain⟨v0,v1,v2,v3,v4,v5,v6⟩:=(s4.at sZ).1;clear s1 s2 s3 s4;go_simp;rfl
   try simp only[tn]
   refine zAB 7 ?_ rfl ?_ ⟨gH,gS,(q1.below zX),(q2.below zX)⟩ ?_;rotate_left
   ·intro w zD;obtain⟨s1,s2,s3,s4⟩:=zD;have e1:=zJ s1;have e2:=zJ s2;obtain⟨x0,x1,x2,x3,x4,x5,x6⟩:=(s3.at zN).1;obtain⟨v0,v1,v2,v3,v4,v5,v6⟩:=(s4.at sZ).1;clear s1 s2 s3 s4;go_simp;rfl
   try simp only[tn]
   refine zAB 1 ?_ rfl ?_ ⟨gH,gS,(q1.below zX),(q2.below zX)⟩ ?_;rotate_left
   ·intro w zD;obtain⟨s1,s2,s3,s4⟩:=zD;have e1:=zJ s1;have e2:=zJ s2;obtain⟨x0,x1,x2,x3,x4,x5,x6⟩:=(s3.at zN).1;obtain⟨v0,v1,v2,v3,v4,v5,v6⟩:=(s4.at sZ).1;clear s1 s2 s3 s4;go_simp;rfl
   try simp only[tn]
   refine zAB 6 ?_ rfl ?_ ⟨gH,gS,(q1.below zX),(q2.below zX)⟩ ?_;rotate_left
   ·intro w zD;obtain⟨s1,s2,s3,s4⟩:=zD;have e1:=zJ s1;have e2:=zJ s2;obtain⟨x0,x1,x2,x3,x4,x5,x6⟩:=(s3.at zN).1;obtain⟨v0,v1,v2,v3,v4,v5,v6⟩:=(s4.at sZ).1;clear s1 s2 s3 s4;go_simp;rfl
   try simp only[tn]
   refine zAB 3 ?_ rfl ?_ ⟨gH,gS,(q1.below zX),(q2.below zX)⟩ ?_;rotate_left
   ·intro w zD;obtain⟨s1,s2,s3,s4⟩:=zD;have e1:=zJ s1;have e2:=zJ s2;obtain⟨x0,x1,x2,x3,x4,x5,x6⟩:=(s3.at zN).1;obtain⟨v0,v1,v2,v3,v4,v5,v6⟩:=(s4.at sZ).1;clear s1 s2 s3 s4;go_simp;rfl
   try simp only[tn]
   refine zAB 8 ?_ rfl ?_ ⟨gH,gS,(q1.below zX),(q2.below zX)⟩ ?_;rotate_left
   ·intro w zD;obtain⟨s1,s2,s3,s4⟩:=zD;have e1:=zJ s1;have e2:=zJ s2;obtain⟨x0,x1,x2,x3,x4,x5,x6⟩:=(s3.at zN).1;obtain⟨v0,v1,v2,v3,v4,v5,v6⟩:=(s4.at sZ).1;clear s1 s2 s3 s4;go_simp;rfl
   try simp only[tn]
   refine zAB 4 ?_ rfl ?_ ⟨gH,gS,(q1.below zX),(q2.below zX)⟩ ?_;rotate_left
   ·intro w zD;obtain⟨s1,s2,s3,s4⟩:=zD;have e1:=zJ s1;have e2:=zJ s2;obtain⟨x0,x1,x2,x3,x4,x5,x6⟩:=(s3.at zN).1;obtain⟨v0,v1,v2,v3,v4,v5,v6⟩:=(s4.at sZ).1;clear s1 s2 s3 s4;go_simp;rfl
   try simp only[tn]
   refine zAB 9 ?_ rfl ?_ ⟨gH,gS,(q1.below zX),(q2.below zX)⟩ ?_;rotate_left
   ·intro w zD;obtain⟨s1,s2,s3,s4⟩:=zD;have e1:=zJ s1;have e2:=zJ s2;obtain⟨x0,x1,x2,x3,x4,x5,x6⟩:=(s3.at zN).1;obtain⟨v0,v1,v2,v3,v4,v5,v6⟩:=(s4.at sZ).1;clear s1 s2 s3 s4;go_simp;rfl
   try simp only[tn]
   refine zAC 10 rfl fun K hK=>?_
   have Mo:=UZ l[k] l2[k] qe ((q1.below zX).at zN).2 ((q2.below zX).at sZ).2
   go_simp
   refine Mo.mono ?_
   clear Mo
   rintro e gv ⟨r,rfl,hr,h⟩
   have qQ:=bt zX h
   have Gd:=zA5 h gH
   have Hg:=zA5 h gS
   have Hr:=h.size
   clear gH gS h zX
   refine hK _ _ (fun _=>⟨Gd,Hg,(q1.below qQ),(q2.below qQ)⟩) ?_
   clear hK K
   try simp only[tn]
   refine zAB 11 ?_ rfl ?_ ⟨Gd,Hg,(q1.below qQ),(q2.below qQ)⟩ ?_;rotate_left
   ·intro w zD;obtain⟨s1,s2,s3,s4⟩:=zD;have e1:=zJ s1;have e2:=zJ s2;obtain⟨x0,x1,x2,x3,x4,x5,x6⟩:=(s3.at zN).1;obtain⟨v0,v1,v2,v3,v4,v5,v6⟩:=(s4.at sZ).1;clear s1 s2 s3 s4;go_simp;rfl
   try simp only[tn]
   refine zAE ?_
   have HB:=qQ
   cases r with
   |false=>
    have HN:Hid (¬l.map Rq.r=l2.map Rq.r):=fun e=>by
     have:=hr.2 (by rw[←eU zN,←eU sZ,e])
     cases this
    clear hr
    go_wp2
    go_ret
    exact⟨false,rfl,⟨fun e=>(by cases e),fun e=>absurd e HN.out⟩,(bt hA HB)⟩
   |true=>
    have HI2:Hid (∀j,j<k+1→(l.map Rq.r).getD j GG=(l2.map Rq.r).getD j GG):=fun j hj=>by
     by_cases e:j=k
     ·subst e;rw[eU zN,eU sZ];exact hr.1 rfl
     ·exact HI.out j (by omega)
    clear hr HI
    go_wp2
    go_roundw
    case rel=>exact⟨k+1,by go_num,by omega,HB,HI2⟩
    case measure=>simp[intOf];omega
  ·have Ca:k=l.length:=by omega
   have HE:Hid (l.map Rq.r=l2.map Rq.r):=by
    refine List.ext_getElem (by simp[fW.out]) fun i h1 h2=>?_
    have:=HI.out i (by simp at h1;omega)
    simpa[List.getD_eq_getElem?_getD,List.getElem?_eq_getElem h1,List.getElem?_eq_getElem h2]using this
   go_wp2
   go_ret
   exact⟨true,rfl,⟨fun _=>HE.out,fun _=>rfl⟩,(bt hA hB)⟩
def vm:List Rp:=[GG,GG,GG]
theorem Tt{qs:List Rq}{l:List Rp}(h:qs.map Rq.r=l)(hl:l.length=3):qs.length=3:=by rw[←hl,←h,List.length_map]
theorem Bl{qs:List Rq}{l:List Rp}(h:qs.map Rq.r=l){i:Nat}(hi:i<qs.length):qs[i].r=yq l i:=by
 rw[←h];simp[yq,hi]
section
open Go.ChangeShapes Go.WideShapes Go.ChangeAt Go.RowKit Go.Joins Go.Deep
end
theorem Z0(p base n:Nat)(v:Value)(xs:List Value)(a:Option Addr)(c:Nat)(N:List Int)(w:World)
  (hN:yD w a N) (hr: ∀x∈N,0≤x∧x≤255) (yM: ∀b off,a=some ⟨b,off,none⟩→0<N.length→b≠p∧some b≠v.ownBlock)
  (hl:n+N.length≤1000) (Zb:p<base) (xq:base≤w.heap.size)
  (xf:w.cell? ⟨p,0,none⟩=some v) (bc:w.frozen? ⟨p,0,none⟩=false) (yj:w.ownsRow base 5 1 v n xs):
  Calls Tryz.prog 198 #[.pointer (some ⟨p,0,none⟩),.slice a N.length c] w
   fun e w'=>e= .returned (.tuple #[])∧∃v',w'.cell? ⟨p,0,none⟩=some v'∧w'.frozen? ⟨p,0,none⟩=false∧w'.ownsRow base 5 1 v' (n+N.length) (xs++N.map (Value.int .u8))∧
    vL p v.ownBlock w w'∧(v'.ownBlock=v.ownBlock∨∃g,v'.ownBlock=some g∧w.heap.size≤g):=by
 obtain⟨i0,hi,sW,YG,ky⟩:=info_parts Tryz.info5
 go_enter Tryz.func198,Tryz.ntmps198
 go_wp2
 go_loopw [8] (fun i wr=>∃(k:Nat) (vr:Value),i= .int .i64 k∧k≤N.length∧wr.cell? ⟨p,0,none⟩=some vr∧wr.frozen? ⟨p,0,none⟩=false∧
   wr.ownsRow base 5 1 vr (n+k) (xs++(N.take k).map (Value.int .u8))∧vL p v.ownBlock w wr∧(vr.ownBlock=v.ownBlock∨∃g,vr.ownBlock=some g∧w.heap.size≤g))
  (fun i _=>N.length-(intOf i).toNat)
 case atStart=>exact⟨0,v,rfl,Nat.zero_le _,xf,bc,by simpa using yj,vL.refl _ _ _,Or.inl rfl⟩
 case round=>
  obtain⟨k,vr,rfl,hk,U1,Dc,Pu,nO,Lf⟩:=hrel
  by_cases zN:k<N.length
  ·obtain⟨b1,o1,rfl,zM,bV⟩:=hN k zN
   obtain⟨EW,hbv⟩:=yM b1 o1 rfl (by omega)
   have xa:wr.cell? ⟨b1,o1+k,none⟩=some (.int .i64 N[k]):=by
    rw[World.cell?_of_block (a:=⟨b1,o1+k,none⟩) (nO.block b1 zM EW hbv),bV k zN];simp[zN]
   have hx:=hr N[k] (List.getElem_mem zN)
   have hw8:=KS hx
   have gB:=nO.size
   clear bV hN yM xf bc hr
   have HO:Hid (wr.ownsRow base 5 1 vr (n+k) (xs++(N.take k).map (Value.int .u8))):=Pu
   clear Pu yj
   go_wp2_with (at_builtin;refine wpList_append_lies _ rfl (.tmp 16) (.tmp 19) 228 rfl base 5 i0 (.int .u8 0) 1 1 Tryz.underlying228 hi sW YG ky rfl (by decide) vr (n+k) _ rfl (HO.out.alloc _) ⟨wr.heap.size,0,none⟩ 1 1 [.int .u8 N[k]] rfl rfl ?c1 ?c2 (by decide) ?c3 ?c4 ?c5 (wr.heap.size+1) (by simp) ?_)
   case c1=>exact cell_one_new _ _ _
   case c2=>intro u hu;simp at hu;subst hu;rfl
   case c3=>unfold maxLen;omega
   case c4=>omega
   case c5=>simp;omega
   intro g cap w1 S6 Zg MB _
   have Va:some p≠vr.ownBlock:=fun e=>by have:=(HO.out.lt p e.symm).1;omega
   have qv:p<wr.heap.size:=by omega
   have Vf:w1.cell? ⟨p,0,none⟩=some vr:=Zg.cell ((World.cell?_alloc_past _ _ _ qv).trans U1) Va
   have hfp:w1.frozen? ⟨p,0,none⟩=false:=by
    rw[World.frozen?_of_block (a:=⟨p,0,none⟩) (Zg.block p (by simp;omega) Va)]
    exact(World.frozen?_alloc_past _ _ _ qv).trans Dc
   have R:=RC (v':=.slice (some ⟨g,0,none⟩) (n+k+1) cap) (u:=.slice (some ⟨g,0,none⟩) (n+k+1) cap) zN nO Lf Zb Vf hfp (by simpa using S6) Zg MB rfl
   clear S6 Zg MB Lf nO U1 Dc
   go_wp2
   go_roundw
   case rel=>exact⟨k+1,_,by go_num,by omega,R⟩
   case measure=>simp[intOf];omega
  ·go_wp2
   go_end0
   have D7:k=N.length:=by omega
   subst D7
   exact⟨rfl,vr,U1,Dc,by simpa using Pu,nO,Lf⟩
theorem Pr(g cap:Nat)(id kind:Int)(L:List Int)(n:Nat)(w:World)(base:Nat)
  (ho:w.ownsRow base 5 1 (.slice (some ⟨g,0,none⟩) (0+[id,kind,(L.length:Int)].length+L.length+[(n:Int)].length) cap) (0+[id,kind,(L.length:Int)].length+L.length+[(n:Int)].length)
   ([]++List.map (Value.int .u8) [id,kind,(L.length:Int)]++List.map (Value.int .u8) L++List.map (Value.int .u8) [(n:Int)])):
  (convert 228 9 (.slice (some ⟨g,0,none⟩) (0+[id,kind,(L.length:Int)].length+L.length+[(n:Int)].length) cap)).run Tryz.prog w= .ok (.string (strOfNums (vh id kind L n))) w:=by
 refine run_convert_bytes_arg w 228 5 Tryz.underlying228 Tryz.underlying5 g 0 _ cap (vh id kind L n) (by simp[vh];omega) (fun i hi=>?_) 9 Tryz.underlying9
 rw[Nat.zero_add,ho.cellAt i (by omega)]
 have e:([]++List.map (Value.int .u8) [id,kind,(L.length:Int)]++List.map (Value.int .u8) L++List.map (Value.int .u8) [(n:Int)])=(vh id kind L n).map (Value.int .u8):=by simp[vh]
 have Y5:i<(vh id kind L n).length:=by simp[vh];simp at hi;omega
 rw[e]
 simp[List.getElem?_eq_getElem Y5]
theorem ak(id kind:Int)(a:Option Addr)(c:Nat)(L:List Int)(t:ByteArray)(w:World)
  (h:yD w a L) (he:xC id kind L t.size=0):
  Calls Tryz.prog 146 #[.agg #[.int .i64 id,.int .i64 kind,.slice a L.length c,.string t]] w
   fun e w'=>e= .returned (.tuple #[.string (strOfNums (vh id kind L t.size)++t),.int .i64 0])∧Below w.heap.size w w':=by
 have h':=h.below (zB w (.cells #[.int .i64 id,.int .i64 kind,.slice a L.length c,.string t] 58))
 obtain⟨hid,XB,G4,ht8,ae,_⟩:=xg he
 have HE:Hid (xC id kind L t.size=0):=he
 have HL:Hid (yR id kind 0 0 L=0):=ae
 clear he ae
 go_enter Tryz.func146,Tryz.ntmps146
 go_wp2_with fail
 refine(mS id kind a c L t _ h' (by omega)).mono ?_
 rintro e w1 ⟨rfl,hb⟩
 rw[HE.out]
 have hB:=(zB _ _).trans (hb.mono (by simp))
 obtain⟨g0,g1,g2,g3,zN⟩:=zBT hb
 have h1:yD w1 a L:=h.below hB
 clear hb h'
 go_wp2_with fail
 refine(Z0 w1.heap.size (w1.heap.size+1) 0 (.slice none 0 0) [] (some ⟨w1.heap.size+1,0,none⟩) 3 [id,kind,(L.length:Int)] _ ?k1 ?k2 ?k3 ?k4 ?k5 ?k6 ?k7 ?k8 (World.ownsRow_nil _ _ _ _)).mono ?_
 case k1=>exact JB w1 _ [id,kind,(L.length:Int)]
 case k2=>intro x hx;simp at hx;rcases hx with rfl|rfl|rfl<;>omega
 case k3=>intro b off e _;simp at e;simp[Value.ownBlock];omega
 case k4=>simp
 case k5=>omega
 case k6=>simp
 case k7=>simp[go_sem]
 case k8=>simp[go_sem]
 rintro e w2 ⟨rfl,v2,nT,CK,Qo,mx,ha2⟩
 have zj:Below w1.heap.size w1 w2:=(zV _ _ _).trans (mx.below (by simp;omega) (Nat.le_refl _) (by simp[Value.ownBlock]))
 have ky:w1.heap.size+2≤w2.heap.size:=by have:=mx.size;simp at this;omega
 have q2:w2.cell? ⟨w.heap.size,2,none⟩=some (.slice a L.length c):=(zj.cell zN).trans g2
 have q3:w2.cell? ⟨w.heap.size,3,none⟩=some (.string t):=(zj.cell zN).trans g3
 clear mx ha2
 go_wp2_with fail
 refine(Z0 w1.heap.size (w1.heap.size+1) _ v2 _ a c L _ (h1.below zj) ?k1 ?k3 ?k4 (by omega) (by omega) nT CK Qo).mono ?_
 case k1=>intro x hx;have:=rm L 0 0 HL.out x hx;omega
 case k3=>
  intro b off e h0
  obtain⟨b',kQ,e',dw,_⟩:=h1 0 h0
  rw[e]at e'
  simp at e'
  refine⟨by omega,fun ee=>?_⟩
  have:=(Qo.lt b ee.symm).1
  omega
 case k4=>simp;omega
 rintro e w3 ⟨rfl,v3,hc3,Ex,gA,dJ,ha3⟩
 have xL:Below w1.heap.size w2 w3:=dJ.below (by omega) (Nat.le_refl _) (fun k hk=>by have:=(Qo.lt k hk).1;omega)
 have PG:w1.heap.size+2≤w3.heap.size:=by have:=dJ.size;omega
 have r3:w3.cell? ⟨w.heap.size,3,none⟩=some (.string t):=(xL.cell zN).trans q3
 clear dJ ha3 nT CK Qo q2 q3 g0 g1 g2 g3
 go_wp2_with fail
 have T6:w1.heap.size<w3.heap.size:=by omega
 refine(Z0 w1.heap.size (w1.heap.size+1) _ v3 _ (some ⟨w3.heap.size,0,none⟩) 1 [(t.size:Int)] _ ?k1 ?k2 ?k3 ?k4 ?k5 ?k6 ?k7 ?k8 (gA.alloc _)).mono ?_
 case k1=>exact rX w3 [(t.size:Int)] 3 _ rfl
 case k2=>intro x hx;simp at hx;omega
 case k3=>
  intro b off e h0
  simp at e
  refine⟨by omega,fun ee=>?_⟩
  have:=(gA.lt b ee.symm).2
  omega
 case k4=>simp;omega
 case k5=>omega
 case k6=>simp;omega
 case k7=>exact(World.cell?_alloc_past _ _ _ T6).trans hc3
 case k8=>exact(World.frozen?_alloc_past _ _ _ T6).trans Ex
 rintro e w4 ⟨rfl,v4,hc4,AY,mn,Rg,ha4⟩
 have xZ:Below w1.heap.size w3 w4:=((Below.refl _ _).alloc (by omega) _).trans (Rg.below (by simp;omega) (Nat.le_refl _) (fun k hk=>by have:=(gA.lt k hk).1;omega))
 have s3:w4.cell? ⟨w.heap.size,3,none⟩=some (.string t):=(xZ.cell zN).trans r3
 have Yt:Below w.heap.size w w4:=((hB.trans (zj.mono (by omega))).trans (xL.mono (by omega))).trans (xZ.mono (by omega))
 obtain⟨g,cap,Sq,_,_⟩:=mn.form (by simp)
 rw[Sq]at mn hc4
 have B9:=Pr g cap id kind L t.size w4 _ mn
 clear Rg ha4 hc3 Ex gA r3 zj xL xZ ky PG Sq mn AY
 generalize (0+[id,kind,(L.length:Int)].length+L.length+[(t.size:Int)].length)=nn at hc4 B9
 have eJ:(strOfNums (vh id kind L t.size)).size+t.size≤9223372036854775807:=by rw[strOfNums_size];simp[vh];omega
 go_wp2
 go_ret2
 exact⟨rfl,Yt⟩
theorem Mv(w:World)(A B:Obj):((w.alloc A).alloc B).heap[w.heap.size]? =some A∧((w.alloc A).alloc B).heap[w.heap.size+1]? =some B:=by
 refine⟨(((zB (w.alloc A) B).block _ (by simp)).trans (heap_alloc_new w A)),?_⟩
 have:=heap_alloc_new (w.alloc A) B
 rwa[show(w.alloc A).heap.size=w.heap.size+1 by simp]at this
theorem av{w:World}{q:Nat}{x0 x1 x2 x3:Value}{t:TypeId}(h:w.heap[q]? =some (.cells #[x0,x1,x2,x3] t)):w.cell? ⟨q,0,none⟩=some x0∧w.cell? ⟨q,1,none⟩=some x1∧w.cell? ⟨q,2,none⟩=some x2∧w.cell? ⟨q,3,none⟩=some x3:=by
 refine⟨?_,?_,?_,?_⟩<;>(rw[cell_of_row w _ _ _ _ _ h];rfl)
def jU(x:Ob):ByteArray:=strOfNums (vh x.id x.kind x.links x.text.size)++x.text
theorem Na{x y:Ob}(hx:x.err=0)(hy:y.err=0)(h:jU x=jU y):x=y:=by
 have b1:YP (jU x) x.id x.kind x.links (nY x.text):=⟨[],by unfold jU;rw[VI hx,List.append_nil]⟩
 have b2:YP (jU y) y.id y.kind y.links (nY y.text):=⟨[],by unfold jU;rw[VI hy,List.append_nil]⟩
 rw[h]at b1
 obtain⟨e1,e2,e3,e4⟩:=aK b1 b2
 obtain⟨i,k,L,t⟩:=x
 obtain⟨i',k',L',t'⟩:=y
 have e5:=LG e4
 simp only at e1 e2 e3 e5
 rw[e1,e2,e3,e5]
theorem Ki{x y:Ob}(hx:x.err=0)(hy:y.err=0):((jU x).toList==(jU y).toList)=true↔x=y:=by
 rw[tD]
 exact⟨Na hx hy,fun e=>by rw[e]⟩
theorem YJ(x y:Ob)(a1:Option Addr)(c1:Nat)(a2:Option Addr)(c2:Nat)(w:World)(h1:yD w a1 x.links)(h2:yD w a2 y.links)(hx:x.err=0)(hy:y.err=0):
  Calls Tryz.prog 89 #[x.val a1 c1,y.val a2 c2] w fun e w'=>∃r,e= .returned (.bool r)∧(r=true↔x=y)∧Below w.heap.size w w':=by
 have hA:=zV w (.cells #[.int .i64 x.id,.int .i64 x.kind,.slice a1 x.links.length c1,.string x.text] 58) (.cells #[.int .i64 y.id,.int .i64 y.kind,.slice a2 y.links.length c2,.string y.text] 58)
 obtain⟨k1,k2⟩:=Mv w (.cells #[.int .i64 x.id,.int .i64 x.kind,.slice a1 x.links.length c1,.string x.text] 58) (.cells #[.int .i64 y.id,.int .i64 y.kind,.slice a2 y.links.length c2,.string y.text] 58)
 have q1:=h1.below hA
 have q2:=h2.below hA
 obtain⟨y0,y1,y2,y3⟩:=av k1
 have he:=ak x.id x.kind a1 c1 x.links x.text _ q1 hx
 go_enter Tryz.func89,Tryz.ntmps89
 go_wp2_with fail
 generalize (w.alloc (.cells #[.int .i64 x.id,.int .i64 x.kind,.slice a1 x.links.length c1,.string x.text] 58)).alloc (.cells #[.int .i64 y.id,.int .i64 y.kind,.slice a2 y.links.length c2,.string y.text] 58)=W0 at *
 refine he.mono ?_
 clear he
 rintro e W1 ⟨rfl,zM⟩
 have zT:=bt hA zM
 have q3:=q2.below zM
 obtain⟨z0,z1,z2,z3⟩:=av ((zA5 zM k2))
 clear y0 y1 y2 y3 hA
 have he:=ak y.id y.kind a2 c2 y.links y.text W1 q3 hy
 rw[show strOfNums (vh x.id x.kind x.links x.text.size)++x.text=jU x from rfl]
 rw[show strOfNums (vh y.id y.kind y.links y.text.size)++y.text=jU y from rfl]at he
 have HQ:Hid (((jU x).toList==(jU y).toList)=true↔x=y):=Ki hx hy
 generalize jU x=sx at *
 generalize jU y=sy at *
 go_wp2_with fail
 refine he.mono ?_
 clear he
 rintro e W2 ⟨rfl,zZ⟩
 have zj:=bt zT zZ
 clear zM zZ zT z0 z1 z2 z3
 go_wp2
 go_ret
 exact⟨_,rfl,HQ.out,zj⟩
def r9(a b:List Ob)(w:World)(e:Ending)(w':World):Prop:=
 Below w.heap.size w w'∧((tq a b≠0∧e= .returned (.tuple #[.slice none 0 0,.int .i64 (tq a b)]))∨
  (tq a b=0∧∃v rs,e= .returned (.tuple #[v,.int .i64 0])∧rs.map Pl.x=yH a b∧xt w' w.heap.size v rs))
theorem r9.bad{a b:List Ob}{w w':World}{r:Int}(h:tq a b=r)(h0:r≠0)(hb:Below w.heap.size w w'):r9 a b w (.returned (.tuple #[.slice none 0 0,.int .i64 r])) w':=
 ⟨hb,.inl ⟨by rw[h];exact h0,by rw[h]⟩⟩
theorem po{a b:List Ob}{k:Nat}(hk:k<a.length):yH (a.take (k+1)) b=yH (a.take k) b++if zW b a[k].id<0 then [a[k]]else []:=by
 unfold yH
 rw[List.take_succ_eq_append_getElem hk,List.filter_append]
 congr 1
 split<;>simp_all
theorem rh{a b:List Ob}{k:Nat}(hk:k<a.length):vc b (a.drop k)=if xW b a[k]≠0 then xW b a[k]else vc b (a.drop (k+1)):=by
 rw[List.drop_eq_getElem_cons hk,vc]
theorem fe(a1:Option Addr)(c1:Nat)(a:List Ob)(a2:Option Addr)(c2:Nat)(b:List Ob)(w:World)(h1:zP w a1 a)(TT:a.length≤9223372036854775807)(h2:zP w a2 b)(FZ:b.length≤9223372036854775807):
  Calls Tryz.prog 35 #[.slice a1 a.length c1,.slice a2 b.length c2] w (r9 a b w):=by
 have S0:xt w w.heap.size (.slice none 0 0) []:=⟨World.ownsRow_nil _ _ _ _,fun r hr=>by cases hr⟩
 obtain⟨PO,xY⟩: ∃P:Ending→World→Prop,Hid (P=r9 a b w):=⟨_,rfl⟩
 rw[←xY.out]
 have hc:=vD a1 c1 a w h1 TT
 go_enter Tryz.func35,Tryz.ntmps35
 go_wp2_with fail
 by_cases e1:zK a=0
 case neg=>
  have HF:Hid (∀w',Below w.heap.size w w'→PO (.returned (.tuple #[.slice none 0 0,.int .i64 (zK a)])) w'):=fun w' hb=>by
   rw[xY.out];exact r9.bad (by unfold tq;rw[if_pos e1]) e1 hb
  have q1:(zK a != 0)=true:=by simpa using e1
  clear e1
  refine hc.mono ?_
  rintro e w1 ⟨rfl,zM⟩
  generalize zK a=E at *
  go_wp2
  exact HF.out _ zM
 rw[e1]at hc
 refine hc.mono ?_
 clear hc
 rintro e w1 ⟨rfl,zM⟩
 have hc:=vD a2 c2 b w1 (h2.below zM) FZ
 have qP:Hid (zK a=0):=e1
 clear e1
 go_wp2_with fail
 by_cases e2:zK b=0
 case neg=>
  have HF:Hid (∀w',Below w.heap.size w w'→PO (.returned (.tuple #[.slice none 0 0,.int .i64 (zK b)])) w'):=fun w' hb=>by
   rw[xY.out];exact r9.bad (by unfold tq;rw[if_neg (fun e=>e qP.out),if_pos e2]) e2 hb
  have q1:(zK b != 0)=true:=by simpa using e2
  clear e2
  refine hc.mono ?_
  rintro e w2 ⟨rfl,zZ⟩
  have zj:=bt zM zZ
  clear zM zZ
  generalize zK b=E at *
  go_wp2
  exact HF.out _ zj
 rw[e2]at hc
 refine hc.mono ?_
 clear hc
 rintro e w2 ⟨rfl,zZ⟩
 have zj:=bt zM zZ
 have nb:Hid (zK b=0):=e2
 have EN:Hid (tq a b=vc b a):=by unfold Hid tq;rw[if_neg (fun e=>e qP.out),if_neg (fun e=>e nb.out)]
 have S2:=S0.below zj
 clear e2 zM zZ S0
 go_wp2_with fail
 go_loopw [8,25] (fun o i wr=>∃(k:Nat) (v:Value) (rs:List Pl),i= .int .i64 k∧o=v∧k≤a.length∧Hid (rs.map Pl.x=yH (a.take k) b)∧xt wr w.heap.size v rs∧Below w.heap.size w wr∧Hid (vc b a=vc b (a.drop k))) (fun _ i _=>a.length-(intOf i).toNat)
 case atStart=>exact⟨0,_,[],rfl,rfl,Nat.zero_le _,rfl,S2,zj,rfl⟩
 case round=>
  clear S2 zj
  obtain⟨k,v,rs,rfl,rfl,hk,tM,SH,HB,HD⟩:=hrel
  obtain⟨g0,m0,c0,rfl⟩:=rY SH.own
  by_cases zN:k<a.length
  ·obtain⟨bb,off,rfl,hb,hc⟩:=h1 k zN
   have hO:=(hc k zN).below HB hb
   clear hc
   obtain⟨sa,sc,y0,y1,y2,y3,y4,y5⟩:=hO
   have hA:=zB wr (.cells #[.int .i64 a[k].id,.int .i64 a[k].kind,.slice sa a[k].links.length sc,.string a[k].text] 58)
   have ko:=heap_alloc_new wr (.cells #[.int .i64 a[k].id,.int .i64 a[k].kind,.slice sa a[k].links.length sc,.string a[k].text] 58)
   have TZ:=bt HB hA
   have SA:=SH.below hA
   have hH:=y4.below hA
   have HXE:Hid (a[k].err=0):=vE qP.out _ (List.getElem_mem zN)
   have hwr:w.heap.size≤wr.heap.size:=HB.size
   obtain⟨z0,z1,z2,z3⟩:=av ko
   rcases xG b a[k].id with hp|⟨i,hp,hi⟩
   ·-- it is not there
    have HT:Hid (xW b a[k]=0):=(sI (zh.1 nb.out).2.2).2 fun y hy e=>by
     have:=yy.2 ⟨y,hy,e⟩;omega
    have Tq:Hid (zW b a[k].id<0):=by unfold Hid;omega
    have hf:=Zm a2 c2 b a[k].id _ (h2.below TZ) nb.out hp
    clear hp SH HB hA y4 z1 z2 z3
    go_wp2_with fail
    generalize wr.alloc (.cells #[.int .i64 a[k].id,.int .i64 a[k].kind,.slice sa a[k].links.length sc,.string a[k].text] 58)=W at *
    refine hf.mono ?_
    clear hf
    rintro e W1 ⟨rfl,zM⟩
    have Mp:=zB W1 (.cells #[.int .i64 0,.int .i64 0,.slice none 0 0,.string {data:=#[]}] 58)
    have zZ:=bt zM Mp
    have pv:=bt TZ zZ
    have SB:=SA.below zZ
    have PU:=hH.below zZ
    have Cr:=zA5 zZ ko
    obtain⟨u0,u1,u2,u3⟩:=av Cr
    have Vf:=pn a[k] sa sc _ PU (ui HXE.out)
    have J7:w.heap.size≤W1.heap.size:=Nat.le_trans TZ.size zM.size
    clear Mp zM zZ TZ SA hH ko z0 y0 y1 y2 y3
    go_wp2_with fail
    generalize W1.alloc (.cells #[.int .i64 0,.int .i64 0,.slice none 0 0,.string {data:=#[]}] 58)=W2 at *
    refine Vf.mono ?_
    clear Vf
    rintro e W3 ⟨ta,tc,rfl,bW,yT,bc,Ha⟩
    have xR:=zB W3 (.cells #[.int .i64 a[k].id,.int .i64 a[k].kind,.slice ta a[k].links.length tc,.string a[k].text] 58)
    have Sq:=heap_alloc_new W3 (.cells #[.int .i64 a[k].id,.int .i64 a[k].kind,.slice ta a[k].links.length tc,.string a[k].text] 58)
    have S4:=(SB.below yT).below xR
    have aP:rs.length≤40:=by
     have h3:=congrArg List.length tM.out
     have h4:=th (a.take k) b
     have h5:=(yF qP.out).1
     rw[List.length_map]at h3
     rw[List.length_take]at h4
     omega
    have J5:=Nat.le_trans pv.size (Nat.le_trans yT.size xR.size)
    obtain⟨v',W5,Lo,Y4,Rx,CJ⟩:=js _ w.heap.size 25 _ rs.length (xE rs) S4.own W3.heap.size _ Sq rfl (by intro u hu;simp only[List.mem_cons,List.not_mem_nil,or_false]at hu;rcases hu with rfl|rfl|rfl|rfl<;>rfl) (by omega) J5
    obtain⟨g',m',c',rfl⟩:=rY Y4
    have NX:=SB.next (rs':=rs++[⟨a[k],ta,tc⟩]) (r:=⟨a[k],ta,tc⟩) pv.size ((bt yT xR)) Rx (by rw[List.length_append,xh];exact Y4) CJ (by intro s hs;rcases List.mem_append.1 hs with q|q;exact .inl q;exact .inr (List.mem_singleton.1 q)) ⟨ui HXE.out,Ha⟩ (bW.below xR) bc
    have Yt:=pv.trans (NX.2.mono (Nat.le_refl _))
    have HM:Hid ((rs++[(⟨a[k],ta,tc⟩:Pl)]).map Pl.x=yH (a.take (k+1)) b):=by
     unfold Hid
     rw[List.map_append,tM.out,po zN,if_pos Tq.out];rfl
    have LV:Hid (vc b a=vc b (a.drop (k+1))):=by
     unfold Hid
     rw[HD.out,rh zN,if_neg (fun e=>e HT.out)]
    have HN:Hid (_∧_):=⟨NX.1,Yt⟩
    clear NX Yt CJ Rx Y4 S4 Sq xR yT bW bc Ha SB PU J5 tM HD pv Cr
    go_wp2_with (at_builtin;refine nM (by rfl) (.tmp 46) (.tmp 49) (by rfl) _ _ (by rfl) (by rfl) Lo ?_)
    go_roundw
    case rel=>exact⟨k+1,_,_,by go_num,rfl,by omega,HM,HN.out.1,HN.out.2,LV⟩
    case measure=>simp[intOf];omega
   ·-- it is there
    have hid:=(tH hp).2
    have HT:Hid (xW b a[k]=Ut (xi b[i].id b[i].kind b[i].links b[i].text a[k].id a[k].kind a[k].links a[k].text)):=ra hp hi
    have Tq:Hid (¬zW b a[k].id<0):=by unfold Hid;omega
    have HYE:Hid (b[i].err=0):=vE nb.out _ (List.getElem_mem hi)
    have hf:=Sj a2 c2 b a[k].id i _ (h2.below TZ) nb.out hp hi
    clear hp SH HB hA y4 z1 z2 z3 hid
    go_wp2_with fail
    generalize wr.alloc (.cells #[.int .i64 a[k].id,.int .i64 a[k].kind,.slice sa a[k].links.length sc,.string a[k].text] 58)=W at *
    refine hf.mono ?_
    clear hf
    rintro e W1 ⟨ta,tc,rfl,bW,zM⟩
    have Mp:=zB W1 (.cells #[.int .i64 b[i].id,.int .i64 b[i].kind,.slice ta b[i].links.length tc,.string b[i].text] 58)
    have kt:=heap_alloc_new W1 (.cells #[.int .i64 b[i].id,.int .i64 b[i].kind,.slice ta b[i].links.length tc,.string b[i].text] 58)
    have zZ:=bt zM Mp
    have pv:=bt TZ zZ
    have SB:=SA.below zZ
    have PU:=hH.below zZ
    have zAO:=bW.below Mp
    have Cr:=zA5 zZ ko
    obtain⟨u0,u1,u2,u3⟩:=av Cr
    obtain⟨t0,t1,t2,t3⟩:=av kt
    have hsm:=YJ a[k] b[i] sa sc ta tc _ PU zAO HXE.out HYE.out
    clear Mp zM zZ TZ SA hH ko z0 y0 y1 y2 y3 bW
    go_wp2_with fail
    generalize W1.alloc (.cells #[.int .i64 b[i].id,.int .i64 b[i].kind,.slice ta b[i].links.length tc,.string b[i].text] 58)=W2 at *
    refine hsm.mono ?_
    clear hsm
    rintro e W3 ⟨r,rfl,hr,yT⟩
    have na:=bt pv yT
    have S3:=SB.below yT
    clear yT pv SB PU zAO Cr kt u0 u1 u2 u3 t0 t1 t2 t3
    cases r with
    |true=>
     have Hk:=hr.1 rfl
     have Lg:Hid (xW b a[k]=0):=by unfold Hid;rw[HT.out,←Hk,rl];rfl
     have HM:Hid (rs.map Pl.x=yH (a.take (k+1)) b):=by
      unfold Hid
      rw[tM.out,po zN,if_neg (by have:=Tq.out;omega),List.append_nil]
     have LV:Hid (vc b a=vc b (a.drop (k+1))):=by
      unfold Hid
      rw[HD.out,rh zN,if_neg (fun e=>e Lg.out)]
     clear hr Hk tM HD HT
     go_wp2
     go_roundw
     case rel=>exact⟨k+1,_,_,by go_num,rfl,by omega,HM,S3,na,LV⟩
     case measure=>simp[intOf];omega
    |false=>
     have HF:Hid (PO (.returned (.tuple #[.slice none 0 0,.int .i64 6])) W3):=by
      unfold Hid
      rw[xY.out]
      refine r9.bad ?_ (by decide) na
      have hs:xi b[i].id b[i].kind b[i].links b[i].text a[k].id a[k].kind a[k].links a[k].text=false:=by
       cases hq:xi b[i].id b[i].kind b[i].links b[i].text a[k].id a[k].kind a[k].links a[k].text with
       |false=>rfl
       |true=>have:=hr.2 (np hq).symm;cases this
      have ht:xW b a[k]=6:=by rw[HT.out,hs];rfl
      rw[EN.out,HD.out,rh zN,if_pos (by rw[ht];decide),ht]
     clear hr tM HD HT S3 na
     go_wp2
     exact HF.out
  ·have HF:Hid (PO (.returned (.tuple #[.slice g0 m0 c0,.int .i64 0])) wr):=by
    unfold Hid
    rw[xY.out]
    refine⟨HB,.inr ⟨?_,_,rs,rfl,?_,SH⟩⟩
    ·rw[EN.out,HD.out,List.drop_of_length_le (by omega)];rfl
    ·rw[tM.out,List.take_of_length_le (by omega)]
   clear SH HB HD tM
   go_wp2
   exact HF.out
def tx(n r:Rp):Int:=if n.err≠0 then n.err else if r.err≠0 then r.err else if n.g<r.g then 4 else 0
theorem TR(n r:Rq)(w:World)(hg:xr w)(hn:n.H w)(hr:r.H w):
  Calls Tryz.prog 73 #[n.val,r.val] w fun e w'=>e= .returned (.int .i64 (tx n.r r.r))∧Below w.heap.size w w':=by
 have hA:=zV w n.blk r.blk
 obtain⟨k0,k1⟩:=ye w n.blk r.blk
 obtain⟨y0,y1,y2,y3,y4,y5,y6⟩:=zI k0
 have hc:=vv n.aS n.cs n.r.s n.al n.cl n.r.l n.r.g n.r.ph n.a1 n.c1 n.r.m n.a2 n.c2 n.r.us n.r.f _ (hg.below hA) (hn.below hA)
 have HE:Hid (tx n.r r.r=if n.r.err≠0 then n.r.err else if r.r.err≠0 then r.r.err else if n.r.g<r.r.g then 4 else 0):=rfl
 go_enter Tryz.func73,Tryz.ntmps73
 go_wp2_with fail
 refine hc.mono ?_
 clear hc
 rintro e w1 ⟨rfl,zM⟩
 have zT:=bt hA zM
 have j0:=zA5 zM k0
 have j1:=zA5 zM k1
 clear zM hA k0 k1 y0 y1 y2 y3 y4 y5 y6
 change Hid (_=if xA n.r.s n.r.l n.r.g n.r.ph n.r.m n.r.us n.r.f≠0 then xA n.r.s n.r.l n.r.g n.r.ph n.r.m n.r.us n.r.f else _)at HE
 by_cases c1:xA n.r.s n.r.l n.r.g n.r.ph n.r.m n.r.us n.r.f=0
 case neg=>
  have HR:Hid (tx n.r r.r=xA n.r.s n.r.l n.r.g n.r.ph n.r.m n.r.us n.r.f):=by unfold Hid;rw[HE.out,if_pos c1]
  have z1:(xA n.r.s n.r.l n.r.g n.r.ph n.r.m n.r.us n.r.f != 0)=true:=by simpa using c1
  clear c1 j0 j1 HE
  go_wp2
  go_ret
  exact⟨zE HR.out.symm,zT⟩
 have qP:Hid (tx n.r r.r=if xA r.r.s r.r.l r.r.g r.r.ph r.r.m r.r.us r.r.f≠0 then xA r.r.s r.r.l r.r.g r.r.ph r.r.m r.r.us r.r.f else if n.r.g<r.r.g then 4 else 0):=by unfold Hid;rw[HE.out,if_neg (fun e=>e c1)];rfl
 rw[c1]
 clear c1 HE
 obtain⟨y0,y1,y2,y3,y4,y5,y6⟩:=zI j1
 have hc:=vv r.aS r.cs r.r.s r.al r.cl r.r.l r.r.g r.r.ph r.a1 r.c1 r.r.m r.a2 r.c2 r.r.us r.r.f w1 (hg.below zT) (hr.below zT)
 go_wp2_with fail
 refine hc.mono ?_
 clear hc
 rintro e w2 ⟨rfl,zZ⟩
 have zj:=bt zT zZ
 have i0:=zA5 zZ j0
 have i1:=zA5 zZ j1
 clear zZ zT j0 j1 y0 y1 y2 y3 y4 y5 y6
 by_cases c1:xA r.r.s r.r.l r.r.g r.r.ph r.r.m r.r.us r.r.f=0
 case neg=>
  have HR:Hid (tx n.r r.r=xA r.r.s r.r.l r.r.g r.r.ph r.r.m r.r.us r.r.f):=by unfold Hid;rw[qP.out,if_pos c1]
  have z1:(xA r.r.s r.r.l r.r.g r.r.ph r.r.m r.r.us r.r.f != 0)=true:=by simpa using c1
  clear c1 i0 i1 qP
  go_wp2
  go_ret
  exact⟨zE HR.out.symm,zj⟩
 have nb:Hid (tx n.r r.r=if n.r.g<r.r.g then 4 else 0):=by unfold Hid;rw[qP.out,if_neg (fun e=>e c1)]
 rw[c1]
 clear c1 qP
 obtain⟨y0,y1,y2,y3,y4,y5,y6⟩:=zI i0
 obtain⟨x0,x1,x2,x3,x4,x5,x6⟩:=zI i1
 by_cases c:n.r.g<r.r.g
 ·have HR:Hid (tx n.r r.r=4):=by unfold Hid;rw[nb.out,if_pos c]
  have zt:decide (n.r.g<r.r.g)=true:=decide_eq_true c
  clear c nb
  go_wp2
  go_ret
  exact⟨zE HR.out.symm,zj⟩
 ·have HR:Hid (tx n.r r.r=0):=by unfold Hid;rw[nb.out,if_neg c]
  have zt:decide (n.r.g<r.r.g)=false:=decide_eq_false c
  clear c nb
  go_wp2
  go_ret
  exact⟨zE HR.out.symm,zj⟩
section
section
variable {l m:List Rf} {ns:List ByteArray}
theorem DP{o:List Ob}(h:zK o=0){i:Int}(hi:gE o i):1≤i∧i≤99:=by
 obtain⟨⟨x,hx,rfl⟩,_⟩:=hi
 exact dv h x hx
end
end
section
open Go.RowKit
attribute [local go_sem] Oper.semAt_some
set_option maxRecDepth 100000
theorem uj{w w':World}{z:Nat}{e:TypeId}{size:Nat}{v:Value}{n:Nat}{xs:List Value}(ho:w.ownsRow z e size v n xs)(hg:w.grownBy w' v.ownBlock)(hz:z≤w.heap.size):Below z w w':=
 ⟨hg.os,hg.tape,hg.output,hg.size,fun k hk=>hg.block k (by omega) (fun e=>by have:=(ho.lt k e.symm).1;omega)⟩
theorem jp{w:World}{q:Nat}{x0 x1:Value}{t:TypeId}(h:w.heap[q]? =some (.cells #[x0,x1] t)):w.cell? ⟨q,0,none⟩=some x0∧w.cell? ⟨q,1,none⟩=some x1:=by
 refine⟨?_,?_⟩<;>(rw[cell_of_row w _ _ _ _ _ h];rfl)
end
section
open Go.RowKit
attribute [local go_sem] Oper.semAt_some
set_option maxRecDepth 100000
theorem sX{w:World}{z:Nat}{e:TypeId}{size:Nat}{v:Value}{n:Nat}{xs:List Value}(h:w.ownsRow z e size v n xs): ∃a c,v= .slice a n c:=by
 rcases h.2 with⟨rfl,e⟩|⟨g,cap,_,e,_⟩
 ·exact⟨_,_,by rw[e]⟩
 ·exact⟨_,_,e⟩
end
section
open Go.RowKit Go.Shelf
attribute [local go_sem] Oper.semAt_some
def pL(n₀ Bs Bn:Nat)(W W':World):Prop:=Below n₀ W W'∧W'.heap[Bs]? =W.heap[Bs]?∧W'.heap[Bn]? =W.heap[Bn]?
theorem pL.trans{n₀ Bs Bn:Nat}{A B C:World}(h:pL n₀ Bs Bn A B)(k:pL n₀ Bs Bn B C):pL n₀ Bs Bn A C:=⟨h.1.trans k.1,k.2.1.trans h.2.1,k.2.2.trans h.2.2⟩
theorem pL.book{n₀ Bs Bn:Nat}{w:World}(hn:n₀≤w.heap.size)(hb:Bs<w.heap.size)(dw:Bn<w.heap.size)(W:World)(l:Nat)(o o':Obj)(hl:w.heap.size≤l)(h:W.heap[l]? =some o)(h1:o.isCells=false)(h2:o.isWalk=false):pL n₀ Bs Bn W (W.putObj l o'):=by
 refine⟨belowK_b hn W l o o' hl h h1 h2,?_,?_⟩
 ·have zN:l<W.heap.size:=zG h
  exact(grownBy_putObj' W l o').block Bs (by omega) (fun e=>by cases e;omega)
 ·have zN:l<W.heap.size:=zG h
  exact(grownBy_putObj' W l o').block Bn (by omega) (fun e=>by cases e;omega)
abbrev aU(n:Nat):={x:Nat // x*12<n }
def aU.vals{n:Nat}(b off:Nat)(x:aU n):Array Value:=#[.slice (some ⟨b,off+x.1*12*4,none⟩) (min 12 (n-x.1*12)) (min 12 (n-x.1*12))]
def qB{n:Nat}(pre:List (aU n)):Prop:=pre.map (fun x=>x.1)=List.range pre.length
theorem qB.next{n:Nat}{pre:List (aU n)}(h:qB pre)(hp:pre.length*12<n):qB (pre++[(⟨pre.length,hp⟩:aU n)]):=by
 unfold qB at *
 rw[List.map_append,h,List.length_append,List.length_singleton,List.range_succ];rfl
theorem qB.last{n:Nat}{pre:List (aU n)}{x:aU n}(h:qB (pre++[x])):qB pre∧x.1=pre.length:=by
 unfold qB at *
 rw[List.map_append,List.length_append,List.length_singleton,List.range_succ]at h
 have:=List.append_inj' h rfl
 exact⟨this.1,by simpa using this.2⟩
set_option maxRecDepth 100000 in
theorem RO(n:Nat)(hn:1≤n)(l Bs Bn n₀ b off N cap:Nat)(hN:N≤cap)(uO:N≤1000)(J Jx:List (aU N)→World→Prop)(hJd: ∀pre W,J pre W→J pre W.drew)
  (hY: ∀(pre:List (aU N)) (x:aU N) W,J pre W→pre.length<N→YieldAt Fence.wide (n-1) Tryz.prog l (x.vals b off) W fun e W'=>
   (e= .returned (.bool true)∧J (pre++[x]) W'∧pL n₀ Bs Bn W W')∨(e= .returned (.bool false)∧Jx (pre++[x]) W'))
  (W:World) (hn₀:n₀≤W.heap.size) (hBs:W.cell? ⟨Bs,0,none⟩=some (.slice (some ⟨b,off,none⟩) N cap)) (SF:W.cell? ⟨Bn,0,none⟩=some (.int .i64 12)) (h0:J [] W):
  CallsIn Fence.wide n Tryz.prog 187 #[.func (.yield l) #[] #[],.pointer (some ⟨Bs,0,none⟩),.pointer (some ⟨Bn,0,none⟩)] W fun e W'=>(∃v,e= .returned v)∧
   ((∃ys:List (aU N),(qB ys∧N≤ys.length*12)∧J ys W')∨(∃pre:List (aU N),qB pre∧Jx pre W')):=by
 refine callsIn_of_wp Tryz.func187 rfl trivial ?_ rfl
 simp only[Tryz.ntmps187,List.size_toArray,List.length_cons,List.length_nil,Nat.reduceAdd,Nat.reduceSub,Array.replicate_succ,Array.replicate_zero,List.push_toArray,List.append_toArray,List.nil_append,List.cons_append]
 gi_wp2
 gi_loopw [4] (fun i wr=>∃(j:Nat) (pre:List (aU N)),j=pre.length*12∧pre.length≤1000∧i= .int .i64 (j:Int)∧qB pre∧J pre wr∧pL n₀ Bs Bn W wr)
  (fun i _=>N-(intOf i).toNat)
 case atStart=>exact⟨0,[],rfl,by simp,rfl,rfl,h0,Below.refl _ _,rfl,rfl⟩
 case round=>
  obtain⟨j,pre,Vn,hp9,rfl,me,CX,hK⟩:=hrel
  have hj:Hid (j=pre.length*12):=Vn
  have xs:=(World.cell?_of_block (a:=⟨Bs,0,none⟩) hK.2.1).trans hBs
  have xn:=(World.cell?_of_block (a:=⟨Bn,0,none⟩) hK.2.2).trans SF
  by_cases zN:j<N
  ·have vg:(j:Int)<(N:Int):=by omega
   have hj9:j≤1000:=by omega
   have hp:pre.length*12<N:=by omega
   obtain⟨fn,tmps,assign,body,hy,hR⟩:=hY pre ⟨pre.length,hp⟩ wr.drew (hJd _ _ CX) (by omega)
   have hKd:pL n₀ Bs Bn W wr.drew:=⟨hK.1.trans ((zU wr).mono (Nat.le_trans hn₀ hK.1.size)),hK.2⟩
   simp only[aU.vals,←Vn]at hy
   have HN:Hid (qB (pre++[(⟨pre.length,hp⟩:aU N)])):=me.next hp
   have HJ:Hid (j+12=(pre++[(⟨pre.length,hp⟩:aU N)]).length*12):=by unfold Hid;rw[List.length_append,List.length_singleton];omega
   have HL:Hid ((pre++[(⟨pre.length,hp⟩:aU N)]).length≤1000):=by unfold Hid;rw[List.length_append,List.length_singleton];omega
   obtain⟨m,hm⟩: ∃m,m=min 12 (N-j):=⟨_,rfl⟩
   rw[←hm]at hy
   have ec:Hid (((min 12 ((N-j:Nat):Int)))=(m:Int)):=by unfold Hid;omega
   have Ga:j+m≤N:=by omega
   have hm4:0<m:=by omega
   have hm3:((j:Int)+(m:Int)).toNat-j=m:=by omega
   have ys:=(World.cell?_of_block (a:=⟨Bs,0,none⟩) hKd.2.1).trans hBs
   clear Vn hm
   gi_wp2
   gi_region
   rw[ec.out]
   clear hK xs xn CX
   generalize wr.drew=wd at *
   gi_wp2
   refine hR.mono ?_
   rintro e W3 (⟨rfl,hJ3,tv⟩|⟨rfl,hJx3⟩)
   ·have hK3:=hKd.trans tv
    have yn:=(World.cell?_of_block (a:=⟨Bn,0,none⟩) hK3.2.2).trans SF
    gi_wp2
    go_roundw
    case rel=>exact⟨j+12,_,HJ.out,HL.out,by go_num,HN.out,hJ3,hK3⟩
    case measure=>simp[intOf];omega
   ·gi_wp2
    refine bodyPost_ret (results_none rfl _ _ _) rfl ?_
    exact⟨⟨_,rfl⟩,.inr ⟨_,HN.out,hJx3⟩⟩
  ·have bT: ¬(j:Int)<(N:Int):=by omega
   have HF:Hid (qB pre∧N≤pre.length*12):=⟨me,by omega⟩
   clear me zN Vn
   gi_wp2
   go_end0
   exact⟨⟨_,rfl⟩,.inl ⟨pre,HF.out,CX⟩⟩
set_option maxRecDepth 100000 in
theorem Ux(n:Nat)(l Bs Bn:Nat)(a:Option Addr)(cap:Nat)(W:World)(hBs:W.cell? ⟨Bs,0,none⟩=some (.slice a 0 cap)):
  CallsIn Fence.wide n Tryz.prog 187 #[.func (.yield l) #[] #[],.pointer (some ⟨Bs,0,none⟩),.pointer (some ⟨Bn,0,none⟩)] W fun e W'=>(∃v,e= .returned v)∧W'=W:=by
 refine callsIn_of_wp Tryz.func187 rfl trivial ?_ rfl
 simp only[Tryz.ntmps187,List.size_toArray,List.length_cons,List.length_nil,Nat.reduceAdd,Nat.reduceSub,Array.replicate_succ,Array.replicate_zero,List.push_toArray,List.append_toArray,List.nil_append,List.cons_append]
 gi_wp2
 gi_loopw [4] (fun i wr=>i= .int .i64 0∧wr=W) (fun _ _=>0)
 case atStart=>exact⟨rfl,rfl⟩
 case round=>
  obtain⟨rfl,rfl⟩:=hrel
  gi_wp2
  go_end0
  exact⟨⟨_,rfl⟩,rfl⟩
theorem Wz(n:Nat)(hn:1≤n)(Bs Bn n₀ b off N cap:Nat)(a:Option Addr)(ha:0<N→a=some ⟨b,off,none⟩)(hN:N≤cap)(uO:N≤1000)(w:World)(hBs:Bs<w.heap.size)(SF:Bn<w.heap.size)(hn₀:n₀≤w.heap.size)
  (mz:w.cell? ⟨Bs,0,none⟩=some (.slice a N cap)) (DU:w.cell? ⟨Bn,0,none⟩=some (.int .i64 12)):
  SeqStopsK Fence.wide n Tryz.prog 187 #[.pointer (some ⟨Bs,0,none⟩),.pointer (some ⟨Bn,0,none⟩)] (aU.vals (n:=N) b off) (pL n₀ Bs Bn) (fun ys=>qB ys∧N≤ys.length*12) qB N w:=fun l J Jx W hW hJ _ hY h0=>by
 have hc:=(hW.cell (p:=⟨Bs,0,none⟩) hBs).trans mz
 have hd:=(hW.cell (p:=⟨Bn,0,none⟩) SF).trans DU
 rcases Nat.eq_zero_or_pos N with hz|hp
 ·subst hz
  refine(Ux n l Bs Bn a cap W hc).mono ?_
  rintro e W' ⟨he,rfl⟩
  exact⟨he,.inl ⟨[],⟨rfl,Nat.zero_le _⟩,h0⟩⟩
 ·rw[ha hp]at hc
  exact RO n hn l Bs Bn n₀ b off N cap hN uO J Jx (fun pre W h=>hJ pre W _ none h ⟨rfl,rfl,rfl,Nat.le_refl _,fun _ _ _=>rfl⟩ (fun _ e=>by cases e)) hY W (Nat.le_trans hn₀ hW.size) hc hd h0
theorem Ns(n:Nat)(a:Option Addr)(len cap:Nat)(w:World):
  CallsIn Fence.wide n Tryz.prog 131 #[.slice a len cap,.int .i64 12] w fun e w'=>e= .returned (.func (.func 187) #[] #[.pointer (some ⟨w.heap.size,0,none⟩),.pointer (some ⟨w.heap.size+1,0,none⟩)])∧w'=(w.alloc (.cells #[.slice a len cap] 25)).alloc (.cells #[.int .i64 12] 3):=by
 refine callsIn_of_wp Tryz.func131 rfl trivial ?_ rfl
 simp only[Tryz.ntmps131,List.size_toArray,List.length_cons,List.length_nil,Nat.reduceAdd,Nat.reduceSub,Array.replicate_succ,Array.replicate_zero,List.push_toArray,List.append_toArray,List.nil_append,List.cons_append]
 gi_wp2
 go_ret
 exact⟨rfl,rfl⟩
end
section
open Go.RowKit Go.Shelf
set_option maxRecDepth 100000
theorem sB{W W':World}{row:Option Nat}(hg:W.grownBy W' row)(hr: ∀r,row=some r→∃o:Obj,W.heap[r]? =some o∧o.isCells=false){k:Nat}{o:Obj}(hk:W.heap[k]? =some o)(ho:o.isCells=true):W'.heap[k]? =some o:=
 (hg.block k (zG hk) (fun e=>by
  obtain⟨o',h1,h2⟩:=hr k e.symm
  rw[hk]at h1;cases h1;rw[ho]at h2;cases h2)).trans hk
theorem xt.ownF{W W':World}{z:Nat}{v:Value}{rs:List Pl}{row:Option Nat}(h:xt W z v rs)(hg:W.grownBy W' row)(hr: ∀r,row=some r→∃o:Obj,W.heap[r]? =some o∧o.isCells=false):xt W' z v rs:=by
 refine⟨⟨h.own.1,?_⟩,fun r Hm=>?_⟩
 ·rcases h.own.2 with q|⟨g,cap,cur,q1,q2,q3,q4⟩
  ·exact .inl q
  ·exact .inr ⟨g,cap,cur,q1,q2,sB hg hr q3 rfl,q4⟩
 ·obtain⟨h1,h2⟩:=h.each r Hm
  refine⟨h1,fun h0=>?_⟩
  obtain⟨b,off,e,pS,zN,yM,hc⟩:=h2 h0
  have xf:W'.heap[b]? =W.heap[b]?:=by
   have h3:=hc 0 h0
   obtain⟨o,ho⟩: ∃o,W.heap[b]? =some o:=⟨_,Array.getElem?_eq_getElem zN⟩
   cases o with
   |cells cs t fz=>rw[ho];exact sB hg hr ho rfl
   |_=>simp[World.cell?,ho]at h3
  exact⟨b,off,e,pS,Nat.lt_of_lt_of_le zN hg.size,yM,fun i hi=>(World.cell?_of_block (a:=⟨b,off+i,none⟩) xf).trans (hc i hi)⟩
theorem xt.len{W:World}{z:Nat}{v:Value}{rs:List Pl}(h:xt W z v rs):rs.length≤9223372036854775807:=by
 rcases h.own.2 with⟨_,e⟩|⟨g,cap,cur,q1,q2,q3,q4,q5,q6⟩
 ·omega
 ·unfold maxLen at q5;omega
theorem zP.part{w:World}{b off:Nat}{l:List Ob}(h:zP w (some ⟨b,off,none⟩) l)(k n:Nat):zP w (some ⟨b,off+k*4,none⟩) ((l.drop k).take n):=by
 intro i hi
 have Y5:k+i<l.length:=by rw[List.length_take,List.length_drop]at hi;omega
 obtain⟨b',kQ,e,hb,hc⟩:=h (k+i) Y5
 cases e
 refine⟨b,off+k*4,rfl,hb,fun j hj=>?_⟩
 have j8:k+j<l.length:=by rw[List.length_take,List.length_drop]at hj;omega
 rw[List.getElem_take,List.getElem_drop]
 have:=hc (k+j) j8
 rwa[show off+(k+j)*4=off+k*4+j*4 by omega]at this
structure Tg(w:World)(z4 z5 z7 z8 zc zd:Nat)(P:World→Prop)(Sz:Nat)(C:List Ob→Prop)(W:World):Prop where
 b4:W.heap[z4]? =some (.cells #[.slice none 0 0] 25)
 b5:W.heap[z5]? =some (.cells #[.int .i64 0] 29)
 b7:W.heap[z7]? =some (.cells #[.int .i64 0] 29)
 st: ∃g c L rs zl,Hid (rs.map Pl.x=L)∧W.heap[z8]? =some (.cells #[.slice g L.length c] 25)∧xt W zl (.slice g L.length c) rs∧C L∧z7<zl
 cm:mv W zc zd P
 bl:Below w.heap.size w W
 sz:Sz≤W.heap.size
theorem Tg.own{w:World}{z4 z5 z7 z8 zc zd:Nat}{P:World→Prop}{Sz:Nat}{C:List Ob→Prop}{W W':World}{row:Option Nat}(h:Tg w z4 z5 z7 z8 zc zd P Sz C W)(hzd:zd≤Sz)(hw:w.heap.size≤Sz)(hg:W.grownBy W' row)(hr: ∀r,row=some r→Sz≤r∧∃o:Obj,W.heap[r]? =some o∧o.isCells=false):Tg w z4 z5 z7 z8 zc zd P Sz C W':=by
 have qZ: ∀r,row=some r→∃o:Obj,W.heap[r]? =some o∧o.isCells=false:=fun r e=>(hr r e).2
 obtain⟨g,c,L,rs,zl,q0,q1,q2,q3,q4⟩:=h.st
 refine⟨sB hg qZ h.b4 rfl,sB hg qZ h.b5 rfl,sB hg qZ h.b7 rfl,⟨g,c,L,rs,zl,q0,sB hg qZ q1 rfl,q2.ownF hg qZ,q3,q4⟩,h.cm.next (Nat.le_trans h.cm.1 hg.size) (fun k _ hk=>?_),?_,Nat.le_trans h.sz hg.size⟩
 ·exact hg.block k (Nat.lt_of_lt_of_le hk h.cm.1) (fun e=>by have:=(hr k e.symm).1;omega)
 ·refine⟨hg.os.trans h.bl.os,hg.tape.trans h.bl.tape,hg.output.trans h.bl.output,Nat.le_trans h.bl.size hg.size,fun k hk=>(hg.block k (Nat.lt_of_lt_of_le hk h.bl.size) (fun e=>?_)).trans (h.bl.block k hk)⟩
  have:=(hr k e.symm).1;omega
theorem Tg.below{w:World}{z4 z5 z7 z8 zc zd:Nat}{P:World→Prop}{Sz:Nat}{C:List Ob→Prop}{W W':World}(h:Tg w z4 z5 z7 z8 zc zd P Sz C W)(hb:Below W.heap.size W W'):Tg w z4 z5 z7 z8 zc zd P Sz C W':=by
 obtain⟨g,c,L,rs,zl,q0,q1,q2,q3,q4⟩:=h.st
 exact⟨(hb.block _ (zG h.b4)).trans h.b4,(hb.block _ (zG h.b5)).trans h.b5,(hb.block _ (zG h.b7)).trans h.b7,⟨g,c,L,rs,zl,q0,(zA5 hb q1),q2.below hb,q3,q4⟩,h.cm.below hb,h.bl.trans (hb.mono h.bl.size),Nat.le_trans h.sz hb.size⟩
end
section
open Go.RowKit Go.Shelf
attribute [local go_sem] Oper.semAt_some
set_option maxRecDepth 100000
def mO(a b:List Ob)(w:World)(e:Ending)(w':World):Prop:=
 Below w.heap.size w w'∧((nW a b≠0∧e= .returned (.tuple #[.slice none 0 0,.int .i64 (nW a b)]))∨
  (nW a b=0∧∃v rs,e= .returned (.tuple #[v,.int .i64 0])∧rs.map Pl.x=zH b (yH a b)∧xt w' w.heap.size v rs))
theorem mO.bad{a b:List Ob}{w w':World}{r:Int}(h:nW a b=r)(h0:r≠0)(hb:Below w.heap.size w w'):mO a b w (.returned (.tuple #[.slice none 0 0,.int .i64 r])) w':=
 ⟨hb,.inl ⟨by rw[h];exact h0,by rw[h]⟩⟩
theorem NV{W:World}{z z4 z5:Nat}{x y:Value}(x' y':Value)(yM:z4≠z5)(h4:z≤z4)(h5:z≤z5)(k4:W.heap[z4]? =some (.cells #[x] 25))(k5:W.heap[z5]? =some (.cells #[y] 29)):
  ((W.setCell ⟨z4,0,none⟩ x').setCell ⟨z5,0,none⟩ y').heap[z4]? =some (.cells #[x'] 25)∧((W.setCell ⟨z4,0,none⟩ x').setCell ⟨z5,0,none⟩ y').heap[z5]? =some (.cells #[y'] 29)∧
   (∀k,k≠z4→k≠z5→((W.setCell ⟨z4,0,none⟩ x').setCell ⟨z5,0,none⟩ y').heap[k]? =W.heap[k]?)∧Below z W ((W.setCell ⟨z4,0,none⟩ x').setCell ⟨z5,0,none⟩ y')∧((W.setCell ⟨z4,0,none⟩ x').setCell ⟨z5,0,none⟩ y').heap.size=W.heap.size:=by
 have e4:=heap_setCell_same W z4 0 _ 25 x' k4
 have e5:=heap_setCell_same (W.setCell ⟨z4,0,none⟩ x') z5 0 _ 29 y' ((heap_setCell_other W ⟨z4,0,none⟩ z5 x' (fun e=>yM e.symm)).trans k5)
 refine⟨(heap_setCell_other _ ⟨z5,0,none⟩ z4 y' yM).trans e4,e5,fun k q1 q2=>?_,((Below.refl z W).setCell (p:=⟨z4,0,none⟩) h4 _).setCell (p:=⟨z5,0,none⟩) h5 _,by simp⟩
 rw[heap_setCell_other _ ⟨z5,0,none⟩ k y' q2,heap_setCell_other _ ⟨z4,0,none⟩ k x' q1]
theorem mC(tmps:Array Value)(w:World){z4 z5:Nat}{x y:Value}(h4:tmps[4]?.getD undef= .pointer (some ⟨z4,0,none⟩))(h5:tmps[5]?.getD undef= .pointer (some ⟨z5,0,none⟩))(k4:w.heap[z4]? =some (.cells #[x] 25))(k5:w.heap[z5]? =some (.cells #[y] 29)):
  (results Tryz.f74 tmps).run Tryz.prog w= .ok (.tuple #[x,y]) w:=by
 have y4:=zJ k4
 have y5:=zJ k5
 simp[results,Tryz.results74,h4,h5,asAddr,go_sem,y4,y5]
theorem Y1(a1:Option Addr)(c1:Nat)(a:List Ob)(a2:Option Addr)(c2:Nat)(b:List Ob)(w:World)(h1:zP w a1 a)(TT:a.length≤9223372036854775807)(h2:zP w a2 b)(FZ:b.length≤9223372036854775807):
  Calls Tryz.prog 74 #[.slice a1 a.length c1,.slice a2 b.length c2] w (mO a b w):=by
 obtain⟨PO,xY⟩: ∃P:Ending→World→Prop,Hid (P=mO a b w):=⟨_,rfl⟩
 rw[←xY.out]
 have hA:=zV w (.cells #[.slice none 0 0] 25) (.cells #[.int .i64 0] 29)
 obtain⟨k4,k5⟩:=ye w (.cells #[.slice none 0 0] 25) (.cells #[.int .i64 0] 29)
 have hc:=fe a1 c1 a a2 c2 b _ (h1.below hA) TT (h2.below hA) FZ
 refine(callsIn_wide (n:=6)).1 ?_
 refine callsIn_of_wp_marks Tryz.func74 rfl trivial ?_ rfl
 simp only[Tryz.ntmps74,List.size_toArray,List.length_cons,List.length_nil,Nat.reduceAdd,Nat.reduceSub,Array.replicate_succ,Array.replicate_zero,List.push_toArray,List.append_toArray,List.nil_append,List.cons_append]
 gi_wp2
 refine⟨trivial,(callsIn_wide.2 hc).mono ?_⟩
 clear hc
 rintro e w1 ⟨zM,⟨yM,rfl⟩|⟨hz,v,rs,rfl,tM,O1⟩⟩
 ·have zT:=bt hA zM
  have j4:=zA5 zM k4
  have j5:=zA5 zM k5
  have HF:Hid (∀w',Below w.heap.size w w'→PO (.returned (.tuple #[.slice none 0 0,.int .i64 (tq a b)])) w'):=fun w' hb=>by
   rw[xY.out];exact mO.bad (by unfold nW;rw[if_pos yM]) yM hb
  have q1:(tq a b != 0)=true:=by simpa using yM
  clear zM hA k4 k5 yM
  generalize tq a b=E at *
  have hA:=zB w1 (.cells #[.int .i64 E] 29)
  have m7:=heap_alloc_new w1 (.cells #[.int .i64 E] 29)
  have m4:=zA5 hA j4
  have m5:=zA5 hA j5
  have zj:=bt zT hA
  have hs7:=zG j5
  clear hA j4 j5 zT
  gi_wp2
  generalize w1.alloc (.cells #[.int .i64 E] 29)=W2 at *
  obtain⟨z4,h4⟩: ∃z,z=w.heap.size:=⟨_,rfl⟩
  obtain⟨z5,h5⟩: ∃z,z=w.heap.size+1:=⟨_,rfl⟩
  obtain⟨z7,h7⟩: ∃z,z=w1.heap.size:=⟨_,rfl⟩
  have n45:z4≠z5:=by omega
  have n47:z4≠z7:=by omega
  have n57:z5≠z7:=by omega
  rw[←h5]at m5
  rw[←h4]at m4
  rw[←h7]at m7
  rw[←h5,←h4,←h7]
  have y4:=zJ m4
  have y5:=zJ m5
  have y7:=zJ m7
  have f4:W2.frozen? ⟨z4,0,none⟩=false:=by simp[World.frozen?,m4]
  have f5:W2.frozen? ⟨z5,0,none⟩=false:=by simp[World.frozen?,m5]
  have d4:W2.drew.cell? ⟨z4,0,none⟩=some (.slice none 0 0):=y4
  have d5:W2.drew.cell? ⟨z5,0,none⟩=some (.int .i64 0):=y5
  have d7:W2.drew.cell? ⟨z7,0,none⟩=some (.int .i64 E):=y7
  have g4:W2.drew.frozen? ⟨z4,0,none⟩=false:=f4
  have g5:W2.drew.frozen? ⟨z5,0,none⟩=false:=f5
  have n54:z5≠z4:=fun e=>n45 e.symm
  have n74:z7≠z4:=fun e=>n47 e.symm
  have n75:z7≠z5:=fun e=>n57 e.symm
  obtain⟨o4,o5,_,ob,_⟩:=NV (W:=W2) (z:=w.heap.size) (.slice none 0 0) (.int .i64 E) n45 (by omega) (by omega) m4 m5
  have HB:Hid (Below w.heap.size w ((W2.setCell ⟨z4,0,none⟩ (.slice none 0 0)).setCell ⟨z5,0,none⟩ (.int .i64 E)).drew):=(zj.trans (ob.mono (Nat.le_refl _))).drew
  clear ob h4 h5 h7
  gi_region
  gi_wp2
  refine⟨_,mC _ _ rfl rfl o4 o5,?_⟩
  exact HF.out _ HB.out
 ·have zT:=bt hA zM
  have j4:=zA5 zM k4
  have j5:=zA5 zM k5
  obtain⟨b0,d0,rfl⟩:=qA tM O1
  have D1:=O1.dep tM
  have GB:(yH a b).length≤d0:=by
   obtain⟨a',c',q,_,q2⟩:=O1.reads
   rw[tM]at q
   cases q
   have:=congrArg List.length tM
   rw[List.length_map]at this
   omega
  have HZ:Hid (tq a b=0):=hz
  have hsA:((w.alloc (.cells #[.slice none 0 0] 25)).alloc (.cells #[.int .i64 0] 29)).heap.size=w.heap.size+2:=by simp
  have ZQ:=zM.size
  rw[hsA]at D1 ZQ
  obtain⟨CG,sP,_⟩:=kW.1 hz
  have hal:=(yF CG).1
  have aY:=(yF sP).1
  have hml:=th a b
  clear zM hA k4 k5 O1 tM hsA hz
  obtain⟨M,hM⟩: ∃M,M=yH a b:=⟨_,rfl⟩
  have HM:Hid (M=yH a b):=hM
  rw[←hM]at D1 GB hml⊢
  clear hM
  have hA:=zB w1 (.cells #[.int .i64 0] 29)
  have m7:=heap_alloc_new w1 (.cells #[.int .i64 0] 29)
  have m4:=zA5 hA j4
  have m5:=zA5 hA j5
  have D2:=D1.below hA
  have zj:=bt zT hA
  have mx:(w1.alloc (.cells #[.int .i64 0] 29)).heap.size=w1.heap.size+1:=by simp
  have ri:IntKind.i64.wrap ((b.length:Int)+(M.length:Int))=(b.length:Int)+(M.length:Int):=by rw[IntKind.wrap_i64];omega
  by_cases hL:40<b.length+M.length
  ·have hq:(40:Int)<(b.length:Int)+(M.length:Int):=by omega
   have HF:Hid (∀w',Below w.heap.size w w'→PO (.returned (.tuple #[.slice none 0 0,.int .i64 2])) w'):=fun w' hb=>by
    rw[xY.out]
    refine mO.bad ?_ (by decide) hb
    unfold nW
    rw[if_neg (fun e=>e HZ.out),if_pos (by rw[←HM.out];exact hL)]
   have n45:w.heap.size≠w.heap.size+1:=by omega
   obtain⟨o4,o5,_,ob,_⟩:=NV (z:=w.heap.size) (.slice none 0 0) (.int .i64 2) n45 (Nat.le_refl _) (by omega) m4 m5
   have HB:Hid (Below w.heap.size w _):=zj.trans (ob.mono (Nat.le_refl _))
   have y4:=zJ m4
   have y5:=zJ m5
   have y7:=zJ m7
   have f4:=zF (o:=0) m4
   have f5:=zF (o:=0) m5
   clear ob mx D2 D1 hA j4 j5 m4 m5 m7 hL
   gi_wp2
   refine⟨_,mC _ _ rfl rfl o4 o5,?_⟩
   exact HF.out _ HB.out
  ·have hq: ¬(40:Int)<(b.length:Int)+(M.length:Int):=by omega
   have HL:Hid (b.length+M.length≤40):=Nat.le_of_not_lt hL
   have HB0:Hid (zK a=0∧zK b=0):=⟨CG,sP⟩
   have y7:=zJ m7
   have hc:=qT a2 c2 b _ (h2.below zj) (by omega) (fun x hx=>ui (vE sP x hx))
   have Rg:=zG m4
   clear D1 hA j4 j5 zT CG sP hL
   gi_wp2
   generalize w1.alloc (.cells #[.int .i64 0] 29)=W2 at *
   refine⟨trivial,(callsIn_wide.2 hc).mono ?_⟩
   clear hc y7
   rintro e w3 ⟨v8,rs8,rfl,EL,O8,yT⟩
   obtain⟨g8,c8,rfl⟩:=qA EL O8
   have i4:=zA5 yT m4
   have i5:=zA5 yT m5
   have i7:=zA5 yT m7
   have D3:=D2.below yT
   have xL:=bt zj yT
   have dJ:=yT.size
   clear yT m4 m5 m7 D2 zj
   have hA:=zB w3 (.cells #[.slice g8 b.length c8] 25)
   have k8:=heap_alloc_new w3 (.cells #[.slice g8 b.length c8] 25)
   have k4:=zA5 hA i4
   have k5:=zA5 hA i5
   have k7:=zA5 hA i7
   have O9:=O8.below hA
   have D4:=D3.below hA
   have xZ:=bt xL hA
   have hs5:(w3.alloc (.cells #[.slice g8 b.length c8] 25)).heap.size=w3.heap.size+1:=by simp
   clear hA i4 i5 i7 D3 xL O8
   gi_wp2
   generalize w3.alloc (.cells #[.slice g8 b.length c8] 25)=W4 at *
   refine⟨trivial,(Ns 5 _ _ _ _).mono ?_⟩
   rintro e W6 ⟨rfl,rfl⟩
   have hA:=zV W4 (.cells #[.slice b0 M.length d0] 25) (.cells #[.int .i64 12] 3)
   obtain⟨kBs,kBn⟩:=ye W4 (.cells #[.slice b0 M.length d0] 25) (.cells #[.int .i64 12] 3)
   have l4:=zA5 hA k4
   have l5:=zA5 hA k5
   have l7:=zA5 hA k7
   have l8:=zA5 hA k8
   have O10:=O9.below hA
   have D5:=D4.below hA
   have su:=bt xZ hA
   have hs6:((W4.alloc (.cells #[.slice b0 M.length d0] 25)).alloc (.cells #[.int .i64 12] 3)).heap.size=w3.heap.size+3:=by simp[hs5]
   clear hA k4 k5 k7 k8 O9 D4 xZ
   generalize (W4.alloc (.cells #[.slice b0 M.length d0] 25)).alloc (.cells #[.int .i64 12] 3)=W6 at *
   rw[hs5]at kBs kBn⊢
   obtain⟨bM,QV,hbM⟩: ∃bM QV,0<M.length→b0=some ⟨bM,QV,none⟩:=by
    by_cases h0:0<M.length
    ·obtain⟨b',kQ,e,_⟩:=(D5.here).1 0 h0
     exact⟨b',kQ,fun _=>e⟩
    ·exact⟨0,0,fun e=>absurd e h0⟩
   have HbM:Hid (0<M.length→b0=some ⟨bM,QV,none⟩):=hbM
   have yBs:=zJ kBs
   have yBn:=zJ kBn
   have LD:Hid (w.heap.size+2≤w1.heap.size∧W2.heap.size=w1.heap.size+1∧w1.heap.size+1≤w3.heap.size∧W6.heap.size=w3.heap.size+3):=⟨ZQ,mx,by omega,hs6⟩
   have hT0:Tg w w.heap.size (w.heap.size+1) w1.heap.size w3.heap.size (w.heap.size+2) w1.heap.size (fun W=>zP W b0 M∧rT W b0 M) (w3.heap.size+3) (fun L=>qB ([]:List (aU M.length))→L=zH b (M.take (([]:List (aU M.length)).length*12))) W6:=by
    exact⟨l4,l5,l7,⟨g8,c8,b,rs8,W2.heap.size,EL,l8,O10,fun _=>rfl,by omega⟩,D5,su,by omega⟩
   have zBQ:M.length≤1000:=by omega
   clear hbM l4 l5 l7 l8 O10 D5 su kBs kBn EL ZQ mx dJ Rg hs5 hs6 hq ri
   gi_wp2
   refine wpIn_rangeFunc_ownH (F:=Fence.wide) rfl (by omega) (gf:=187) (lb:=#[.pointer (some ⟨w3.heap.size+1,0,none⟩),.pointer (some ⟨w3.heap.size+1+1,0,none⟩)]) rfl trivial (enters_of Tryz.func187 (by kernel_rfl) rfl)
    (Wz 5 (by omega) (w3.heap.size+1) (w3.heap.size+1+1) w.heap.size bM QV M.length d0 b0 HbM.out GB zBQ W6 (by have:=LD.out;omega) (by have:=LD.out;omega) (by have:=LD.out;omega) yBs yBn) pL.trans (pL.book (by have:=LD.out;omega) (by have:=LD.out;omega) (by have:=LD.out;omega)) (Below.refl _ _) (fun _=>rfl)
    (fun pre W=>Tg w w.heap.size (w.heap.size+1) w1.heap.size w3.heap.size (w.heap.size+2) w1.heap.size (fun W=>zP W b0 M∧rT W b0 M) (w3.heap.size+3) (fun L=>qB pre→L=zH b (M.take (pre.length*12))) W)
    (fun _ pre _=>¬qB pre)
    (fun pre W W' row hs hg hr=>hs.own (by have:=LD.out;omega) (by have:=LD.out;omega) hg (fun r e=>⟨by have:=(hr r e).1;have:=LD.out;omega,(hr r e).2⟩))
    (fun _ _ _ _ _ hs _ _=>hs)
    hT0
    (fun x a' W=>a'={tmps:=#[.slice a1 a.length c1,.slice a2 b.length c2,undef,undef,.pointer (some ⟨w.heap.size,0,none⟩),.pointer (some ⟨w.heap.size+1,0,none⟩),.slice b0 M.length d0,.pointer (some ⟨w1.heap.size,0,none⟩),.pointer (some ⟨w3.heap.size,0,none⟩),
     .slice (some ⟨bM,QV+x.1*12*4,none⟩) (min 12 (M.length-x.1*12)) (min 12 (M.length-x.1*12)),.tuple #[.slice b0 M.length d0,.int .i64 0],.slice a1 a.length c1,.slice a2 b.length c2,.tuple #[.slice b0 M.length d0,.int .i64 0],.slice b0 M.length d0,.int .i64 0,.int .i64 0,.bool false,undef,
     .slice a2 b.length c2,.int .i64 (b.length:Int),.slice b0 M.length d0,.int .i64 (M.length:Int),.int .i64 ((b.length:Int)+(M.length:Int)),.bool (decide ((40:Int)<(b.length:Int)+(M.length:Int))),.slice a2 b.length c2,.slice g8 b.length c8,.slice b0 M.length d0,
     .func (.func 187) #[] #[.pointer (some ⟨w3.heap.size+1,0,none⟩),.pointer (some ⟨w3.heap.size+1+1,0,none⟩)],.slice (some ⟨bM,QV+x.1*12*4,none⟩) (min 12 (M.length-x.1*12)) (min 12 (M.length-x.1*12)),undef,undef,undef,undef,undef,undef,undef,undef,undef,undef],defers:=[]})
    (fun _ _ _ _ _ _ hs _ _=>hs) ?assign ?body ?done ?stop
   case assign=>
    rintro lp pre x W K hi hK
    simp only[aU.vals]
    gi_wp2
    exact hK _ _ (KeepsFrom.refl _ _) ⟨Below.refl _ _,rfl,rfl⟩ hi rfl
   case body=>
    rintro lp pre x a' W Gg ⟨rr,hrr⟩ hI rfl sZ
    obtain⟨g,c,L,rs,zl,q0,q1,q2,q3,q4⟩:=hI.st
    have hx:=x.2
    have sP:=HbM.out (by omega)
    have hHM:=(hI.cm.here).1
    rw[sP]at hHM
    have hHC:=hHM.part (x.1*12) 12
    have rg:((M.drop (x.1*12)).take 12).length=min 12 (M.length-x.1*12):=by rw[List.length_take,List.length_drop]
    have hL9:L.length≤9223372036854775807:=by rw[←q0.out,List.length_map];exact q2.len
    have hHL:zP W g L:=xt.list q0.out q2
    have vd:=ZN g c L _ (min 12 (M.length-x.1*12)) ((M.drop (x.1*12)).take 12) W hHL hL9 hHC (by rw[rg];omega)
    rw[rg]at vd
    have y8:=zJ q1
    have HC:Hid (qB (pre++[x])→xD L ((M.drop (x.1*12)).take 12)=0∧zH L ((M.drop (x.1*12)).take 12)=zH b (M.take ((pre++[x]).length*12))):=by
     intro hi
     obtain⟨h1,h2⟩:=qB.last hi
     obtain⟨e1,e2⟩:=Ta HB0.out.1 HB0.out.2 ((kW.1 HZ.out).2.2) (by rw[←HM.out];exact HL.out) (pre.length*12) 12 (Nat.le_refl _)
     rw[←HM.out]at e1 e2
     rw[q3 h1,h2]
     refine⟨e1,?_⟩
     rw[e2,List.length_append,List.length_singleton]
     congr 2;omega
    generalize ((M.drop (x.1*12)).take 12)=C at *
    generalize (min 12 (M.length-x.1*12))=nC at *
    clear hHC hHL rg hHM hL9 q3 hx sP hT0
    gi_wp2
    refine⟨trivial,(CallsIn.inRound lp (callsIn_wide.2 vd)).mono ?_⟩
    clear vd
    have KO:=LD.out
    have n87:w3.heap.size≠w1.heap.size:=by omega
    have n78:w1.heap.size≠w3.heap.size:=by omega
    rintro e W1 ⟨zM,⟨yM,rfl⟩|⟨hz,a',c',rfl,MT,NA,DG,rs',jZ,O'⟩⟩
    ·have p4:=(zM.block _ (zG hI.b4)).trans hI.b4
     have p5:=(zM.block _ (zG hI.b5)).trans hI.b5
     have p7:=(zM.block _ (zG hI.b7)).trans hI.b7
     have p8:=zA5 zM q1
     have K1:KeepsOthers W W1:=⟨zM.size,fun k o hk _=>(zM.block k (zG hk)).trans hk⟩
     have HNI:Hid (¬qB (pre++[x])):=fun hi=>yM (HC.out hi).1
     clear HC
     generalize xD L C=E at *
     have x8:=zJ p8
     have x7:=zJ p7
     have f8:=zF (o:=0) p8
     have f7:=zF (o:=0) p7
     obtain⟨o8,o7,TX,ob,Kr⟩:=NV (z:=0) (.slice none 0 0) (.int .i64 E) n87 (Nat.zero_le _) (Nat.zero_le _) p8 p7
     have o4:=(TX w.heap.size (by omega) (by omega)).trans p4
     have o5:=(TX (w.heap.size+1) (by omega) (by omega)).trans p5
     have K2:KeepsOthers W ((W1.setCell ⟨w3.heap.size,0,none⟩ (.slice none 0 0)).setCell ⟨w1.heap.size,0,none⟩ (.int .i64 E)):=K1.trans ((KeepsOthers.setCell _ _ _).trans (KeepsOthers.setCell _ _ _))
     have hE:(E != 0)=true:=by simpa using yM
     have n45:w.heap.size≠w.heap.size+1:=by omega
     have n54:w.heap.size+1≠w.heap.size:=by omega
     have n47:w.heap.size≠w1.heap.size:=by omega
     have n74:w1.heap.size≠w.heap.size:=by omega
     have n57:w.heap.size+1≠w1.heap.size:=by omega
     have n75:w1.heap.size≠w.heap.size+1:=by omega
     clear p4 p5 p7 p8 zM q1 q2 hI K1 ob Kr TX y8 yM KO
     gi_wp2
     generalize ((W1.setCell ⟨w3.heap.size,0,none⟩ (.slice none 0 0)).setCell ⟨w1.heap.size,0,none⟩ (.int .i64 E))=W3 at *
     clear x8 x7 f8 f7
     have y4:=zJ o4
     have y5:=zJ o5
     have y7:=zJ o7
     have f4:=zF (o:=0) o4
     have f5:=zF (o:=0) o5
     have d4:W3.drew.cell? ⟨w.heap.size,0,none⟩=some (.slice none 0 0):=y4
     have d5:W3.drew.cell? ⟨w.heap.size+1,0,none⟩=some (.int .i64 0):=y5
     have d7:W3.drew.cell? ⟨w1.heap.size,0,none⟩=some (.int .i64 E):=y7
     have g4:W3.drew.frozen? ⟨w.heap.size,0,none⟩=false:=f4
     have g5:W3.drew.frozen? ⟨w.heap.size+1,0,none⟩=false:=f5
     have K3:KeepsOthers W ((W3.setCell ⟨w.heap.size,0,none⟩ (.slice none 0 0)).setCell ⟨w.heap.size+1,0,none⟩ (.int .i64 E)):=K2.trans ((KeepsOthers.setCell _ _ _).trans (KeepsOthers.setCell _ _ _))
     gi_region
     gi_wp2
     all_goals exact⟨⟨K3.size,fun k o _ hk ho=>K3.same k o hk ho⟩,HNI.out⟩
    ·have p4:=(zM.block _ (zG hI.b4)).trans hI.b4
     have p5:=(zM.block _ (zG hI.b5)).trans hI.b5
     have p7:=(zM.block _ (zG hI.b7)).trans hI.b7
     have p8:=zA5 zM q1
     have K1:KeepsOthers W W1:=⟨zM.size,fun k o hk _=>(zM.block k (zG hk)).trans hk⟩
     have eO:=hI.bl.trans (zM.mono hI.bl.size)
     have hDp:=hI.cm.below zM
     have zHF:=hI.sz
     have Qz:Hid (qB (pre++[x])→zH L C=zH b (M.take ((pre++[x]).length*12))):=fun hi=>(HC.out hi).2
     clear HC hz DG
     generalize zH L C=L' at *
     have ZQ:=zM.size
     have x8:=zJ p8
     have x7:=zJ p7
     have f8:=zF (o:=0) p8
     have f7:=zF (o:=0) p7
     obtain⟨o8,o7,TX,ob,Kr⟩:=NV (z:=w1.heap.size) (.slice a' L'.length c') (.int .i64 0) n87 (by omega) (Nat.le_refl _) p8 p7
     have o4:=(TX w.heap.size (by omega) (by omega)).trans p4
     have o5:=(TX (w.heap.size+1) (by omega) (by omega)).trans p5
     have K2:KeepsOthers W ((W1.setCell ⟨w3.heap.size,0,none⟩ (.slice a' L'.length c')).setCell ⟨w1.heap.size,0,none⟩ (.int .i64 0)):=K1.trans ((KeepsOthers.setCell _ _ _).trans (KeepsOthers.setCell _ _ _))
     have O2:=O'.keep (w':=(W1.setCell ⟨w3.heap.size,0,none⟩ (.slice a' L'.length c')).setCell ⟨w1.heap.size,0,none⟩ (.int .i64 0)) (by rw[Kr];exact Nat.le_refl _) (fun k hk=>TX k (by omega) (by omega))
     have hDq:mv ((W1.setCell ⟨w3.heap.size,0,none⟩ (.slice a' L'.length c')).setCell ⟨w1.heap.size,0,none⟩ (.int .i64 0)) (w.heap.size+2) w1.heap.size (fun W=>zP W b0 M∧rT W b0 M):=hDp.next (by rw[Kr];exact hDp.1) (fun k a b=>TX k (by omega) (by omega))
     have hKC:pL w.heap.size (w3.heap.size+1) (w3.heap.size+1+1) W ((W1.setCell ⟨w3.heap.size,0,none⟩ (.slice a' L'.length c')).setCell ⟨w1.heap.size,0,none⟩ (.int .i64 0)):=
      ⟨(zM.mono (by omega)).trans (ob.mono (by omega)),(TX _ (by omega) (by omega)).trans (zM.block _ (by omega)),(TX _ (by omega) (by omega)).trans (zM.block _ (by omega))⟩
     have hT:Hid (Tg w w.heap.size (w.heap.size+1) w1.heap.size w3.heap.size (w.heap.size+2) w1.heap.size (fun W=>zP W b0 M∧rT W b0 M) (w3.heap.size+3) (fun L=>qB (pre++[x])→L=zH b (M.take ((pre++[x]).length*12))) ((W1.setCell ⟨w3.heap.size,0,none⟩ (.slice a' L'.length c')).setCell ⟨w1.heap.size,0,none⟩ (.int .i64 0))):=by
      refine⟨o4,o5,o7,⟨a',c',L',rs',W.heap.size,jZ,o8,O2,Qz.out,by omega⟩,hDq,eO.trans (ob.mono (by omega)),by rw[Kr];omega⟩
     have HK:Hid (_∧_):=⟨K2,hKC⟩
     clear p4 p5 p7 p8 zM q1 q2 hI K1 ob Kr TX y8 KO O2 hDq hKC K2 o4 o5 o7 o8 eO hDp O' MT NA jZ Qz ZQ zHF
     gi_wp2
     exact⟨HK.out.1.from _,HK.out.2,hT.out⟩
   case done=>
    rintro D ys W hD hS hI hK
    obtain⟨g,c,L,rs,zl,q0,q1,q2,q3,q4⟩:=hI.st
    have KO:=LD.out
    have hL:rs.map Pl.x=zH b (yH a b):=by
     rw[q0.out,q3 hS.1,List.take_of_length_le hS.2,HM.out]
    have y8:=zJ q1
    have y4:=zJ hI.b4
    have y5:=zJ hI.b5
    have f4:=zF (o:=0) hI.b4
    have f5:=zF (o:=0) hI.b5
    have n45:w.heap.size≠w.heap.size+1:=by omega
    obtain⟨o4,o5,TX,ob,Kr⟩:=NV (z:=w.heap.size) (.slice g L.length c) (.int .i64 0) n45 (Nat.le_refl _) (by omega) hI.b4 hI.b5
    have O2:=q2.keep (w':=(W.setCell ⟨w.heap.size,0,none⟩ (.slice g L.length c)).setCell ⟨w.heap.size+1,0,none⟩ (.int .i64 0)) (by rw[Kr];exact Nat.le_refl _) (fun k hk=>TX k (by omega) (by omega))
    have hK2:=(TX D (by omega) (by omega)).trans hK
    have eO:=hI.bl.trans (ob.mono (Nat.le_refl _))
    have Nw:=grownBy_putObj' ((W.setCell ⟨w.heap.size,0,none⟩ (.slice g L.length c)).setCell ⟨w.heap.size+1,0,none⟩ (.int .i64 0)) D (.deferred none)
    have r4:=(Nw.block _ (zG o4) (fun e=>by cases e;omega)).trans o4
    have r5:=(Nw.block _ (zG o5) (fun e=>by cases e;omega)).trans o5
    have O3:=O2.ownF Nw (fun r e=>by cases e;exact⟨_,hK2,rfl⟩)
    have zHW:Hid (PO (.returned (.tuple #[.slice g L.length c,.int .i64 0])) (((W.setCell ⟨w.heap.size,0,none⟩ (.slice g L.length c)).setCell ⟨w.heap.size+1,0,none⟩ (.int .i64 0)).putObj D (.deferred none))):=by
     unfold Hid
     rw[xY.out]
     refine⟨eO.grown Nw eO.size (fun k e=>by cases e;omega),.inr ⟨ay.2 ⟨HZ.out,by rw[←HM.out];exact HL.out⟩,_,rs,rfl,hL,O3.from (by omega)⟩⟩
    clear O3 O2 Nw eO ob TX Kr q1 q2 q3 hL hI hS KO hT0
    gi_wp2
    refine⟨by simp,.inl ⟨_,_,rfl,run_takeDeferred hK2,?_⟩⟩
    refine⟨_,mC _ _ rfl rfl r4 r5,?_⟩
    exact zHW.out
   case stop=>
    rintro D c pre W _ hS hI _
    exact absurd hS hI
end
end Go.Proofs.YtehmlpkapjdhkaaGreatDoor
