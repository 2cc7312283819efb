import Derived.Test.YtehmlpkapjdhkaaGreatDoorMO
namespace Go.Proofs.YtehmlpkapjdhkaaGreatDoor
set_option maxHeartbeats 16000000
open Go.RowKit
set_option maxRecDepth 100000
theorem GD(n:Int):ur n 0 7=un n:=by
 unfold ur un
 by_cases h1:0≤n
 ·by_cases h2:n<8
  ·rw[decide_eq_true h1,decide_eq_true h2,decide_eq_true ⟨h1,by omega⟩];rfl
  ·rw[decide_eq_true h1,decide_eq_false h2,decide_eq_false (fun e=>h2 (by omega))];rfl
 ·rw[decide_eq_false h1,decide_eq_false (fun e=>h1 e.1)];rfl
abbrev cells3(vs:Nat→ByteArray):Array Value:=#[.string (vs 0),.string (vs 1),.string (vs 2)]
theorem Tb{vs:Nat→ByteArray}{k:Nat}(hk:k<3)(v:ByteArray):(cells3 vs).setIfInBounds k (.string v)=cells3 (jf vs k v):=by
 have:k=0∨k=1∨k=2:=by omega
 rcases this with rfl|rfl|rfl<;>simp[cells3,jf]
theorem kS{vs:Nat→ByteArray}{k:Nat}(hk:k<3):(cells3 vs)[k]? =some (.string (vs k)):=by
 have:k=0∨k=1∨k=2:=by omega
 rcases this with rfl|rfl|rfl<;>rfl
theorem cK{W:World}{base g cap c n:Nat}{xs:List Value}(h:W.ownsRow base 36 7 (.slice (some ⟨g,0,none⟩) c cap) n xs):(∃cur,W.heap[g]? =some (.cells cur 36))∧base≤g∧c≤cap∧cap≤9223372036854775807:=by
 obtain⟨_,⟨e,_⟩|⟨g',ux,cur,e,hb,hg,SK,hc,hs,ht⟩⟩:=h
 ·cases e
 cases e
 exact⟨⟨cur,hg⟩,hb,SK,by unfold maxLen at hc;omega⟩
theorem MM{R:Nat→Rp}{k:Nat}(hk:k<3)(x:Rp):(l3 R).set k x=l3 (fun i=>if i=k then x else R i):=by
 have:k=0∨k=1∨k=2:=by omega
 rcases this with rfl|rfl|rfl<;>simp[l3]
def MG(P:Nat→Prop)(L:List Rp)(m:List Ob)(us:List Up)(f:Bool)(up late:Int)(w:World)(e:Ending)(w':World):Prop:=
 Below w.heap.size w w'∧((pE L m us f up late≠0∧e= .returned (.tuple #[.agg #[.slice none 0 0],.bool false,.int .i64 (pE L m us f up late)]))∨
  (pE L m us f up late=0∧∃B cap qs,e= .returned (.tuple #[.agg #[.slice (some ⟨B,0,none⟩) 3 cap],.bool (mb L m us f up late),.int .i64 0])∧qs.map Rq.r=eL L m us f up late∧xO P w' (some ⟨B,0,none⟩) qs))
theorem Us(P:Nat→Prop)(a:Option Addr)(c:Nat)(l:List Rq)(am:Option Addr)(cm:Nat)(m:List Ob)(au:Option Addr)(cu:Nat)(us:List Up)(f:Bool)(up late:Int)(w:World)(hP: ∀k,P k→k<w.heap.size)(h:xO P w a l)(h3:l.length=3)(hC:zi (l.map Rq.r)=0)(hm:ym P w am m)(hml:m.length≤9223372036854775807)(hu:zx w au us)(hul:us.length≤9223372036854775807):
  Calls Tryz.prog 148 #[.agg #[.slice a 3 c],uw am m.length cm au us.length cu f,.int .i64 up,.int .i64 late] w (MG P (l.map Rq.r) m us f up late w):=by
 obtain⟨L,hL⟩: ∃L,L=l.map Rq.r:=⟨_,rfl⟩
 rw[←hL]at hC⊢
 have NN:Hid (∀k (h:k<l.length),yq L k=l[k].r):=fun k hk=>by
  rw[hL];simp[yq,hk]
 have Cs:Hid (l.map Rq.r=L):=hL.symm
 obtain⟨PO,xY⟩: ∃PP:Ending→World→Prop,Hid (PP=MG P L m us f up late w):=⟨_,rfl⟩
 rw[←xY.out]
 have eQ:Hid (∀k,P k→k<w.heap.size):=hP
 have HC:Hid (zi L=0):=hC
 have Lj:Hid (∀i,i<3→(yq L i).err=0):=(yr.1 hC).2.1
 have Ro:Hid (pE L m us f up late=if zr m us≠0 then zr m us else if(un up&&un late)=true then(if(mh L m us f up late 0||mh L m us f up late 1||mh L m us f up late 2)=true then 2 else 0)else 3):=Fh hC
 have nJ:Hid (l.length=3):=h3
 obtain⟨b,off,rfl⟩:=h.plain.some (by omega)
 obtain⟨kC,kP,kR,hB⟩:=xN w (.cells #[.slice (some ⟨b,off,none⟩) 3 c] 24) (.cells #[.slice am m.length cm,.slice au us.length cu,.bool f] 28) (.cells #[.slice none 0 0] 24)
 have ec:=hm.plain.below hB
 have eM:=hu.below hB
 have Vf:=Rj am cm m au cu us f _ ec hml eM hul
 rw[LE dO]at Vf
 have Hh:Hid (m.length≤9223372036854775807):=hml
 have J8:Hid (us.length≤9223372036854775807):=hul
 have hR:=zG kR
 obtain⟨BC,ET⟩: ∃p,p=w.heap.size:=⟨_,rfl⟩
 obtain⟨BP,hBP⟩: ∃p,p=w.heap.size+1:=⟨_,rfl⟩
 obtain⟨R,SI⟩: ∃p,p=w.heap.size+2:=⟨_,rfl⟩
 have Es:Hid (w.heap.size≤BC∧BC<R∧BP<R∧w.heap.size≤R):=by unfold Hid;omega
 clear hL hP hC h3 hml hul ec eM
 go_enter Tryz.func148,Tryz.ntmps148
 go_upto_region 1 with fail
 rw[←ET]at kC
 rw[←hBP]at kP
 rw[←SI]at kR hR
 rw[←SI,←hBP,←ET]
 clear ET hBP SI
 generalize ((w.alloc (.cells #[.slice (some ⟨b,off,none⟩) 3 c] 24)).alloc (.cells #[.slice am m.length cm,.slice au us.length cu,.bool f] 28)).alloc (.cells #[.slice none 0 0] 24)=W0 at *
 have UD:w.heap.size≤R:=Es.out.2.2.2
 -- the error's end
 have vF:Hid (∀E,pE L m us f up late=E→E≠0→∀W',Below w.heap.size w W'→PO (.returned (.tuple #[.agg #[.slice none 0 0],.bool false,.int .i64 E])) W'):=fun E h1 h2 W' hb=>by
  rw[xY.out]
  exact⟨hb,.inl ⟨by rw[h1];exact h2,by rw[h1]⟩⟩
 obtain⟨y0,y1,y2⟩:=zQ kP
 go_wp2_with fail
 refine Vf.mono ?_
 clear Vf y0 y1 y2
 rintro e W1 ⟨rfl,zM⟩
 have zT:=bt hB zM
 have jC:=zA5 zM kC
 have jP:=zA5 zM kP
 have jR:=zA5 zM kR
 clear kC kP kR zM hB hR
 obtain⟨z,hz⟩: ∃z,z=zr m us:=⟨_,rfl⟩
 rw[←hz]at Ro⊢
 have HZ:Hid (zr m us=z):=hz.symm
 clear hz
 by_cases sW:z=0
 case neg=>
  have f1:(z==0)=false:=by simpa using sW
  have f2:(z != 0)=true:=by simpa using sW
  have HE:Hid (∀W',Below w.heap.size w W'→PO (.returned (.tuple #[.agg #[.slice none 0 0],.bool false,.int .i64 z])) W'):=vF.out z (by rw[Ro.out,if_pos sW]) sW
  have g2:=zF (o:=0) jR
  have o2:=zJ jR
  have i0:=zJ (xb (u:=.slice none 0 0) jR)
  have HB:Hid (Below w.heap.size w (W1.setCell ⟨R,0,none⟩ (.slice none 0 0))):=zT.setCell UD _
  clear jC jP jR zT sW vF Ro
  go_wp2
  refine bodyPost_ret (v:=.tuple #[.agg #[.slice none 0 0],.bool false,.int .i64 z]) (by simp[results,Tryz.results148,go_sem,i0]) rfl ?_
  exact HE.out _ HB.out
 subst sW
 have Qn:Hid (pE L m us f up late=if(un up&&un late)=true then(if(mh L m us f up late 0||mh L m us f up late 1||mh L m us f up late 2)=true then 2 else 0)else 3):=by unfold Hid;rw[Ro.out,if_neg (by decide)]
 clear Ro
 go_wp2_with fail
 refine(yg up 0 7 W1).mono ?_
 rintro e w1 ⟨rfl,ri⟩
 rw[ri,GD]
 clear ri w1
 cases bu:un up with
 |false=>
  have HE:Hid (∀W',Below w.heap.size w W'→PO (.returned (.tuple #[.agg #[.slice none 0 0],.bool false,.int .i64 3])) W'):=vF.out 3 (by rw[Qn.out,bu];rfl) (by decide)
  have g2:=zF (o:=0) jR
  have o2:=zJ jR
  have i0:=zJ (xb (u:=.slice none 0 0) jR)
  have HB:Hid (Below w.heap.size w (W1.setCell ⟨R,0,none⟩ (.slice none 0 0))):=zT.setCell UD _
  clear jC jP jR zT vF Qn
  go_wp2
  refine bodyPost_ret (v:=.tuple #[.agg #[.slice none 0 0],.bool false,.int .i64 3]) (by simp[results,Tryz.results148,go_sem,i0]) rfl ?_
  exact HE.out _ HB.out
 |true=>
 go_wp2_with fail
 refine(yg late 0 7 W1).mono ?_
 rintro e w1 ⟨rfl,ri⟩
 rw[ri,GD]
 clear ri w1
 cases bl:un late with
 |false=>
  have HE:Hid (∀W',Below w.heap.size w W'→PO (.returned (.tuple #[.agg #[.slice none 0 0],.bool false,.int .i64 3])) W'):=vF.out 3 (by rw[Qn.out,bu,bl];rfl) (by decide)
  have g2:=zF (o:=0) jR
  have o2:=zJ jR
  have i0:=zJ (xb (u:=.slice none 0 0) jR)
  have HB:Hid (Below w.heap.size w (W1.setCell ⟨R,0,none⟩ (.slice none 0 0))):=zT.setCell UD _
  clear jC jP jR zT vF Qn
  go_wp2
  refine bodyPost_ret (v:=.tuple #[.agg #[.slice none 0 0],.bool false,.int .i64 3]) (by simp[results,Tryz.results148,go_sem,i0]) rfl ?_
  exact HE.out _ HB.out
 |true=>
 have G6:Hid (pE L m us f up late=if(mh L m us f up late 0||mh L m us f up late 1||mh L m us f up late 2)=true then 2 else 0):=by unfold Hid;rw[Qn.out,bu,bl];rfl
 obtain⟨GP,hu8⟩:0≤up∧up<8:=by simpa[un]using bu
 obtain⟨Dx,hl8⟩:0≤late∧late<8:=by simpa[un]using bl
 clear Qn bu bl
 have hA:=zB W1 (.cells #[.string ⟨#[]⟩,.string ⟨#[]⟩,.string ⟨#[]⟩] 9)
 have kV:=heap_alloc_new W1 (.cells #[.string ⟨#[]⟩,.string ⟨#[]⟩,.string ⟨#[]⟩] 9)
 have zj:=bt zT hA
 have nC:=zA5 hA jC
 have nP:=zA5 hA jP
 have nR:=zA5 hA jR
 have hlC:=zG jC
 have hlP:=zG jP
 have hlR:=zG jR
 clear jC jP jR zT
 go_upto_region 7 with fail
 obtain⟨V,hV⟩: ∃V,V=W1.heap.size:=⟨_,rfl⟩
 rw[←hV]at kV hlC hlP hlR⊢
 generalize W1.alloc (.cells #[.string ⟨#[]⟩,.string ⟨#[]⟩,.string ⟨#[]⟩] 9)=W2 at *
 have hVz:w.heap.size≤V:=by omega
 have Ea:Hid (w.heap.size≤V∧BC<V∧BP<V∧R<V∧V<W2.heap.size):=⟨hVz,hlC,hlP,hlR,zG kV⟩
 clear hA hV
 obtain⟨v0,hv0⟩: ∃v:Nat→ByteArray,v=fun _=>yJ:=⟨_,rfl⟩
 have HV0:Hid (∀j,j<3→(j<0→uq (v0 j) (vI L m us f up j))∧(0≤j→v0 j=yJ)):=fun j _=>⟨fun e=>absurd e (Nat.not_lt_zero _),fun _=>by rw[hv0]⟩
 have kV0:W2.heap[V]? =some (.cells (cells3 v0) 9):=by rw[hv0];exact kV
 clear hv0 kV
 go_wp2_with fail
 go_loopw [13] (fun i wr=>∃(k:Nat) (vs:Nat→ByteArray),i= .int .i64 k∧k≤3∧wr.heap[V]? =some (.cells (cells3 vs) 9)∧Hid (∀j,j<3→(j<k→uq (vs j) (vI L m us f up j))∧(k≤j→vs j=yJ))∧Below V W2 wr) (fun i _=>3-(intOf i).toNat)
 case atStart=>exact⟨0,v0,rfl,Nat.zero_le _,kV0,HV0,Below.refl _ _⟩
 case round=>
  clear kV0 HV0
  obtain⟨k,vs,rfl,hk,kV,HV,GJ⟩:=hrel
  have vH:=zj.trans (GJ.mono hVz)
  have rC:=(GJ.block _ Ea.out.2.1).trans nC
  have rP:=(GJ.block _ Ea.out.2.2.1).trans nP
  have rR:=(GJ.block _ Ea.out.2.2.2.1).trans nR
  by_cases tv:k=3
  case pos=>
   have hkI: ¬(k:Int)<3:=by omega
   have FE:Hid (∀j,j<3→uq (vs j) (vI L m us f up j)):=fun j hj=>(HV.out j hj).1 (by omega)
   have hT:rp wr (some ⟨V,0,none⟩) [vs 0,vs 1,vs 2]:=fun i hi=>by
    refine⟨V,0,rfl,zG kV,fun j hj=>?_⟩
    have hj3:j=0∨j=1∨j=2:=by simp at hj;omega
    rw[Nat.zero_add]
    rcases hj3 with rfl|rfl|rfl<;>exact(cell_of_row _ _ _ _ _ _ kV)
   have bW:=VG (some ⟨V,0,none⟩) 3 [vs 0,vs 1,vs 2] rfl wr hT
   have htt:qf (vs 0) (vs 1) (vs 2)=tI L m us f up:=UC (FE.out 0 (by omega)) (FE.out 1 (by omega)) (FE.out 2 (by omega))
   rw[UF,htt]at bW
   obtain⟨told,T9⟩: ∃t,t=(tI L m us f up).1:=⟨_,rfl⟩
   obtain⟨ok,fh⟩: ∃t,t=(tI L m us f up).2:=⟨_,rfl⟩
   have HW:Hid (∀j,j<3→wI L m us f up late j=(ok&&((vs j).toList==told.toList)&&!aV late j)):=fun j hj=>by
    unfold wI nx
    rw[←fh,←T9]
    cases hk:ok with
    |false=>rfl
    |true=>rw[Ur (FE.out j hj) (by rw[T9];exact Xs (fh.symm.trans hk))]
   have HVW:Hid (∀j,j<3→ok=true→((vs j).toList==told.toList)=true→wI L m us f up late j=!aV late j):=fun j hj h1 h2=>by rw[HW.out j hj,h1,h2];rfl
   rw[←T9,←fh]at bW
   clear htt T9 fh hT tv
   have Eu:Hid (vs=vs):=rfl
   go_wp2_with fail
   refine bW.mono ?_
   clear bW HV
   rintro e W3 ⟨rfl,yT⟩
   have tC:=zA5 yT rC
   have tP:=zA5 yT rP
   have tR:=zA5 yT rR
   have J4:=zA5 yT kV
   have xL:=bt vH yT
   have CZ:Hid (BC<W3.heap.size∧BP<W3.heap.size∧R<W3.heap.size∧V<W3.heap.size):=⟨zG tC,zG tP,zG tR,zG J4⟩
   clear rC rP rR kV yT GJ vH
   obtain⟨cn,DU⟩: ∃cn:Nat→Nat,cn=xw (wI L m us f up late):=⟨_,rfl⟩
   have DV:Hid (cn 0=0):=by rw[DU];rfl
   have Cw:Hid (∀j,cn (j+1)=cn j+(wI L m us f up late j).toNat):=fun j=>by rw[DU];rfl
   have Ag:Hid (mb L m us f up late=decide (3<2*cn 3)):=by rw[DU];rfl
   have zFF:Hid (cn=xw (wI L m us f up late)):=DU
   clear DU
   go_wp2_with fail
   go_loopw [16,17] (fun n i wr=>∃k:Nat,n= .int .i64 (cn k:Nat)∧i= .int .i64 k∧k≤3∧Hid (cn k≤k)∧Below W3.heap.size W3 wr) (fun _ i _=>3-(intOf i).toNat)
   case atStart=>exact⟨0,by rw[DV.out];rfl,rfl,Nat.zero_le _,by unfold Hid;rw[DV.out];exact Nat.le_refl 0,Below.refl _ _⟩
   case round=>
    obtain⟨k,rfl,rfl,hk,Gx,px⟩:=hrel
    have uV:=(px.block _ CZ.out.2.2.2).trans J4
    by_cases tv:k=3
    case pos=>
     have hkI: ¬(k:Int)<3:=by omega
     have HKE:Hid (k=3):=tv
     have Jn:Hid (mb L m us f up late=decide (2≤cn k)):=by
      unfold Hid;rw[Ag.out,HKE.out]
      exact decide_eq_decide.2 (by omega)
     have xZ:=bt xL px
     have uC:=(px.block _ CZ.out.1).trans tC
     have uP:=(px.block _ CZ.out.2.1).trans tP
     have uR:=(px.block _ CZ.out.2.2.1).trans tR
     have Bd:=(h.plain.below xZ)
     obtain⟨B,cap,W5,r1,o5,xu⟩:=WS wr (some ⟨b,off,none⟩) c l Bd (by have:=nJ.out;omega) (by have:=nJ.out;omega)
     rw[nJ.out]at r1
     have XF:(.slice (some ⟨B,0,none⟩) l.length cap:Value)= .slice (some ⟨B,0,none⟩) 3 cap:=by rw[nJ.out]
     rw[XF]at o5
     have qY:=xu.trans ((zB W5 (.cells #[.slice (some ⟨B,0,none⟩) 3 cap] 24)).mono xu.size)
     have kO:=heap_alloc_new W5 (.cells #[.slice (some ⟨B,0,none⟩) 3 cap] 24)
     have o6:=zL o5 (zB W5 (.cells #[.slice (some ⟨B,0,none⟩) 3 cap] 24))
     have yC:=zJ (((zB wr (.cells #[] 36)).block _ (zG uC)).trans uC)
     have hHL:ym P w am m:=hm
     have dU:Hid (BC<wr.heap.size∧BP<wr.heap.size∧R<wr.heap.size∧V<wr.heap.size):=⟨zG uC,zG uP,zG uR,zG uV⟩
     clear XF o5 xu Bd tv tC tP tR J4 xL px
     go_upto_region 20 with(at_builtin;refine Lib.wpList_append_run _ rfl _ _ 22 22 rfl _ _ rfl rfl _ _ r1 ?_)
     obtain⟨BO,C8⟩: ∃p,p=W5.heap.size:=⟨_,rfl⟩
     rw[←C8]at kO⊢
     generalize W5.alloc (.cells #[.slice (some ⟨B,0,none⟩) 3 cap] 24)=W6 at *
     clear r1 C8 yC
     have vC:=(qY.block _ dU.out.1).trans uC
     have vP:=(qY.block _ dU.out.2.1).trans uP
     have vR:=(qY.block _ dU.out.2.2.1).trans uR
     have vV:=(qY.block _ dU.out.2.2.2).trans uV
     have nE:=bt xZ qY
     obtain⟨base,xq⟩: ∃n,n=wr.heap.size:=⟨_,rfl⟩
     have qN:Hid (BC<base∧BP<base∧R<base∧V<base∧w.heap.size≤base):=by rw[xq];exact⟨dU.out.1,dU.out.2.1,dU.out.2.2.1,dU.out.2.2.2,xZ.size⟩
     rw[←xq]at o6
     obtain⟨⟨zIJ,mE⟩,fk,MF,NW⟩:=cK o6
     have eO:=zG mE
     have uO:3≤cap∧cap≤9223372036854775807:=⟨MF,NW⟩
     have aa:Hid (base≤W6.heap.size):=by unfold Hid;omega
     obtain⟨P3,MY⟩: ∃P3:Nat→Prop,P3=fun k=>P k∨k=R∨k=B:=⟨_,rfl⟩
     have ky:=Es.out
     have PG:=qN.out
     have A7:Hid (∀k,k<w.heap.size→P3 k→P k):=fun k hk q=>by
      rw[MY]at q
      rcases q with q|q|q
      ·exact q
      ·omega
      ·omega
     have EH:Hid (∀k,P k∨k=R→P3 k):=fun k q=>by rw[MY];exact q.elim .inl (fun q=>.inr (.inl q))
     have KM:Hid (∀k,¬P3 k→k≠R∧k≠B):=fun k q=>by rw[MY]at q;exact⟨fun e=>q (.inr (.inl e)),fun e=>q (.inr (.inr e))⟩
     have Mz:Hid (∀k,P3 k→k<W6.heap.size):=fun k q=>by
      rw[MY]at q
      have hs:=nE.size
      have hR6:=zG vR
      rcases q with q|q|q
      ·have:=eQ.out k q;omega
      ·omega
      ·omega
     have Lr:Hid (∀q∈l,∀W,Below w.heap.size w W→q.HP P3 W):=fun q hq W hW=>by
      obtain⟨i,hi,rfl⟩:=List.getElem_of_mem hq
      exact((h.each hi).more A7.out).below hW
     have HMP:Hid (∀W,Below w.heap.size w W→ym P3 W am m):=fun W hW=>(hm.more A7.out).below hW
     have HKO:Hid (R≠BO∧B≠BO):=by
      have h1:=zG kO
      refine⟨fun e=>?_,fun e=>?_⟩
      ·rw[e]at vR;rw[kO]at vR;cases vR
      ·rw[e]at mE;rw[kO]at mE;cases mE
     -- the vj end
     have MV:Hid (∀(W:World) (d:Bool) (qs:List Rq),Below w.heap.size w W→W.heap[R]? =some (.cells #[.slice none 0 0] 24)→W.ownsRow base 36 7 (.slice (some ⟨B,0,none⟩) 3 cap) qs.length (tb qs)→(∀q∈qs,q.HP P3 W)→pE L m us f up late=0→d=mb L m us f up late→qs.map Rq.r=eL L m us f up late→PO (.returned (.tuple #[.agg #[.slice (some ⟨B,0,none⟩) 3 cap],.bool d,.int .i64 0])) (W.setCell ⟨R,0,none⟩ (.slice (some ⟨B,0,none⟩) 3 cap))):=fun W d qs hb hR ho hq he hd hm=>by
      rw[xY.out]
      refine⟨hb.setCell Es.out.2.2.2 _,.inr ⟨he,B,cap,qs,by rw[hd],hm,?_⟩⟩
      have hr:=(qG (P:=fun k=>P k∨k=R) ho (fun k q=>by
       rcases q with q|q
       ·have:=eQ.out k q;have:=qN.out;omega
       ·have:=qN.out;omega) (fun q rU=>(hq q rU).more (fun k _ e=>EH.out k e))).1
      exact(hr.put ⟨Nat.le_of_eq (World.size_setCell _ _ _).symm,fun k _ hk=>heap_setCell_other W ⟨R,0,none⟩ k _ (fun e=>hk (.inr e))⟩).more (fun k _ q=>.inl q)
     clear uC uP uR uV qY xZ MY ky PG mE xq
     by_cases Aa:2≤cn k
     case neg=>
      have zIT:((cn k:Nat):Int)<2:=by omega
      have Kd:Hid (mb L m us f up late=false):=by unfold Hid;rw[Jn.out,decide_eq_false Aa]
      have Fx:Hid (pE L m us f up late=0):=by
       unfold Hid;rw[G6.out]
       have: ∀i,mh L m us f up late i=false:=fun i=>by unfold mh cI;rw[Kd.out];rfl
       rw[this,this,this];rfl
      have HF:=MV.out W6 false l nE vR o6 (fun q hq=>Lr.out q hq W6 nE) Fx.out Kd.out.symm (by rw[Cs.out,FN HC.out HZ.out Kd.out])
      have HFF:Hid (PO (.returned (.tuple #[.agg #[.slice (some ⟨B,0,none⟩) 3 cap],.bool false,.int .i64 0])) (W6.setCell ⟨R,0,none⟩ (.slice (some ⟨B,0,none⟩) 3 cap))):=HF
      have y0:=zJ kO
      have g2:=zF (o:=0) vR
      have o2:=zJ vR
      have i0:=zJ (xb (u:=.slice (some ⟨B,0,none⟩) 3 cap) vR)
      clear HF vC vP vR vV kO Aa o6 nE uO eO
      go_wp2
      refine bodyPost_ret (v:=.tuple #[.agg #[.slice (some ⟨B,0,none⟩) 3 cap],.bool false,.int .i64 0]) (by simp[results,Tryz.results148,go_sem,i0]) rfl ?_
      exact HFF.out
     have zIT: ¬((cn k:Nat):Int)<2:=by omega
     have Mj:Hid (mb L m us f up late=true):=by unfold Hid;rw[Jn.out,decide_eq_true Aa]
     have HOK:Hid (ok=true):=by
      have h1:=Mj.out
      unfold mb at h1
      obtain⟨i,hi,hw⟩:=SV (a:=wI L m us f up late) (by have:=of_decide_eq_true h1;omega)
      rw[HW.out i hi]at hw
      cases fh:ok with
      |true=>rfl
      |false=>rw[fh]at hw;cases hw
     have HCW:Hid (∀i,cI L m us f up late i=wI L m us f up late i):=fun i=>by unfold cI;rw[Mj.out];rfl
     have HQ0:Hid (l.map Rq.r=l3 (fun j=>if j<0∧cI L m us f up late j=true then ma m us (yq L j)else yq L j)):=by
      unfold Hid
      rw[Cs.out]
      refine(Vx (yr.1 HC.out).1).symm.trans (mH (fun i _=>?_))
      rw[if_neg (fun e=>absurd e.1 (Nat.not_lt_zero _))]
     have zBU:Hid (∀q∈l,q.HP P3 W6):=fun q hq=>Lr.out q hq W6 nE
     have zBC:Hid (∀j,j<0→mh L m us f up late j=false):=fun j hj=>absurd hj (Nat.not_lt_zero _)
     have A6:Hid (l.length=3):=nJ.out
     clear Aa DV Cw Ag zFF
     go_wp2_with fail
     go_loopw [19] (fun i wr=>∃(k:Nat) (qs:List Rq),i= .int .i64 k∧k≤3∧wr.ownsRow base 36 7 (.slice (some ⟨B,0,none⟩) 3 cap) qs.length (tb qs)∧Hid (qs.length=3)∧Hid (qs.map Rq.r=l3 (fun j=>if j<k∧cI L m us f up late j=true then ma m us (yq L j)else yq L j))∧Hid (∀q∈qs,q.HP P3 wr)∧Hid (∀j,j<k→mh L m us f up late j=false)∧wr.heap[BO]? =some (.cells #[.slice (some ⟨B,0,none⟩) 3 cap] 24)∧Below base W6 wr) (fun i _=>3-(intOf i).toNat)
     case atStart=>exact⟨0,l,rfl,Nat.zero_le _,o6,A6,HQ0,zBU,zBC,kO,Below.refl _ _⟩
     case round=>
      clear o6 HQ0 zBU zBC kO HKE Jn hkI A6
      obtain⟨k,qs,rfl,hk,ho,Lt,Nv,Hs,BF,kO,px⟩:=hrel
      have vH:=nE.trans (px.mono qN.out.2.2.2.2)
      have uC:=(px.block _ qN.out.1).trans vC
      have uP:=(px.block _ qN.out.2.1).trans vP
      have uR:=(px.block _ qN.out.2.2.1).trans vR
      have uV:=(px.block _ qN.out.2.2.2.1).trans vV
      by_cases tv:k=3
      case pos=>
       have hkI: ¬(k:Int)<3:=by omega
       have Fx:Hid (pE L m us f up late=0):=by
        unfold Hid;rw[G6.out,BF.out 0 (by omega),BF.out 1 (by omega),BF.out 2 (by omega)];rfl
       have Gf:Hid (qs.map Rq.r=eL L m us f up late):=by
        unfold Hid
        rw[Nv.out,MU HC.out HZ.out]
        refine mH (fun i hi=>?_)
        by_cases hc:cI L m us f up late i=true
        ·rw[if_pos ⟨by omega,hc⟩,if_pos hc]
        ·rw[if_neg (fun e=>hc e.2),if_neg hc]
       have HF:Hid (PO (.returned (.tuple #[.agg #[.slice (some ⟨B,0,none⟩) 3 cap],.bool true,.int .i64 0])) (wr.setCell ⟨R,0,none⟩ (.slice (some ⟨B,0,none⟩) 3 cap))):=MV.out wr true qs vH uR ho Hs.out Fx.out Mj.out.symm Gf.out
       have y0:=zJ kO
       have g2:=zF (o:=0) uR
       have o2:=zJ uR
       have i0:=zJ (xb (u:=.slice (some ⟨B,0,none⟩) 3 cap) uR)
       clear uC uP uR uV kO vC vP vR vV ho px vH tv nE eO
       go_wp2
       refine bodyPost_ret (v:=.tuple #[.agg #[.slice (some ⟨B,0,none⟩) 3 cap],.bool true,.int .i64 0]) (by simp[results,Tryz.results148,go_sem,i0]) rfl ?_
       exact HF.out
      have kc:k<3:=by omega
      have zIB:(k:Int)<3:=by omega
      have hkz:(k:Int)+1≤9223372036854775807:=by omega
      have xl:k<l.length:=by have:=nJ.out;omega
      have CH:k<qs.length:=by have:=Lt.out;omega
      have NR:Hid (yq L k=l[k].r):=NN.out k xl
      have Py:Hid (wI L m us f up late k=(ok&&((vs k).toList==told.toList)&&!aV late k)):=HW.out k kc
      have pP:Hid (wI L m us f up late k=false→qs.map Rq.r=l3 (fun j=>if j<k+1∧cI L m us f up late j=true then ma m us (yq L j)else yq L j)∧∀j,j<k+1→mh L m us f up late j=false):=fun e=>by
       refine⟨Nv.out.trans (mH (fun i _=>?_)),fun j hj=>?_⟩
       ·by_cases eB:i=k
        ·subst eB
         rw[if_neg (fun q=>absurd q.1 (Nat.lt_irrefl _)),if_neg (fun q=>by have:=q.2;rw[HCW.out,e]at this;cases this)]
        ·have:(i<k∧cI L m us f up late i=true)↔(i<k+1∧cI L m us f up late i=true):=⟨fun q=>⟨by omega,q.2⟩,fun q=>⟨by omega,q.2⟩⟩
         by_cases q:i<k∧cI L m us f up late i=true
         ·rw[if_pos q,if_pos (this.1 q)]
         ·rw[if_neg q,if_neg (fun q'=>q (this.2 q'))]
       ·by_cases e2:j<k
        ·exact BF.out j e2
        ·obtain rfl:j=k:=by omega
         unfold mh;rw[HCW.out,e];rfl
      have xv:wr.cell? ⟨V,k,none⟩=some (.string (vs k)):=(cell_of_row _ _ _ _ _ _ uV).trans (kS kc)
      have hFa:Hid (Below base W6 wr):=px
      clear tv uV vH
      cases hd:((vs k).toList==told.toList)with
      |false=>
       have HN:=(show Hid _ from pP.out (by rw[Py.out,hd];simp))
       clear pP Py uC uP uR
       go_wp2
       go_roundw
       case rel=>exact⟨k+1,qs,by go_num,by omega,ho,Lt,HN.out.1,Hs,HN.out.2,kO,px⟩
       case measure=>simp[intOf];omega
      |true=>
      have Z3:Hid (wI L m us f up late k=!aV late k):=by unfold Hid;rw[Py.out,HOK.out,hd];rfl
      clear Py
      go_wp2_with fail
      refine(gQ late k wr Dx hl8 kc).mono ?_
      clear xv hd
      rintro e W4 ⟨rfl,xR⟩
      have Qd:=px.trans (xR.mono (by have:=px.size;have:=aa.out;omega))
      have mn:=zL ho xR
      have zBH:Hid (∀q∈qs,q.HP P3 W4):=fun q hq=>(Hs.out q hq).below xR
      have kO4:=zA5 xR kO
      have wC:=zA5 xR uC
      have wP:=zA5 xR uP
      clear px xR ho Hs kO uC uP uR hFa
      cases pM:aV late k with
      |true=>
       have HN:=(show Hid _ from pP.out (by rw[Z3.out,pM];rfl))
       clear pP Z3 pM wC wP
       go_wp2
       go_roundw
       case rel=>exact⟨k+1,qs,by go_num,by omega,mn,Lt,HN.out.1,zBH,HN.out.2,kO4,Qd⟩
       case measure=>simp[intOf];omega
      |false=>
      have HWT:Hid (wI L m us f up late k=true):=by unfold Hid;rw[Z3.out,pM];rfl
      have HCT:Hid (cI L m us f up late k=true):=by unfold Hid;rw[HCW.out];exact HWT.out
      have xZ:=nE.trans (Qd.mono qN.out.2.2.2.2)
      obtain⟨q,bh⟩: ∃q,q=l[k]:=⟨_,rfl⟩
      have hqm:q∈l:=by rw[bh];exact List.getElem_mem xl
      have PK:bY W4 b (off+k*7) q:=by rw[bh];exact((h.below xZ).plain.at xl).1
      rw[←bh]at NR
      have dd:Hid (q.r.err=0):=by rw[←NR.out];exact Lj.out k kc
      have zGU:Hid (xX q.r.s q.r.l m us f=0):=by
       have:=(Zq (Lj.out k kc) HZ.out HWT.out).2.1
       rw[NR.out]at this;exact this
      have G7:Hid (q∈l):=hqm
      have P6:=rV dd.out
      have HG9:Hid (0≤q.r.g∧q.r.g≤999):=P6
      have db:Hid (b<w.heap.size):=by
       obtain⟨_,_,e,hb,_⟩:=h.plain k xl
       cases e;exact hb
      have yl:b<W4.heap.size:=Nat.lt_of_lt_of_le db.out xZ.size
      have Lw:=Below.refl W4.heap.size W4
      have HZ4:Hid (Below base W6 W4∧Below w.heap.size w W4):=⟨Qd,xZ⟩
      clear pP Z3 pM bh hqm P6
      go_upto_region 26 with fail
      have zk:=zU W4
      have xz:=PK.block (zk.block _ yl)
      have dr:=Nat.lt_of_lt_of_le yl zk.size
      clear PK yl
      have yl:=dr
      clear dr
      have Mf:=bt xZ zk
      have Ja:=zA5 zk wC
      have L3:=zA5 zk wP
      have Fo:=bt Lw zk
      have zSY:=zk.size
      clear wC wP Lw zk xZ
      refine zS (fun W=>(W.heap[BC]? =some (.cells #[.slice (some ⟨b,off,none⟩) 3 c] 24))∧(W.heap[BP]? =some (.cells #[.slice am m.length cm,.slice au us.length cu,.bool f] 28))∧(bY W b (off+k*7) q)) (fun _=>false) (by kernel_rfl) ⟨Ja,L3,xz⟩ (fun hS=>?_)
      clear hS
      generalize W4.drew=BM at *
      refine zAB 0 ?_ rfl ?_ ⟨Ja,L3,xz⟩ ?_;rotate_left
      ·intro w zD;obtain⟨g1,g2,g3⟩:=zD;have y0:=zJ g1;obtain⟨z0,z1,z2⟩:=zQ g2;obtain⟨q0,q1,q2,q3,q4,q5,q6⟩:=g3;clear g1 g2;go_simp;rfl
      try simp only[tn]
      refine zAB 2 ?_ rfl ?_ ⟨Ja,L3,xz⟩ ?_;rotate_left
      ·intro w zD;obtain⟨g1,g2,g3⟩:=zD;have y0:=zJ g1;obtain⟨z0,z1,z2⟩:=zQ g2;obtain⟨q0,q1,q2,q3,q4,q5,q6⟩:=g3;clear g1 g2;go_simp;rfl
      try simp only[tn]
      refine zAB 5 ?_ rfl ?_ ⟨Ja,L3,xz⟩ ?_;rotate_left
      ·intro w zD;obtain⟨g1,g2,g3⟩:=zD;have y0:=zJ g1;obtain⟨z0,z1,z2⟩:=zQ g2;obtain⟨q0,q1,q2,q3,q4,q5,q6⟩:=g3;clear g1 g2;go_simp;rfl
      try simp only[tn]
      refine zAB 1 ?_ rfl ?_ ⟨Ja,L3,xz⟩ ?_;rotate_left
      ·intro w zD;obtain⟨g1,g2,g3⟩:=zD;have y0:=zJ g1;obtain⟨z0,z1,z2⟩:=zQ g2;obtain⟨q0,q1,q2,q3,q4,q5,q6⟩:=g3;clear g1 g2;go_simp;rfl
      try simp only[tn]
      refine zAB 3 ?_ rfl ?_ ⟨Ja,L3,xz⟩ ?_;rotate_left
      ·intro w zD;obtain⟨g1,g2,g3⟩:=zD;have y0:=zJ g1;obtain⟨z0,z1,z2⟩:=zQ g2;obtain⟨q0,q1,q2,q3,q4,q5,q6⟩:=g3;clear g1 g2;go_simp;rfl
      try simp only[tn]
      refine zAB 4 ?_ rfl ?_ ⟨Ja,L3,xz⟩ ?_;rotate_left
      ·intro w zD;obtain⟨g1,g2,g3⟩:=zD;have y0:=zJ g1;obtain⟨z0,z1,z2⟩:=zQ g2;obtain⟨q0,q1,q2,q3,q4,q5,q6⟩:=g3;clear g1 g2;go_simp;rfl
      try simp only[tn]
      refine zAC 6 rfl fun K hK=>?_
      have htr:=ZF P3 q am cm m au cu us f BM (fun k qk=>by have:=Mz.out k qk;have:=HZ4.out.1.size;have:=Fo.size;omega) (Lr.out q G7.out BM Mf) (HMP.out BM Mf) Hh.out (hu.below Mf) J8.out (sC dd.out) HZ.out
      go_simp
      refine htr.mono ?_
      clear htr
      rintro e ts ⟨h,hq9⟩
      rcases hq9 with⟨yM,_⟩|⟨-,aS,cS,aR,cR,rfl,hSS,hcS,Kb⟩
      ·exact absurd zGU.out yM
      have jh:=xz.block (h.block _ yl)
      have Sn:=Nat.lt_of_lt_of_le yl h.size
      clear xz yl
      have yl:=Sn
      clear Sn
      have Sv:=bt Mf h
      have Yw:=zA5 h Ja
      have VB:=zA5 h L3
      have T2:=bt Fo h
      have zO1:=h.size
      clear Ja L3 Fo h Mf
      refine hK _ _ (fun _=>⟨Yw,VB,jh⟩) ?_
      clear hK K
      try simp only[tn]
      refine zAB 7 ?_ rfl ?_ ⟨Yw,VB,jh⟩ ?_;rotate_left
      ·intro w zD;obtain⟨g1,g2,g3⟩:=zD;have y0:=zJ g1;obtain⟨z0,z1,z2⟩:=zQ g2;obtain⟨q0,q1,q2,q3,q4,q5,q6⟩:=g3;clear g1 g2;go_simp;rfl
      try simp only[tn]
      refine zAB 8 ?_ rfl ?_ ⟨Yw,VB,jh⟩ ?_;rotate_left
      ·intro w zD;obtain⟨g1,g2,g3⟩:=zD;have y0:=zJ g1;obtain⟨z0,z1,z2⟩:=zQ g2;obtain⟨q0,q1,q2,q3,q4,q5,q6⟩:=g3;clear g1 g2;go_simp;rfl
      try simp only[tn]
      refine zAB 9 ?_ rfl ?_ ⟨Yw,VB,jh⟩ ?_;rotate_left
      ·intro w zD;obtain⟨g1,g2,g3⟩:=zD;have y0:=zJ g1;obtain⟨z0,z1,z2⟩:=zQ g2;obtain⟨q0,q1,q2,q3,q4,q5,q6⟩:=g3;clear g1 g2;go_simp;rfl
      try simp only[tn]
      refine zAB 10 ?_ rfl ?_ ⟨Yw,VB,jh⟩ ?_;rotate_left
      ·intro w zD;obtain⟨g1,g2,g3⟩:=zD;have y0:=zJ g1;obtain⟨z0,z1,z2⟩:=zQ g2;obtain⟨q0,q1,q2,q3,q4,q5,q6⟩:=g3;clear g1 g2;go_simp;rfl
      try simp only[tn]
      refine zAC 11 rfl fun K hK=>?_
      go_simp
      refine hK _ _ (fun _=>⟨Yw,VB,jh⟩) ?_
      clear hK K
      try simp only[tn]
      refine zAC 12 rfl fun K hK=>?_
      go_simp
      refine hK _ _ (fun _=>⟨Yw,VB,jh⟩) ?_
      clear hK K
      try simp only[tn]
      refine zAC 13 rfl fun K hK=>?_
      go_simp
      refine hK _ _ (fun _=>⟨Yw,VB,jh⟩) ?_
      clear hK K
      try simp only[tn]
      refine zAE ?_
      obtain⟨q0,q1,q2,q3,q4,q5,q6⟩:=jh
      have yC:=zJ Yw
      have JS:Below base W6 ts:=HZ4.out.1.trans (T2.mono (by have:=HZ4.out.1.size;have:=aa.out;omega))
      have Bc:=(JS.block _ qN.out.2.2.1).trans vR
      by_cases hg:q.r.g=999
      case pos=>
       have HE:Hid (∀W',Below w.heap.size w W'→PO (.returned (.tuple #[.agg #[.slice none 0 0],.bool false,.int .i64 2])) W'):=vF.out 2 (by
        have hmn:mh L m us f up late k=true:=by
         unfold mh;rw[HCT.out,NR.out,decide_eq_true hg];rfl
        have Fu:(mh L m us f up late 0||mh L m us f up late 1||mh L m us f up late 2)=true:=by
         have:k=0∨k=1∨k=2:=by omega
         rcases this with rfl|rfl|rfl<;>simp[hmn]
        rw[G6.out,if_pos Fu]) (by decide)
       have g9:(q.r.g==999)=true:=by simpa using hg
       have g2:=zF (o:=0) Bc
       have o2:=zJ Bc
       have i0:=zJ (xb (u:=.slice none 0 0) Bc)
       have HB:Hid (Below w.heap.size w (ts.setCell ⟨R,0,none⟩ (.slice none 0 0))):=Sv.setCell UD _
       clear Bc JS Sv hg
       go_wp2
       refine bodyPost_ret (v:=.tuple #[.agg #[.slice none 0 0],.bool false,.int .i64 2]) (by simp[results,Tryz.results148,go_sem,i0]) rfl ?_
       exact HE.out _ HB.out
      have g9:(q.r.g==999)=false:=by simpa using hg
      have HG:Hid (q.r.g≠999):=hg
      have YH:q.r.g+1≤9223372036854775807:=by have:=HG9.out;omega
      have hg2: -9223372036854775808≤q.r.g+1:=by have:=HG9.out;omega
      have kON:=zA5 T2 kO4
      have hoN:=zL mn T2
      have zAQ:Hid (∀x∈qs,x.HP P3 ts):=fun x hx=>(zBH.out x hx).below T2
      obtain⟨Jo,-,-,-,C9,vo⟩:=qG (P:=P) hoN (fun k qk=>by have:=eQ.out k qk;have:=qN.out;omega) (fun x hx=>(zAQ.out x hx).more (fun k _ e=>EH.out k (.inl e)))
      obtain⟨⟨d0,d1,d2,d3,d4,d5,d6⟩,-⟩:=Jo.plain.at CH
      simp only[Nat.zero_add]at d0 d1 d2 d3 d4 d5 d6
      have f0:=zF (o:=k*7) vo
      have f1:=zF (o:=k*7+1) vo
      have f2:=zF (o:=k*7+2) vo
      have f3:=zF (o:=k*7+3) vo
      have f4:=zF (o:=k*7+4) vo
      have f5:=zF (o:=k*7+5) vo
      have f6:=zF (o:=k*7+6) vo
      have yO:=zJ kON
      have aA:=Yf (⟨ma m us q.r,aS,cS,aR,cR,none,0,none,0⟩:Rq) CH hoN
      obtain⟨S,Hi⟩: ∃S,S=zH q.r.s m:=⟨_,rfl⟩
      obtain⟨RL,SI⟩: ∃S,S=yK q.r.l us:=⟨_,rfl⟩
      have Ar:Hid (zH q.r.s m=S∧yK q.r.l us=RL):=⟨Hi.symm,SI.symm⟩
      rw[←Hi]at hSS hcS
      rw[←SI]at Kb
      rw[←Hi,←SI]
      have HNQ:Hid ((⟨ma m us q.r,aS,cS,aR,cR,none,0,none,0⟩:Rq).HP P3 ts):=by
       have h1:=vi m q.r.s
       have h2:=mJ us q.r.l
       have h3:=(yF (sC dd.out)).1
       have h4:=gj (nw dd.out)
       have h5:=(sL.1 HZ.out).1
       have h6:=(ve.1 (sL.1 HZ.out).2.2).2.1
       exact⟨by show ym P3 _ aS (zH q.r.s m);rw[Ar.out.1];exact hSS,by show xx P3 _ aR (yK q.r.l us);rw[Ar.out.2];exact Kb,rk,qa,by show(zH q.r.s m).length≤_;omega,by show(yK q.r.l us).length≤_;omega,Nat.zero_le _,Nat.zero_le _,by show(zH q.r.s m).length≤cS;rw[Ar.out.1];exact hcS⟩
      have pW:Hid (let W9:=(((((((ts.setCell ⟨B,k*7,none⟩ (.slice aS S.length cS)).setCell ⟨B,k*7+1,none⟩ (.slice aR RL.length cR)).setCell ⟨B,k*7+2,none⟩ (.int .i64 (q.r.g+1))).setCell ⟨B,k*7+3,none⟩ (.int .i64 0)).setCell ⟨B,k*7+4,none⟩ (.slice none 0 0)).setCell ⟨B,k*7+5,none⟩ (.slice none 0 0)).setCell ⟨B,k*7+6,none⟩ (.bool false));W9.ownsRow base 36 7 (.slice (some ⟨B,0,none⟩) 3 cap) (qs.set k ⟨ma m us q.r,aS,cS,aR,cR,none,0,none,0⟩).length (tb (qs.set k ⟨ma m us q.r,aS,cS,aR,cR,none,0,none,0⟩))∧(∀j,j≠B→W9.heap[j]? =ts.heap[j]?)∧∀v,Below base v ts→Below base v W9):=by
       unfold Hid
       rw[←Ar.out.1,←Ar.out.2];exact aA
      clear Hi SI aA Jo hg vo hSS Kb q0 q1 q3 q4 q5 q6 hcS
      go_upto_region 29 with fail
      go_region
      obtain⟨W9,QI⟩: ∃W9,W9=(((((((ts.setCell ⟨B,k*7,none⟩ (.slice aS S.length cS)).setCell ⟨B,k*7+1,none⟩ (.slice aR RL.length cR)).setCell ⟨B,k*7+2,none⟩ (.int .i64 (q.r.g+1))).setCell ⟨B,k*7+3,none⟩ (.int .i64 0)).setCell ⟨B,k*7+4,none⟩ (.slice none 0 0)).setCell ⟨B,k*7+5,none⟩ (.slice none 0 0)).setCell ⟨B,k*7+6,none⟩ (.bool false)):=⟨_,rfl⟩
      rw[←QI]
      have p1:W9.ownsRow base 36 7 (.slice (some ⟨B,0,none⟩) 3 cap) (qs.set k ⟨ma m us q.r,aS,cS,aR,cR,none,0,none,0⟩).length (tb (qs.set k ⟨ma m us q.r,aS,cS,aR,cR,none,0,none,0⟩)):=by rw[QI];exact pW.out.1
      have p2: ∀j,j≠B→W9.heap[j]? =ts.heap[j]?:=by rw[QI];exact pW.out.2.1
      have p3:Below base W6 W9:=by rw[QI];exact pW.out.2.2 _ JS
      have p4:W9.heap.size=ts.heap.size:=by rw[QI];simp only[World.size_setCell]
      have ae:PY P3 ts W9:=⟨Nat.le_of_eq p4.symm,fun j _ hj=>p2 j (KM.out j hj).2⟩
      have hd:=zU W9
      have hoX:=zL p1 hd
      have kOX:=(hd.block _ (by rw[p4];exact zG kON)).trans ((p2 BO HKO.out.2.symm).trans kON)
      have hbX:=p3.trans (hd.mono (by have:=p3.size;have:=aa.out;omega))
      have HQX:Hid (∀x∈qs.set k (⟨ma m us q.r,aS,cS,aR,cR,none,0,none,0⟩:Rq),x.HP P3 W9.drew):=fun x hx=>by
       rcases List.mem_or_eq_of_mem_set hx with c|c
       ·exact((zAQ.out x c).put ae).below hd
       ·rw[c];exact(HNQ.out.put ae).below hd
      have HRX:Hid ((qs.set k (⟨ma m us q.r,aS,cS,aR,cR,none,0,none,0⟩:Rq)).map Rq.r=l3 (fun j=>if j<k+1∧cI L m us f up late j=true then ma m us (yq L j)else yq L j)):=by
       unfold Hid
       rw[List.map_set,Nv.out,MM kc]
       refine mH (fun i hi=>?_)
       by_cases eB:i=k
       ·subst eB
        rw[if_pos rfl,if_pos ⟨by omega,HCT.out⟩,NR.out]
       ·rw[if_neg eB]
        have JY:(i<k∧cI L m us f up late i=true)↔(i<k+1∧cI L m us f up late i=true):=⟨fun q=>⟨by omega,q.2⟩,fun q=>⟨by omega,q.2⟩⟩
        by_cases qq:i<k∧cI L m us f up late i=true
        ·rw[if_pos qq,if_pos (JY.1 qq)]
        ·rw[if_neg qq,if_neg (fun q'=>qq (JY.2 q'))]
      have HMX:Hid (∀j,j<k+1→mh L m us f up late j=false):=fun j hj=>by
       by_cases e2:j<k
       ·exact BF.out j e2
       ·obtain rfl:j=k:=by omega
        unfold mh;rw[NR.out,decide_eq_false HG.out,Bool.and_false]
      have HLX:Hid ((qs.set k (⟨ma m us q.r,aS,cS,aR,cR,none,0,none,0⟩:Rq)).length=3):=by unfold Hid;rw[List.length_set];exact Lt.out
      generalize qs.set k (⟨ma m us q.r,aS,cS,aR,cR,none,0,none,0⟩:Rq)=qs2 at *
      generalize W9.drew=M8 at *
      clear yC yO q2 d0 d1 d2 d3 d4 d5 d6 f0 f1 f2 f3 f4 f5 f6 QI p1 p2 p3 p4 ae hd pW HNQ kON hoN JS Bc
      go_wp2
      go_roundw
      case rel=>exact⟨k+1,qs2,by go_num,by omega,hoX,HLX,HRX,HQX,HMX,kOX,hbX⟩
      case measure=>simp[intOf];omega
    have kc:k<3:=by omega
    have zIB:(k:Int)<3:=by omega
    have hkz:(k:Int)+1≤9223372036854775807:=by omega
    have hcb:((cn k:Nat):Int)+1≤9223372036854775807:=by have:=Gx.out;omega
    have Py:Hid (wI L m us f up late k=(ok&&((vs k).toList==told.toList)&&!aV late k)):=HW.out k kc
    have Dn:Hid (cn (k+1)=cn k+(wI L m us f up late k).toNat):=Cw.out k
    have xv:wr.cell? ⟨V,k,none⟩=some (.string (vs k)):=(cell_of_row _ _ _ _ _ _ uV).trans (kS kc)
    have pP:Hid (wI L m us f up late k=false→cn (k+1)=cn k):=fun e=>by rw[Dn.out,e];rfl
    have N4:Hid (wI L m us f up late k=true→cn (k+1)=cn k+1):=fun e=>by rw[Dn.out,e];rfl
    clear tv uV
    cases fh:ok with
    |false=>
     have HN:Hid (cn (k+1)=cn k):=pP.out (by rw[Py.out,fh];rfl)
     clear pP N4 Py Dn fh xv HW HVW
     go_wp2
     go_roundw
     case rel=>exact⟨k+1,by rw[HN.out],by go_num,by omega,by have:=Gx.out;unfold Hid;rw[HN.out];omega,px⟩
     case measure=>simp[intOf];omega
    |true=>
    cases hd:((vs k).toList==told.toList)with
    |false=>
     have HN:Hid (cn (k+1)=cn k):=pP.out (by rw[Py.out,fh,hd];rfl)
     clear pP N4 Py Dn fh HW HVW
     go_wp2
     go_roundw
     case rel=>exact⟨k+1,by rw[HN.out],by go_num,by omega,by have:=Gx.out;unfold Hid;rw[HN.out];omega,px⟩
     case measure=>simp[intOf];omega
    |true=>
    have Z3:Hid (wI L m us f up late k=!aV late k):=by unfold Hid;rw[Py.out,fh,hd];rfl
    clear Py fh
    go_wp2_with fail
    refine(gQ late k wr Dx hl8 kc).mono ?_
    clear xv hd
    rintro e W4 ⟨rfl,xR⟩
    have Qd:=bt px xR
    clear px xR
    cases pM:aV late k with
    |true=>
     have HN:Hid (cn (k+1)=cn k):=pP.out (by rw[Z3.out,pM];rfl)
     clear pP N4 Z3 Dn pM HW HVW
     go_wp2
     go_roundw
     case rel=>exact⟨k+1,by rw[HN.out],by go_num,by omega,by have:=Gx.out;unfold Hid;rw[HN.out];omega,Qd⟩
     case measure=>simp[intOf];omega
    |false=>
     have HN:Hid (cn (k+1)=cn k+1):=N4.out (by rw[Z3.out,pM];rfl)
     clear pP N4 Z3 Dn pM HW HVW
     go_wp2
     go_roundw
     case rel=>exact⟨k+1,by rw[HN.out];go_num,by go_num,by omega,by have:=Gx.out;unfold Hid;rw[HN.out];omega,Qd⟩
     case measure=>simp[intOf];omega
  have kc:k<3:=by omega
  have hkI:(k:Int)<3:=by omega
  have xl:k<l.length:=by have:=nJ.out;omega
  have zSA:(k:Int)+1≤9223372036854775807:=by omega
  have NR:Hid (yq L k=l[k].r):=NN.out k xl
  have ng:=h.below vH
  obtain⟨⟨x0,x1,x2,x3,x4,x5,x6⟩,-⟩:=ng.plain.at xl
  have hqk:=ng.each xl
  have HQK:Hid (l[k].HP P wr):=hqk
  have yC:=zJ rC
  have Dh:Hid (qr up (yq L k) k=(aV up k&&(l[k].r.ph==0))):=by unfold Hid qr;rw[NR.out]
  have pP:Hid (qr up (yq L k) k=false→∀j,j<3→(j<k+1→uq (vs j) (vI L m us f up j))∧(k+1≤j→vs j=yJ)):=fun ha j hj=>by
   refine⟨fun hjk=>?_,fun hjk=>(HV.out j hj).2 (by omega)⟩
   by_cases e:j<k
   ·exact(HV.out j hj).1 e
   ·obtain rfl:j=k:=by omega
    left
    rw[(HV.out j hj).2 (Nat.le_refl _)]
    unfold vI
    rw[(gi ha).2]
  clear ng hqk tv
  go_wp2_with fail
  refine(gQ up k wr GP hu8 kc).mono ?_
  rintro e W3 ⟨rfl,yT⟩
  have tC:=zA5 yT rC
  have tP:=zA5 yT rP
  have J4:=zA5 yT kV
  have MO:Below V W2 W3:=GJ.trans (yT.mono (by have:=Ea.out;have:=GJ.size;omega))
  have xL:=bt vH yT
  have ng:=h.below xL
  obtain⟨⟨q0,q1,q2,q3,q4,q5,q6⟩,-⟩:=ng.plain.at xl
  have Kc:Hid (bY W3 b (off+k*7) l[k]∧l[k].HP P W3):=⟨(ng.plain.at xl).1,ng.each xl⟩
  have yC3:=zJ tC
  clear ng rC rP rR kV GJ vH yT x0 x1 x2 x3 x4 x5 x6 yC HQK
  cases pM:aV up k with
  |false=>
   have HN:=(show Hid _ from pP.out (by rw[Dh.out,pM];rfl))
   clear pM pP Dh HV q0 q1 q2 q3 q4 q5 q6 Kc tC tP yC3
   go_wp2
   go_roundw
   case rel=>exact⟨k+1,vs,rfl,by omega,J4,HN,MO⟩
   case measure=>simp[intOf];omega
  |true=>
  obtain⟨ph,KV⟩: ∃ph,ph=l[k].r.ph:=⟨_,rfl⟩
  rw[←KV]at q3 Dh
  clear KV
  cases ka:(ph==0)with
  |false=>
   have HN:=(show Hid _ from pP.out (by rw[Dh.out,pM,ka];rfl))
   clear pM pP Dh HV q0 q1 q2 q4 q5 q6 Kc tP
   go_wp2
   go_roundw
   case rel=>exact⟨k+1,vs,rfl,by omega,J4,HN,MO⟩
   case measure=>simp[intOf];omega
  |true=>
  have HA1:Hid (qr up (yq L k) k=true):=by unfold Hid;rw[Dh.out,pM,ka];rfl
  clear pM pP Dh
  go_upto_region 11 with fail
  obtain⟨PK,TK⟩:=Kc.out
  have RP:=hm.plain.below xL
  have huu:=hu.below xL
  obtain⟨q,bh⟩: ∃q,q=l[k]:=⟨_,rfl⟩
  rw[←bh]at PK TK NR
  have dd:Hid (q.r.err=0):=by rw[←NR.out];exact Lj.out k kc
  clear bh Kc q0 q1 q2 q3 q4 q5 q6 yC3 ka
  have db:Hid (b<w.heap.size):=by
   obtain⟨_,_,e,hb,_⟩:=h.plain k xl
   cases e;exact hb
  have yl:b<W3.heap.size:=Nat.lt_of_lt_of_le db.out xL.size
  have zk:=zU W3
  have xz:=PK.block (zk.block _ yl)
  have dr:=Nat.lt_of_lt_of_le yl zk.size
  clear PK yl
  have yl:=dr
  clear dr
  have E7:=MO.trans (zk.mono (by have:=Ea.out;have:=MO.size;omega))
  clear MO
  have cY:=bt xL zk
  have pR:=zA5 zk tC
  have Mh:=zA5 zk tP
  have V_8:=zA5 zk J4
  have KA:=TK.below zk
  have Fj:=RP.below zk
  have Eh:=huu.below zk
  have Hr:=zk.size
  clear tC tP J4 TK RP huu zk xL
  refine zS (fun W=>(W.heap[BC]? =some (.cells #[.slice (some ⟨b,off,none⟩) 3 c] 24))∧(W.heap[BP]? =some (.cells #[.slice am m.length cm,.slice au us.length cu,.bool f] 28))∧(bY W b (off+k*7) q)) (fun _=>false) (by kernel_rfl) ⟨pR,Mh,xz⟩ (fun hS=>?_)
  clear hS
  generalize W3.drew=W_13 at *
  refine zAB 0 ?_ rfl ?_ ⟨pR,Mh,xz⟩ ?_;rotate_left
  ·intro w zD;obtain⟨g1,g2,g3⟩:=zD;have y0:=zJ g1;obtain⟨z0,z1,z2⟩:=zQ g2;obtain⟨q0,q1,q2,q3,q4,q5,q6⟩:=g3;clear g1 g2;go_simp;rfl
  try simp only[tn]
  refine zAB 1 ?_ rfl ?_ ⟨pR,Mh,xz⟩ ?_;rotate_left
  ·intro w zD;obtain⟨g1,g2,g3⟩:=zD;have y0:=zJ g1;obtain⟨z0,z1,z2⟩:=zQ g2;obtain⟨q0,q1,q2,q3,q4,q5,q6⟩:=g3;clear g1 g2;go_simp;rfl
  try simp only[tn]
  refine zAB 2 ?_ rfl ?_ ⟨pR,Mh,xz⟩ ?_;rotate_left
  ·intro w zD;obtain⟨g1,g2,g3⟩:=zD;have y0:=zJ g1;obtain⟨z0,z1,z2⟩:=zQ g2;obtain⟨q0,q1,q2,q3,q4,q5,q6⟩:=g3;clear g1 g2;go_simp;rfl
  try simp only[tn]
  refine zAB 4 ?_ rfl ?_ ⟨pR,Mh,xz⟩ ?_;rotate_left
  ·intro w zD;obtain⟨g1,g2,g3⟩:=zD;have y0:=zJ g1;obtain⟨z0,z1,z2⟩:=zQ g2;obtain⟨q0,q1,q2,q3,q4,q5,q6⟩:=g3;clear g1 g2;go_simp;rfl
  try simp only[tn]
  refine zAB 7 ?_ rfl ?_ ⟨pR,Mh,xz⟩ ?_;rotate_left
  ·intro w zD;obtain⟨g1,g2,g3⟩:=zD;have y0:=zJ g1;obtain⟨z0,z1,z2⟩:=zQ g2;obtain⟨q0,q1,q2,q3,q4,q5,q6⟩:=g3;clear g1 g2;go_simp;rfl
  try simp only[tn]
  refine zAB 3 ?_ rfl ?_ ⟨pR,Mh,xz⟩ ?_;rotate_left
  ·intro w zD;obtain⟨g1,g2,g3⟩:=zD;have y0:=zJ g1;obtain⟨z0,z1,z2⟩:=zQ g2;obtain⟨q0,q1,q2,q3,q4,q5,q6⟩:=g3;clear g1 g2;go_simp;rfl
  try simp only[tn]
  refine zAB 5 ?_ rfl ?_ ⟨pR,Mh,xz⟩ ?_;rotate_left
  ·intro w zD;obtain⟨g1,g2,g3⟩:=zD;have y0:=zJ g1;obtain⟨z0,z1,z2⟩:=zQ g2;obtain⟨q0,q1,q2,q3,q4,q5,q6⟩:=g3;clear g1 g2;go_simp;rfl
  try simp only[tn]
  refine zAB 6 ?_ rfl ?_ ⟨pR,Mh,xz⟩ ?_;rotate_left
  ·intro w zD;obtain⟨g1,g2,g3⟩:=zD;have y0:=zJ g1;obtain⟨z0,z1,z2⟩:=zQ g2;obtain⟨q0,q1,q2,q3,q4,q5,q6⟩:=g3;clear g1 g2;go_simp;rfl
  try simp only[tn]
  refine zAC 8 rfl fun K hK=>?_
  have hvo:=Uz q am cm m au cu us f W_13 KA.plain Fj Hh.out Eh J8.out dd.out KA.cap HZ.out
  go_simp
  refine hvo.mono ?_
  clear hvo
  rintro e UW ⟨v9,rfl,hva,h⟩
  have FE:Hid (uq v9 (yY q.r.s q.r.l q.r.g m us f)):=hva
  clear hva
  have Sb:=xz.block (h.block _ yl)
  have Si:=Nat.lt_of_lt_of_le yl h.size
  clear xz yl
  have yl:=Si
  clear Si
  have GN:=E7.trans (h.mono (by have:=Ea.out;have:=E7.size;omega))
  clear E7
  have Gc:=bt cY h
  have Kh:=zA5 h pR
  have JD:=zA5 h Mh
  have Kx:=zA5 h V_8
  have An:=KA.below h
  have zIY:=Fj.below h
  have zHB:=Eh.below h
  have zKR:=h.size
  clear pR Mh V_8 KA Fj Eh h cY
  refine hK _ _ (fun _=>⟨Kh,JD,Sb⟩) ?_
  clear hK K
  try simp only[tn]
  refine zAB 9 ?_ rfl ?_ ⟨Kh,JD,Sb⟩ ?_;rotate_left
  ·intro w zD;obtain⟨g1,g2,g3⟩:=zD;have y0:=zJ g1;obtain⟨z0,z1,z2⟩:=zQ g2;obtain⟨q0,q1,q2,q3,q4,q5,q6⟩:=g3;clear g1 g2;go_simp;rfl
  try simp only[tn]
  refine zAC 10 rfl fun K hK=>?_
  have zv:=(cell_of_row _ _ _ _ _ _ Kx).trans (kS kc)
  have fv:=zF (o:=k) Kx
  have sv:=heap_setCell_same UW V k _ _ (.string v9) Kx
  rw[Tb kc]at sv
  have HVN:=Ea.out
  have zHP:Below V W2 (UW.setCell ⟨V,k,none⟩ (.string v9)):=GN.setCell (Nat.le_refl V) _
  have sG:Below w.heap.size w (UW.setCell ⟨V,k,none⟩ (.string v9)):=Gc.setCell HVN.1 _
  have AZ:=(heap_setCell_other UW ⟨V,k,none⟩ (BC) (.string v9) (by show BC≠V;omega)).trans Kh
  have Cn:=(heap_setCell_other UW ⟨V,k,none⟩ (BP) (.string v9) (by show BP≠V;omega)).trans JD
  have Ax:=Sb.block (heap_setCell_other UW ⟨V,k,none⟩ b (.string v9) (by show b≠V;have:=db.out;omega))
  go_simp
  generalize (UW.setCell ⟨V,k,none⟩ (.string v9))=W9 at *
  clear zv fv Kh JD Kx An zIY zHB Sb GN Gc yl HVN
  refine hK _ _ (fun _=>⟨AZ,Cn,Ax⟩) ?_
  clear hK K
  try simp only[tn]
  refine zAE ?_
  have HN:Hid (∀j,j<3→(j<k+1→uq (jf vs k v9 j) (vI L m us f up j))∧(k+1≤j→jf vs k v9 j=yJ)):=fun j hj=>by
   refine⟨fun hjk=>?_,fun hjk=>?_⟩
   ·by_cases e:j=k
    ·subst e
     unfold jf vI
     rw[if_pos rfl,(tB HA1.out).2,NR.out]
     exact FE.out
    ·unfold jf
     rw[if_neg e]
     exact(HV.out j hj).1 (by omega)
   ·unfold jf
    rw[if_neg (by omega)]
    exact(HV.out j hj).2 (by omega)
  clear AZ Cn Ax
  clear HV FE
  go_wp2
  go_roundw
  case rel=>exact⟨k+1,jf vs k v9,by go_num,by omega,sv,HN,zHP⟩
  case measure=>simp[intOf];omega
def YR(P:Nat→Prop)(L:List Rp)(x:Ac)(w:World)(e:Ending)(w':World):Prop:=
 Below w.heap.size w w'∧((rS L x≠0∧e= .returned (.tuple #[.agg #[.slice none 0 0],.bool false,.int .i64 (rS L x)]))∨
  (rS L x=0∧∃B cap qs,e= .returned (.tuple #[.agg #[.slice (some ⟨B,0,none⟩) 3 cap],.bool (dT L x),.int .i64 0])∧qs.map Rq.r=dL L x∧xO P w' (some ⟨B,0,none⟩) qs))
def Sx(E:Int)(fr:Rp)(P:Nat→Prop)(q:Rq)(w:World):Prop:=E=0→q.r=fr∧q.HP P w
theorem Sx.below{E:Int}{fr:Rp}{P:Nat→Prop}{q:Rq}{w w':World}(h:Sx E fr P q w)(hb:Below w.heap.size w w'):Sx E fr P q w':=fun e=>⟨(h e).1,(h e).2.below hb⟩
theorem Sx.put{E:Int}{fr:Rp}{P:Nat→Prop}{q:Rq}{w w':World}(h:Sx E fr P q w)(hk:PY P w w'):Sx E fr P q w':=fun e=>⟨(h e).1,(h e).2.put hk⟩
theorem Sx.more{E:Int}{fr:Rp}{P P':Nat→Prop}{q:Rq}{w:World}(h:Sx E fr P q w)(hp: ∀k,k<w.heap.size→P' k→P k):Sx E fr P' q w:=fun e=>⟨(h e).1,(h e).2.more hp⟩
theorem KT{P:Nat→Prop}{q:Rq}{w:World}(h:q.HP P w):(zu q).HP P w:=⟨h.hs,h.hl,rk,qa,h.ns,h.nl,Nat.zero_le _,Nat.zero_le _,h.cap⟩
theorem Z8.uni{P:Nat→Prop}{n r:Rq}{w w':World}{e:Ending}(h:Z8 P n r w e w'):Below w.heap.size w w'∧∃q:Rq,e= .returned (.tuple #[q.val,.int .i64 (rA n.r r.r)])∧(rA n.r r.r=0→q.r=uW n.r r.r∧q.HP P w'):=by
 obtain⟨hb,⟨yM,rfl⟩|⟨h0,q,rfl,h1,h2⟩⟩:=h
 ·exact⟨hb,AP,rfl,fun e=>absurd e yM⟩
 ·exact⟨hb,q,by rw[h0],fun _=>⟨h1,h2⟩⟩
theorem WJ(P:Nat→Prop)(x:Ac)(a:Option Addr)(c:Nat)(l:List Rq)(am:Option Addr)(cm:Nat)(au:Option Addr)(cu:Nat)(w:World)(hP: ∀k,P k→k<w.heap.size)(h:xO P w a l)(h3:l.length=3)(hC:zi (l.map Rq.r)=0)(hm:ym P w am x.m)(hml:x.m.length≤9223372036854775807)(hu:zx w au x.us)(hul:x.us.length≤9223372036854775807):
  Calls Tryz.prog 90 #[.agg #[.slice a 3 c],x.val am cm au cu] w (YR P (l.map Rq.r) x w):=by
 obtain⟨L,hL⟩: ∃L,L=l.map Rq.r:=⟨_,rfl⟩
 obtain⟨P2,hP2⟩: ∃P2:Nat→Prop,P2=fun k=>P k∨k=w.heap.size+2:=⟨_,rfl⟩
 have Ff: ∀k,k<w.heap.size→P2 k→P k:=fun k hk q=>by
  rw[hP2]at q
  rcases q with q|q
  ·exact q
  ·omega
 have AL:=fun(W:World) (hb:Below w.heap.size w W) (hW:w.heap.size+2<W.heap.size)=>Us P2 a c l am cm x.m au cu x.us x.f x.up x.la W (fun k q=>by
  rw[hP2]at q
  rcases q with q|q
  ·exact Nat.lt_of_lt_of_le (hP k q) hb.size
  ·omega) ((h.more Ff).below hb) h3 hC ((hm.more Ff).below hb) hml (hu.below hb) hul
 rw[←hL]at hC AL⊢
 have NN:Hid (∀k (h:k<l.length),yq L k=l[k].r):=fun k hk=>by
  rw[hL];simp[yq,hk]
 have Cs:Hid (l.map Rq.r=L):=hL.symm
 obtain⟨PO,xY⟩: ∃PP:Ending→World→Prop,Hid (PP=YR P L x w):=⟨_,rfl⟩
 rw[←xY.out]
 have eQ:Hid (∀k,P k→k<w.heap.size):=hP
 have HC:Hid (zi L=0):=hC
 have Lj:Hid (∀i,i<3→(yq L i).err=0):=(yr.1 hC).2.1
 have EN:Hid (rS L x=if vx x≠0 then vx x else if x.k=1 then pE L x.m x.us x.f x.up x.la else if x.k=2 then rA (top L) (yq L (oN x))else 0):=(Fw hC x).symm
 have nJ:Hid (l.length=3):=h3
 obtain⟨b,off,rfl⟩:=h.plain.some (by omega)
 obtain⟨kC,kA,kR,hB⟩:=xN w (.cells #[.slice (some ⟨b,off,none⟩) 3 c] 24) (x.blk am cm au cu) (.cells #[.slice none 0 0] 24)
 have ec:=hm.plain.below hB
 have eM:=hu.below hB
 have Hh:Hid (x.m.length≤9223372036854775807):=hml
 have J8:Hid (x.us.length≤9223372036854775807):=hul
 obtain⟨BC,ET⟩: ∃p,p=w.heap.size:=⟨_,rfl⟩
 obtain⟨BA,mq⟩: ∃p,p=w.heap.size+1:=⟨_,rfl⟩
 obtain⟨R,SI⟩: ∃p,p=w.heap.size+2:=⟨_,rfl⟩
 have Es:Hid (w.heap.size≤BC∧BC<R∧BA<R∧w.heap.size≤R):=by unfold Hid;omega
 have HP2:Hid (∀k,P k→P2 k):=fun k q=>by rw[hP2];exact .inl q
 have zF7:Hid (∀k,¬P2 k→k≠R):=fun k q e=>q (by rw[hP2];exact .inr (e.trans SI))
 rw[←SI]at AL
 clear hL hP hC h3 hml hul hP2 Ff
 go_enter Tryz.func90,Tryz.ntmps90
 go_upto_region 1 with fail
 rw[←ET]at kC
 rw[←mq]at kA
 rw[←SI]at kR
 rw[←SI,←mq,←ET]
 clear ET mq SI
 generalize ((w.alloc (.cells #[.slice (some ⟨b,off,none⟩) 3 c] 24)).alloc (x.blk am cm au cu)).alloc (.cells #[.slice none 0 0] 24)=W0 at *
 have UD:w.heap.size≤R:=Es.out.2.2.2
 have vF:Hid (∀E,rS L x=E→E≠0→∀W',Below w.heap.size w W'→PO (.returned (.tuple #[.agg #[.slice none 0 0],.bool false,.int .i64 E])) W'):=fun E h1 h2 W' hb=>by
  rw[xY.out]
  exact⟨hb,.inl ⟨by rw[h1];exact h2,by rw[h1]⟩⟩
 obtain⟨y0,y1,y2,y3,y4,y5,y6⟩:=zI kA
 have Am:Hid (vx x=if x.k=1 then(if x.o=0 then 0 else 1)else if x.k=2∨x.k=3 then(if ul x=true then 1 else if x.o<0∨3≤x.o then 3 else 0)else 7):=rfl
 have XR:Hid (∀E,vx x=E→E≠0→∀W',Below w.heap.size w W'→PO (.returned (.tuple #[.agg #[.slice none 0 0],.bool false,.int .i64 E])) W'):=fun E h1 h2=>vF.out E (by rw[EN.out,h1,if_pos h2]) h2
 go_wp2_with fail
 refine(yg x.k 1 3 W0).mono ?_
 rintro e w1 ⟨rfl,ri⟩
 rw[ri]
 clear ri w1
 cases hb13:ur x.k 1 3 with
 |false=>
  have HE:Hid (∀W',Below w.heap.size w W'→PO (.returned (.tuple #[.agg #[.slice none 0 0],.bool false,.int .i64 7])) W'):=XR.out 7 (by
   have hn: ¬(1≤x.k∧x.k≤3):=of_decide_eq_false hb13
   rw[Am.out,if_neg (by omega),if_neg (by omega)]) (by decide)
  have g2:=zF (o:=0) kR
  have o2:=zJ kR
  have i0:=zJ (xb (u:=.slice none 0 0) kR)
  have HB:Hid (Below w.heap.size w (W0.setCell ⟨R,0,none⟩ (.slice none 0 0))):=hB.setCell UD _
  clear kR hB kC kA
  go_wp2
  refine bodyPost_ret (v:=.tuple #[.agg #[.slice none 0 0],.bool false,.int .i64 7]) (by simp[results,Tryz.results90,go_sem,i0]) rfl ?_
  exact HE.out _ HB.out
 |true=>
 have LL:1≤x.k∧x.k≤3:=of_decide_eq_true hb13
 have Ah:Hid (1≤x.k∧x.k≤3):=LL
 clear hb13 LL
 by_cases k1:x.k=1
 case pos=>
  have g1:(x.k==1)=true:=by simpa using k1
  have g1b:decide (1<x.k)=false:=by simp;omega
  have XD:Hid (x.k=1):=k1
  by_cases o0:x.o=0
  case neg=>
   have g3:(x.o != 0)=true:=by simpa using o0
   have HE:Hid (∀W',Below w.heap.size w W'→PO (.returned (.tuple #[.agg #[.slice none 0 0],.bool false,.int .i64 1])) W'):=XR.out 1 (by rw[Am.out,if_pos k1,if_neg o0]) (by decide)
   clear k1 o0
   have g2:=zF (o:=0) kR
   have o2:=zJ kR
   have i0:=zJ (xb (u:=.slice none 0 0) kR)
   have HB:Hid (Below w.heap.size w (W0.setCell ⟨R,0,none⟩ (.slice none 0 0))):=hB.setCell UD _
   clear kR hB kC kA
   go_wp2
   refine bodyPost_ret (v:=.tuple #[.agg #[.slice none 0 0],.bool false,.int .i64 1]) (by simp[results,Tryz.results90,go_sem,i0]) rfl ?_
   exact HE.out _ HB.out
  have g3:(x.o != 0)=false:=by simpa using o0
  have EB:Hid (vx x=0):=by unfold Hid;rw[Am.out,if_pos k1,if_pos o0]
  have Mj:Hid (rS L x=pE L x.m x.us x.f x.up x.la):=by unfold Hid;rw[EN.out,EB.out,if_neg (by decide),if_pos k1]
  have hbt:ur x.o 0 2=true:=by rw[o0];rfl
  clear k1 o0
  go_wp2_with fail
  refine(yg x.o 0 2 W0).mono ?_
  rintro e w1 ⟨rfl,ri⟩
  rw[ri,hbt]
  clear ri w1 hbt
  have yC:=zJ kC
  have hc:=AL W0 hB (zG kR)
  clear AL
  go_wp2_with fail
  refine hc.mono ?_
  clear hc y0 y1 y2 y3 y4 y5 y6 yC
  rintro e W1 ⟨zM,Hd⟩
  have zT:=bt hB zM
  have jR:=zA5 zM kR
  clear kC kA kR zM hB
  rcases Hd with⟨yM,rfl⟩|⟨h0,B,cap,qs,rfl,ng,hQ⟩
  ·have HE:Hid (∀W',Below w.heap.size w W'→PO (.returned (.tuple #[.agg #[.slice none 0 0], .bool false, .int .i64 (pE L x.m x.us x.f x.up x.la)])) W'):=vF.out _ Mj.out yM
   clear yM
   generalize pE L x.m x.us x.f x.up x.la=E at *
   have g2:=zF (o:=0) jR
   have o2:=zJ jR
   have i0:=zJ (xb (u:=.slice none 0 0) jR)
   have HB:Hid (Below w.heap.size w (W1.setCell ⟨R,0,none⟩ (.slice none 0 0))):=zT.setCell UD _
   clear jR zT Mj
   go_wp2
   refine bodyPost_ret (v:=.tuple #[.agg #[.slice none 0 0],.bool false,.int .i64 E]) (by simp[results,Tryz.results90,go_sem,i0]) rfl ?_
   exact HE.out _ HB.out
  ·have Kd:Hid (rS L x=0):=Mj.out.trans h0
   have HF:Hid (PO (.returned (.tuple #[.agg #[.slice (some ⟨B,0,none⟩) 3 cap],.bool (mb L x.m x.us x.f x.up x.la),.int .i64 0])) (W1.setCell ⟨R,0,none⟩ (.slice (some ⟨B,0,none⟩) 3 cap))):=by
    unfold Hid
    rw[xY.out]
    refine⟨zT.setCell UD _,.inr ⟨Kd.out,B,cap,qs,?_,?_,?_⟩⟩
    ·unfold dT;rw[if_pos XD.out]
    ·unfold dL;rw[if_pos XD.out];exact ng
    ·exact(hQ.put ⟨Nat.le_of_eq (World.size_setCell _ _ _).symm,fun k _ hk=>heap_setCell_other W1 ⟨R,0,none⟩ k _ (zF7.out k hk)⟩).more (fun k _ q=>HP2.out k q)
   have g2:=zF (o:=0) jR
   have o2:=zJ jR
   have i0:=zJ (xb (u:=.slice (some ⟨B,0,none⟩) 3 cap) jR)
   clear jR zT hQ ng h0
   generalize mb L x.m x.us x.f x.up x.la=d at *
   go_wp2
   refine bodyPost_ret (v:=.tuple #[.agg #[.slice (some ⟨B,0,none⟩) 3 cap],.bool d,.int .i64 0]) (by simp[results,Tryz.results90,go_sem,i0]) rfl ?_
   exact HF.out
 have g1:(x.k==1)=false:=by simpa using k1
 have g1b:decide (1<x.k)=true:=by have:=Ah.out;simp;omega
 have XD:Hid (x.k≠1):=k1
 have Ct:Hid (x.k=2∨x.k=3):=by have:=Ah.out;unfold Hid;omega
 have FR:Hid (vx x=if ul x=true then 1 else if x.o<0∨3≤x.o then 3 else 0):=by unfold Hid;rw[Am.out,if_neg k1,if_pos Ct.out]
 have XM:=jK am cm x.m au cu x.us x.f none 0 [] none 0 [] false W0 ec eM (fun i hi=>absurd hi (Nat.not_lt_zero i)) (fun i hi=>absurd hi (Nat.not_lt_zero i)) Hh.out J8.out
 clear k1 AL Am ec eM
 go_wp2_with fail
 refine XM.mono ?_
 clear XM y0 y1 y2 y3 y4 y5 y6
 rintro e W1 ⟨r,rfl,hr,zM⟩
 have zT:=bt hB zM
 have jC:=zA5 zM kC
 have jA:=zA5 zM kA
 have jR:=zA5 zM kR
 have HRR:Hid (r=true↔(x.m=[]∧x.us=[]∧x.f=false)):=hr
 obtain⟨y0,y1,y2,y3,y4,y5,y6⟩:=zI jA
 clear kC kA kR zM hB hr
 have qP:Hid (ul x=true→∀W',Below w.heap.size w W'→PO (.returned (.tuple #[.agg #[.slice none 0 0],.bool false,.int .i64 1])) W'):=fun e=>XR.out 1 (by rw[FR.out,if_pos e]) (by decide)
 cases r with
 |false=>
  have HE:=(show Hid _ from qP.out (by
   have hn: ¬(x.m=[]∧x.us=[]∧x.f=false):=fun e=>by have:=HRR.out.2 e;cases this
   unfold ul
   cases hf:x.f with
   |true=>simp
   |false=>
    by_cases h1:x.m=[]
    ·have h2:x.us≠[]:=fun e=>hn ⟨h1,e,hf⟩
     have:0<x.us.length:=List.length_pos_iff.2 h2
     simp[this]
    ·have:0<x.m.length:=List.length_pos_iff.2 h1
     simp[this]))
  have g2:=zF (o:=0) jR
  have o2:=zJ jR
  have i0:=zJ (xb (u:=.slice none 0 0) jR)
  have HB:Hid (Below w.heap.size w (W1.setCell ⟨R,0,none⟩ (.slice none 0 0))):=zT.setCell UD _
  clear jR zT jC jA
  go_wp2
  refine bodyPost_ret (v:=.tuple #[.agg #[.slice none 0 0],.bool false,.int .i64 1]) (by simp[results,Tryz.results90,go_sem,i0]) rfl ?_
  exact HE.out _ HB.out
 |true=>
 obtain⟨YW,zA4,hf0⟩:=HRR.out.1 rfl
 have D9:Hid (ul x=(x.up != 0||x.la != 0)):=by unfold Hid ul;rw[YW,zA4,hf0];simp
 clear YW zA4 hf0
 by_cases u0:x.up=0
 case neg=>
  have g4:(x.up != 0)=true:=by simpa using u0
  have HE:=(show Hid _ from qP.out (by rw[D9.out,g4];rfl))
  clear u0
  have g2:=zF (o:=0) jR
  have o2:=zJ jR
  have i0:=zJ (xb (u:=.slice none 0 0) jR)
  have HB:Hid (Below w.heap.size w (W1.setCell ⟨R,0,none⟩ (.slice none 0 0))):=zT.setCell UD _
  clear jR zT jC jA
  go_wp2
  refine bodyPost_ret (v:=.tuple #[.agg #[.slice none 0 0],.bool false,.int .i64 1]) (by simp[results,Tryz.results90,go_sem,i0]) rfl ?_
  exact HE.out _ HB.out
 have g4:(x.up != 0)=false:=by simpa using u0
 by_cases l0:x.la=0
 case neg=>
  have g5:(x.la != 0)=true:=by simpa using l0
  have HE:=(show Hid _ from qP.out (by rw[D9.out,g4,g5];rfl))
  clear u0 l0
  have g2:=zF (o:=0) jR
  have o2:=zJ jR
  have i0:=zJ (xb (u:=.slice none 0 0) jR)
  have HB:Hid (Below w.heap.size w (W1.setCell ⟨R,0,none⟩ (.slice none 0 0))):=zT.setCell UD _
  clear jR zT jC jA
  go_wp2
  refine bodyPost_ret (v:=.tuple #[.agg #[.slice none 0 0],.bool false,.int .i64 1]) (by simp[results,Tryz.results90,go_sem,i0]) rfl ?_
  exact HE.out _ HB.out
 have g5:(x.la != 0)=false:=by simpa using l0
 have DJ:Hid (vx x=if x.o<0∨3≤x.o then 3 else 0):=by unfold Hid;rw[FR.out,D9.out,g4,g5];rfl
 clear u0 l0 qP FR D9
 go_wp2_with fail
 refine(yg x.o 0 2 W1).mono ?_
 rintro e w1 ⟨rfl,ri⟩
 rw[ri]
 clear ri w1
 cases FV:ur x.o 0 2 with
 |false=>
  have HE:Hid (∀W',Below w.heap.size w W'→PO (.returned (.tuple #[.agg #[.slice none 0 0],.bool false,.int .i64 3])) W'):=XR.out 3 (by
   have hn: ¬(0≤x.o∧x.o≤2):=of_decide_eq_false FV
   rw[DJ.out,if_pos (by omega)]) (by decide)
  have g2:=zF (o:=0) jR
  have o2:=zJ jR
  have i0:=zJ (xb (u:=.slice none 0 0) jR)
  have HB:Hid (Below w.heap.size w (W1.setCell ⟨R,0,none⟩ (.slice none 0 0))):=zT.setCell UD _
  clear jR zT jC jA
  go_wp2
  refine bodyPost_ret (v:=.tuple #[.agg #[.slice none 0 0],.bool false,.int .i64 3]) (by simp[results,Tryz.results90,go_sem,i0]) rfl ?_
  exact HE.out _ HB.out
 |true=>
 have zG5:0≤x.o∧x.o≤2:=of_decide_eq_true FV
 have EB:Hid (vx x=0):=by unfold Hid;rw[DJ.out,if_neg (by omega)]
 have Mg:Hid (rS L x=if x.k=2 then rA (top L) (yq L (oN x))else 0):=by unfold Hid;rw[EN.out,EB.out,if_neg (by decide),if_neg XD.out]
 obtain⟨o,hod⟩: ∃o,o=oN x:=⟨_,rfl⟩
 have hoI:x.o=(o:Int):=by rw[hod];unfold oN;omega
 have gA:o<3:=by omega
 have HOD:Hid (oN x=o):=hod.symm
 rw[hoI]at y1
 rw[←hod]at Mg
 have hxo:x.o=(o:Int):=hoI
 have ny:Hid (x.o=(o:Int)):=hoI
 have zTE:(o:Int)<3:=by omega
 clear FV zG5 DJ hod hoI hxo XR EN
 obtain⟨B,cap,W5,r1,o5,xu⟩:=WS W1 (some ⟨b,off,none⟩) c l (h.plain.below zT) (by have:=nJ.out;omega) (by have:=nJ.out;omega)
 rw[nJ.out]at r1
 have XF:(.slice (some ⟨B,0,none⟩) l.length cap:Value)= .slice (some ⟨B,0,none⟩) 3 cap:=by rw[nJ.out]
 rw[XF]at o5
 have qY:=xu.trans ((zB W5 (.cells #[.slice (some ⟨B,0,none⟩) 3 cap] 24)).mono xu.size)
 have kO:=heap_alloc_new W5 (.cells #[.slice (some ⟨B,0,none⟩) 3 cap] 24)
 have o6:=zL o5 (zB W5 (.cells #[.slice (some ⟨B,0,none⟩) 3 cap] 24))
 have yC:=zJ (((zB W1 (.cells #[] 36)).block _ (zG jC)).trans jC)
 have hHL:ym P w am x.m:=hm
 clear XF o5 xu
 go_upto_region 10 with(at_builtin;refine Lib.wpList_append_run _ rfl _ _ 22 22 rfl _ _ rfl rfl _ _ r1 ?_)
 obtain⟨BO,C8⟩: ∃p,p=W5.heap.size:=⟨_,rfl⟩
 rw[←C8]at kO⊢
 generalize W5.alloc (.cells #[.slice (some ⟨B,0,none⟩) 3 cap] 24)=W6 at *
 clear r1 C8 yC y0 y1 y2 y3 y4 y5 y6
 have vC:=zA5 qY jC
 have vA:=zA5 qY jA
 have vR:=zA5 qY jR
 have nE:=bt zT qY
 obtain⟨base,xq⟩: ∃n,n=W1.heap.size:=⟨_,rfl⟩
 have qN:Hid (BC<base∧BA<base∧R<base∧w.heap.size≤base):=by rw[xq];exact⟨zG jC,zG jA,zG jR,zT.size⟩
 rw[←xq]at o6
 obtain⟨⟨zIJ,mE⟩,fk,MF,NW⟩:=cK o6
 have eO:=zG mE
 have uO:3≤cap∧cap≤9223372036854775807:=⟨MF,NW⟩
 have aa:Hid (base≤W6.heap.size):=by unfold Hid;omega
 obtain⟨P3,MY⟩: ∃P3:Nat→Prop,P3=fun k=>P k∨k=R∨k=B:=⟨_,rfl⟩
 have ky:=Es.out
 have PG:=qN.out
 have A7:Hid (∀k,k<w.heap.size→P3 k→P k):=fun k hk q=>by
  rw[MY]at q
  rcases q with q|q|q
  ·exact q
  ·omega
  ·omega
 have EH:Hid (∀k,P k∨k=R→P3 k):=fun k q=>by rw[MY];exact q.elim .inl (fun q=>.inr (.inl q))
 have KM:Hid (∀k,¬P3 k→k≠R∧k≠B):=fun k q=>by rw[MY]at q;exact⟨fun e=>q (.inr (.inl e)),fun e=>q (.inr (.inr e))⟩
 have Mz:Hid (∀k,P3 k→k<W6.heap.size):=fun k q=>by
  rw[MY]at q
  have hs:=nE.size
  have hR6:=zG vR
  rcases q with q|q|q
  ·have:=eQ.out k q;omega
  ·omega
  ·omega
 have Lr:Hid (∀q∈l,∀W,Below w.heap.size w W→q.HP P3 W):=fun q hq W hW=>by
  obtain⟨i,hi,rfl⟩:=List.getElem_of_mem hq
  exact((h.each hi).more A7.out).below hW
 have HKO:Hid (R≠BO∧B≠BO):=by
  have h1:=zG kO
  refine⟨fun e=>?_,fun e=>?_⟩
  ·rw[e]at vR;rw[kO]at vR;cases vR
  ·rw[e]at mE;rw[kO]at mE;cases mE
 have jF:o<l.length:=by have:=nJ.out;omega
 have HRO:Hid (yq L o=l[o].r):=NN.out o jF
 -- the vj end: one replica put anew
 have MV:Hid (∀(W:World) (q:Rq),q.r=mc L x→q.HP P3 W→rS L x=0→Below w.heap.size w W→W.ownsRow base 36 7 (.slice (some ⟨B,0,none⟩) 3 cap) (l.set o q).length (tb (l.set o q))→PO (.returned (.tuple #[.agg #[.slice (some ⟨B,0,none⟩) 3 cap],.bool true,.int .i64 0])) (W.setCell ⟨R,0,none⟩ (.slice (some ⟨B,0,none⟩) 3 cap))):=fun W q Vm hq h0 hb ho=>by
  rw[xY.out]
  refine⟨hb.setCell Es.out.2.2.2 _,.inr ⟨h0,B,cap,l.set o q,?_,?_,?_⟩⟩
  ·unfold dT;rw[if_neg XD.out]
  ·unfold dL;rw[if_neg XD.out,HOD.out,List.map_set,Cs.out,Vm]
   have Q6:L=l3 (yq L):=(Vx (yr.1 HC.out).1).symm
   obtain⟨y,hy⟩: ∃y,y=mc L x:=⟨_,rfl⟩
   rw[←hy]
   conv=>lhs;rw[Q6]
   rw[MM gA];rfl
  ·have hr:=(qG (P:=fun k=>P k∨k=R) ho (fun k q=>by
    rcases q with q|q
    ·have:=eQ.out k q;have:=qN.out;omega
    ·have:=qN.out;omega) (fun y hy=>by
     rcases List.mem_or_eq_of_mem_set hy with c|c
     ·exact(Lr.out y c W hb).more (fun k _ e=>EH.out k e)
     ·rw[c];exact hq.more (fun k _ e=>EH.out k e))).1
   exact(hr.put ⟨Nat.le_of_eq (World.size_setCell _ _ _).symm,fun k _ hk=>heap_setCell_other W ⟨R,0,none⟩ k _ (fun e=>hk (.inr e))⟩).more (fun k _ q=>.inl q)
 clear jC jA jR qY zT MY ky PG mE xq
 obtain⟨y0,y1,y2,y3,y4,y5,y6⟩:=zI vA
 rw[ny.out]at y1
 by_cases k3:x.k=3
 case pos=>
  have g6:(x.k==3)=true:=by simpa using k3
  have Kd:Hid (rS L x=0):=by unfold Hid;rw[Mg.out,if_neg (by omega)]
  obtain⟨q,bh⟩: ∃q,q=l[o]:=⟨_,rfl⟩
  have G7:Hid (q∈l):=by rw[bh];exact List.getElem_mem jF
  have PK:bY W6 b (off+o*7) q:=by rw[bh];exact((h.below nE).plain.at jF).1
  have Dg:Hid (mc L x=(zu q).r):=by
   unfold Hid mc
   rw[if_neg (by omega),HOD.out,HRO.out,←bh];rfl
  have db:Hid (b<w.heap.size):=by
   obtain⟨_,_,e,hb,_⟩:=h.plain o jF
   cases e;exact hb
  have yl:b<W6.heap.size:=Nat.lt_of_lt_of_le db.out nE.size
  have Lw:=Below.refl W6.heap.size W6
  clear k3 bh Mg
  go_upto_region 11 with fail
  clear y0 y1 y2 y3 y4 y5 y6
  have zk:=zU W6
  have xz:=PK.block (zk.block _ yl)
  clear PK
  have zAN:=zL o6 zk
  clear o6
  have dX:=Nat.lt_of_lt_of_le yl zk.size
  clear yl
  have yl:=dX
  clear dX
  have cY:=bt nE zk
  have pR:=zA5 zk vC
  have gD:=zA5 zk vA
  have RG:=zA5 zk kO
  have zB7:=bt Lw zk
  have Jf:=zk.size
  clear vC vA kO Lw zk nE
  refine zS (fun W=>(W.heap[BC]? =some (.cells #[.slice (some ⟨b,off,none⟩) 3 c] 24))∧(W.heap[BA]? =some (x.blk am cm au cu))∧(W.heap[BO]? =some (.cells #[.slice (some ⟨B,0,none⟩) 3 cap] 24))∧(bY W b (off+o*7) q)) (fun _=>false) (by kernel_rfl) ⟨pR,gD,RG,xz⟩ (fun hS=>?_)
  clear hS
  generalize W6.drew=ql at *
  refine zAB 0 ?_ rfl ?_ ⟨pR,gD,RG,xz⟩ ?_;rotate_left
  ·intro w zD;obtain⟨g1,g2,g3,g4⟩:=zD;have yC:=zJ g1;obtain⟨y0,y1,y2,y3,y4,y5,y6⟩:=zI g2;rw[ny.out]at y1;have yO:=zJ g3;obtain⟨q0,q1,q2,q3,q4,q5,q6⟩:=g4;clear g1 g2 g3;go_simp;rfl
  try simp only[tn]
  refine zAB 2 ?_ rfl ?_ ⟨pR,gD,RG,xz⟩ ?_;rotate_left
  ·intro w zD;obtain⟨g1,g2,g3,g4⟩:=zD;have yC:=zJ g1;obtain⟨y0,y1,y2,y3,y4,y5,y6⟩:=zI g2;rw[ny.out]at y1;have yO:=zJ g3;obtain⟨q0,q1,q2,q3,q4,q5,q6⟩:=g4;clear g1 g2 g3;go_simp;rfl
  try simp only[tn]
  refine zAB 4 ?_ rfl ?_ ⟨pR,gD,RG,xz⟩ ?_;rotate_left
  ·intro w zD;obtain⟨g1,g2,g3,g4⟩:=zD;have yC:=zJ g1;obtain⟨y0,y1,y2,y3,y4,y5,y6⟩:=zI g2;rw[ny.out]at y1;have yO:=zJ g3;obtain⟨q0,q1,q2,q3,q4,q5,q6⟩:=g4;clear g1 g2 g3;go_simp;rfl
  try simp only[tn]
  refine zAB 6 ?_ rfl ?_ ⟨pR,gD,RG,xz⟩ ?_;rotate_left
  ·intro w zD;obtain⟨g1,g2,g3,g4⟩:=zD;have yC:=zJ g1;obtain⟨y0,y1,y2,y3,y4,y5,y6⟩:=zI g2;rw[ny.out]at y1;have yO:=zJ g3;obtain⟨q0,q1,q2,q3,q4,q5,q6⟩:=g4;clear g1 g2 g3;go_simp;rfl
  try simp only[tn]
  refine zAB 1 ?_ rfl ?_ ⟨pR,gD,RG,xz⟩ ?_;rotate_left
  ·intro w zD;obtain⟨g1,g2,g3,g4⟩:=zD;have yC:=zJ g1;obtain⟨y0,y1,y2,y3,y4,y5,y6⟩:=zI g2;rw[ny.out]at y1;have yO:=zJ g3;obtain⟨q0,q1,q2,q3,q4,q5,q6⟩:=g4;clear g1 g2 g3;go_simp;rfl
  try simp only[tn]
  refine zAB 3 ?_ rfl ?_ ⟨pR,gD,RG,xz⟩ ?_;rotate_left
  ·intro w zD;obtain⟨g1,g2,g3,g4⟩:=zD;have yC:=zJ g1;obtain⟨y0,y1,y2,y3,y4,y5,y6⟩:=zI g2;rw[ny.out]at y1;have yO:=zJ g3;obtain⟨q0,q1,q2,q3,q4,q5,q6⟩:=g4;clear g1 g2 g3;go_simp;rfl
  try simp only[tn]
  refine zAB 5 ?_ rfl ?_ ⟨pR,gD,RG,xz⟩ ?_;rotate_left
  ·intro w zD;obtain⟨g1,g2,g3,g4⟩:=zD;have yC:=zJ g1;obtain⟨y0,y1,y2,y3,y4,y5,y6⟩:=zI g2;rw[ny.out]at y1;have yO:=zJ g3;obtain⟨q0,q1,q2,q3,q4,q5,q6⟩:=g4;clear g1 g2 g3;go_simp;rfl
  try simp only[tn]
  refine zAB 7 ?_ rfl ?_ ⟨pR,gD,RG,xz⟩ ?_;rotate_left
  ·intro w zD;obtain⟨g1,g2,g3,g4⟩:=zD;have yC:=zJ g1;obtain⟨y0,y1,y2,y3,y4,y5,y6⟩:=zI g2;rw[ny.out]at y1;have yO:=zJ g3;obtain⟨q0,q1,q2,q3,q4,q5,q6⟩:=g4;clear g1 g2 g3;go_simp;rfl
  try simp only[tn]
  refine zAB 8 ?_ rfl ?_ ⟨pR,gD,RG,xz⟩ ?_;rotate_left
  ·intro w zD;obtain⟨g1,g2,g3,g4⟩:=zD;have yC:=zJ g1;obtain⟨y0,y1,y2,y3,y4,y5,y6⟩:=zI g2;rw[ny.out]at y1;have yO:=zJ g3;obtain⟨q0,q1,q2,q3,q4,q5,q6⟩:=g4;clear g1 g2 g3;go_simp;rfl
  try simp only[tn]
  refine zAB 9 ?_ rfl ?_ ⟨pR,gD,RG,xz⟩ ?_;rotate_left
  ·intro w zD;obtain⟨g1,g2,g3,g4⟩:=zD;have yC:=zJ g1;obtain⟨y0,y1,y2,y3,y4,y5,y6⟩:=zI g2;rw[ny.out]at y1;have yO:=zJ g3;obtain⟨q0,q1,q2,q3,q4,q5,q6⟩:=g4;clear g1 g2 g3;go_simp;rfl
  try simp only[tn]
  refine zAC 10 rfl fun K hK=>?_
  have hid:=UR q ql
  go_simp
  refine hid.mono ?_
  clear hid
  rintro e X4 ⟨rfl,h⟩
  have nS:=xz.block (h.block _ yl)
  clear xz
  have M5:=zL zAN h
  clear zAN
  have T4:=Nat.lt_of_lt_of_le yl h.size
  clear yl
  have yl:=T4
  clear T4
  have Za:=bt cY h
  have Km:=zA5 h pR
  have Kw:=zA5 h gD
  have Kk:=zA5 h RG
  have Ho:=bt zB7 h
  have BE:=h.size
  clear pR gD RG zB7 h cY
  refine hK _ _ (fun _=>⟨Km,Kw,Kk,nS⟩) ?_
  clear hK K
  try simp only[tn]
  refine zAB 11 ?_ rfl ?_ ⟨Km,Kw,Kk,nS⟩ ?_;rotate_left
  ·intro w zD;obtain⟨g1,g2,g3,g4⟩:=zD;have yC:=zJ g1;obtain⟨y0,y1,y2,y3,y4,y5,y6⟩:=zI g2;rw[ny.out]at y1;have yO:=zJ g3;obtain⟨q0,q1,q2,q3,q4,q5,q6⟩:=g4;clear g1 g2 g3;go_simp;rfl
  try simp only[tn]
  refine zAC 12 rfl fun K hK=>?_
  obtain⟨Jo,-,-,-,C9,vo⟩:=qG (P:=P) M5 (fun k qk=>by have:=eQ.out k qk;have:=qN.out;omega) (fun y hy=>(Lr.out y hy _ Za).more (fun k _ e=>EH.out k (.inl e)))
  obtain⟨⟨d0,d1,d2,d3,d4,d5,d6⟩,-⟩:=Jo.plain.at jF
  simp only[Nat.zero_add]at d0 d1 d2 d3 d4 d5 d6
  have f0:=zF (o:=o*7) vo
  have f1:=zF (o:=o*7+1) vo
  have f2:=zF (o:=o*7+2) vo
  have f3:=zF (o:=o*7+3) vo
  have f4:=zF (o:=o*7+4) vo
  have f5:=zF (o:=o*7+5) vo
  have f6:=zF (o:=o*7+6) vo
  have aA:=Yf (zu q) jF M5
  have pW:Hid ((((((((X4.setCell ⟨B,o*7,none⟩ (.slice (zu q).aS (zu q).r.s.length (zu q).cs)).setCell ⟨B,o*7+1,none⟩ (.slice (zu q).al (zu q).r.l.length (zu q).cl)).setCell ⟨B,o*7+2,none⟩ (.int .i64 (zu q).r.g)).setCell ⟨B,o*7+3,none⟩ (.int .i64 (zu q).r.ph)).setCell ⟨B,o*7+4,none⟩ (.slice (zu q).a1 (zu q).r.m.length (zu q).c1)).setCell ⟨B,o*7+5,none⟩ (.slice (zu q).a2 (zu q).r.us.length (zu q).c2)).setCell ⟨B,o*7+6,none⟩ (.bool (zu q).r.f)).ownsRow base 36 7 (.slice (some ⟨B,0,none⟩) 3 cap) (l.set o (zu q)).length (tb (l.set o (zu q)))∧(∀j,j≠B→(((((((X4.setCell ⟨B,o*7,none⟩ (.slice (zu q).aS (zu q).r.s.length (zu q).cs)).setCell ⟨B,o*7+1,none⟩ (.slice (zu q).al (zu q).r.l.length (zu q).cl)).setCell ⟨B,o*7+2,none⟩ (.int .i64 (zu q).r.g)).setCell ⟨B,o*7+3,none⟩ (.int .i64 (zu q).r.ph)).setCell ⟨B,o*7+4,none⟩ (.slice (zu q).a1 (zu q).r.m.length (zu q).c1)).setCell ⟨B,o*7+5,none⟩ (.slice (zu q).a2 (zu q).r.us.length (zu q).c2)).setCell ⟨B,o*7+6,none⟩ (.bool (zu q).r.f)).heap[j]? =X4.heap[j]?)∧∀_:Below w.heap.size w X4,Below w.heap.size w (((((((X4.setCell ⟨B,o*7,none⟩ (.slice (zu q).aS (zu q).r.s.length (zu q).cs)).setCell ⟨B,o*7+1,none⟩ (.slice (zu q).al (zu q).r.l.length (zu q).cl)).setCell ⟨B,o*7+2,none⟩ (.int .i64 (zu q).r.g)).setCell ⟨B,o*7+3,none⟩ (.int .i64 (zu q).r.ph)).setCell ⟨B,o*7+4,none⟩ (.slice (zu q).a1 (zu q).r.m.length (zu q).c1)).setCell ⟨B,o*7+5,none⟩ (.slice (zu q).a2 (zu q).r.us.length (zu q).c2)).setCell ⟨B,o*7+6,none⟩ (.bool (zu q).r.f))):=⟨aA.1,aA.2.1,fun hb=>((((((hb.setCell (Nat.le_trans qN.out.2.2.2 fk) _).setCell (Nat.le_trans qN.out.2.2.2 fk) _).setCell (Nat.le_trans qN.out.2.2.2 fk) _).setCell (Nat.le_trans qN.out.2.2.2 fk) _).setCell (Nat.le_trans qN.out.2.2.2 fk) _).setCell (Nat.le_trans qN.out.2.2.2 fk) _).setCell (Nat.le_trans qN.out.2.2.2 fk) _⟩
  clear aA Jo vo
  have hHP:=(KT (Lr.out q G7.out _ Za)).put (w':=(((((((X4.setCell ⟨B,o*7,none⟩ (.slice (zu q).aS (zu q).r.s.length (zu q).cs)).setCell ⟨B,o*7+1,none⟩ (.slice (zu q).al (zu q).r.l.length (zu q).cl)).setCell ⟨B,o*7+2,none⟩ (.int .i64 (zu q).r.g)).setCell ⟨B,o*7+3,none⟩ (.int .i64 (zu q).r.ph)).setCell ⟨B,o*7+4,none⟩ (.slice (zu q).a1 (zu q).r.m.length (zu q).c1)).setCell ⟨B,o*7+5,none⟩ (.slice (zu q).a2 (zu q).r.us.length (zu q).c2)).setCell ⟨B,o*7+6,none⟩ (.bool (zu q).r.f))) ⟨Nat.le_of_eq (by simp only[World.size_setCell]),fun j _ hj=>pW.out.2.1 j (KM.out j hj).2⟩
  have p1:=pW.out.1
  have p3:=pW.out.2.2 Za
  have zR:=zA5 Ho vR
  have p5:=(pW.out.2.1 R (by have:=qN.out;omega)).trans zR
  have A4:=(pW.out.2.1 BC (by have:=qN.out;omega)).trans Km
  have Al:=(pW.out.2.1 BA (by have:=qN.out;omega)).trans Kw
  have ED:=(pW.out.2.1 BO HKO.out.2.symm).trans Kk
  have zA2:=nS.block (pW.out.2.1 b (by have:=db.out;have:=qN.out;omega))
  clear pW
  go_simp
  generalize (((((((X4.setCell ⟨B,o*7,none⟩ (.slice (zu q).aS (zu q).r.s.length (zu q).cs)).setCell ⟨B,o*7+1,none⟩ (.slice (zu q).al (zu q).r.l.length (zu q).cl)).setCell ⟨B,o*7+2,none⟩ (.int .i64 (zu q).r.g)).setCell ⟨B,o*7+3,none⟩ (.int .i64 (zu q).r.ph)).setCell ⟨B,o*7+4,none⟩ (.slice (zu q).a1 (zu q).r.m.length (zu q).c1)).setCell ⟨B,o*7+5,none⟩ (.slice (zu q).a2 (zu q).r.us.length (zu q).c2)).setCell ⟨B,o*7+6,none⟩ (.bool (zu q).r.f))=W9 at *
  clear d0 d1 d2 d3 d4 d5 d6 f0 f1 f2 f3 f4 f5 f6 zR Km Kw Kk nS M5 Ho Za yl
  refine hK _ _ (fun _=>⟨A4,Al,ED,zA2⟩) ?_
  clear hK K
  try simp only[tn]
  refine zAE ?_
  have HF:Hid (PO (.returned (.tuple #[.agg #[.slice (some ⟨B,0,none⟩) 3 cap],.bool true,.int .i64 0])) (W9.setCell ⟨R,0,none⟩ (.slice (some ⟨B,0,none⟩) 3 cap))):=MV.out W9 (zu q) Dg.out.symm hHP Kd.out p3 p1
  have yO:=zJ ED
  have g2:=zF (o:=0) p5
  have o2:=zJ p5
  have i0:=zJ (xb (u:=.slice (some ⟨B,0,none⟩) 3 cap) p5)
  clear p1 p3 p5 hHP A4 Al ED zA2
  go_wp2
  refine bodyPost_ret (v:=.tuple #[.agg #[.slice (some ⟨B,0,none⟩) 3 cap],.bool true,.int .i64 0]) (by simp[results,Tryz.results90,go_sem,i0]) rfl ?_
  exact HF.out
 have g6:(x.k==3)=false:=by simpa using k3
 have xy:x.k=2:=by rcases Ct.out with e|e;exact e;exact absurd e k3
 have PW:Hid (x.k=2):=xy
 have BK:Hid (rS L x=rA (top L) (yq L o)):=by unfold Hid;rw[Mg.out,if_pos xy]
 obtain⟨q,bh⟩: ∃q,q=l[o]:=⟨_,rfl⟩
 have G7:Hid (q∈l):=by rw[bh];exact List.getElem_mem jF
 have PK:bY W6 b (off+o*7) q:=by rw[bh];exact((h.below nE).plain.at jF).1
 have HRQ:Hid (yq L o=q.r):=by rw[bh];exact HRO.out
 obtain⟨bi,hbi⟩: ∃n,n=za (yu l) l.length:=⟨_,rfl⟩
 have hbm:bi=vp L:=by rw[hbi,←Cs.out];exact dI l
 have zFY:bi<3:=by rw[hbm];exact ud (yr.1 HC.out).1
 have Gk:bi<l.length:=by have:=nJ.out;omega
 have FV:=fun(W:World) (hW:Below w.heap.size w W)=>TV (some ⟨b,off,none⟩) c l W (h.plain.below hW) (by have:=nJ.out;omega) (by have:=nJ.out;omega)
 rw[←hbi,nJ.out]at FV
 have zPG:(bi:Int)<3:=by omega
 obtain⟨T,hTd⟩: ∃q,q=l[bi]:=⟨_,rfl⟩
 have HTM:Hid (T∈l):=by rw[hTd];exact List.getElem_mem Gk
 have bW:bY W6 b (off+bi*7) T:=by rw[hTd];exact((h.below nE).plain.at Gk).1
 have HRT:Hid (top L=T.r):=by
  show yq L (vp L)=_
  rw[←hbm,hTd];exact NN.out bi Gk
 have dd:Hid (q.r.err=0):=by rw[←HRQ.out];exact Lj.out o gA
 have HET:Hid (T.r.err=0):=by
  rw[←HRT.out]
  show(yq L (vp L)).err=0
  rw[←hbm];exact Lj.out bi zFY
 have Dg:Hid (mc L x=uW T.r q.r):=by
  unfold Hid mc
  rw[if_pos xy,HOD.out,HRQ.out,HRT.out]
 have zHR:Hid (rS L x=rA T.r q.r):=by unfold Hid;rw[BK.out,HRT.out,HRQ.out]
 have db:Hid (b<w.heap.size):=by
  obtain⟨_,_,e,hb,_⟩:=h.plain o jF
  cases e;exact hb
 have yl:b<W6.heap.size:=Nat.lt_of_lt_of_le db.out nE.size
 have KB:Hid (∀q∈l,∀W,Below w.heap.size w W→∀n,w.heap.size≤n→q.HP (fun k=>P3 k∨k=n) W):=fun q hq W hW n hn=>by
  obtain⟨i,hi,rfl⟩:=List.getElem_of_mem hq
  exact((h.each hi).more (fun k hk e=>by
   rcases e with e|e
   ·exact A7.out k hk e
   ·omega)).below hW
 have Lw:=Below.refl W6.heap.size W6
 have gC:Hid (Below w.heap.size w W6):=nE
 clear k3 bh hTd hbm hbi xy Mg BK
 go_upto_region 13 with fail
 clear y0 y1 y2 y3 y4 y5 y6
 go_cut [8,9] from 86 to 101 (fun s8 s9 wx=>∃(p:Nat) (q':Rq),s8= .pointer (some ⟨p,0,none⟩)∧s9= .int .i64 (rA T.r q.r)∧Below W6.heap.size W6 wx∧wx.heap[p]? =some q'.blk∧W6.heap.size≤p∧Sx (rA T.r q.r) (uW T.r q.r) P3 q' wx)
 case first=>
  have zk:=zU W6
  have xz:=PK.block (zk.block _ yl)
  clear PK
  have jz:=bW.block (zk.block _ yl)
  clear bW
  have dX:=Nat.lt_of_lt_of_le yl zk.size
  clear yl
  have yl:=dX
  clear dX
  have cY:=bt nE zk
  have pR:=zA5 zk vC
  have gD:=zA5 zk vA
  have JI:=bt Lw zk
  have zG1:=zk.size
  clear vC vA Lw zk nE
  refine zS (fun W=>(W.heap[BC]? =some (.cells #[.slice (some ⟨b,off,none⟩) 3 c] 24))∧(W.heap[BA]? =some (x.blk am cm au cu))∧(bY W b (off+o*7) q)∧(bY W b (off+bi*7) T)) (fun _=>false) (by kernel_rfl) ⟨pR,gD,xz,jz⟩ (fun hS=>?_)
  clear hS
  generalize W6.drew=ts at *
  refine zAB 0 ?_ rfl ?_ ⟨pR,gD,xz,jz⟩ ?_;rotate_left
  ·intro w zD;obtain⟨g1,g2,g3,g4⟩:=zD;have yC:=zJ g1;obtain⟨y0,y1,y2,y3,y4,y5,y6⟩:=zI g2;rw[ny.out]at y1;obtain⟨q0,q1,q2,q3,q4,q5,q6⟩:=g3;obtain⟨t0,t1,t2,t3,t4,t5,t6⟩:=g4;clear g1 g2;go_simp;rfl
  try simp only[tn]
  refine zAB 2 ?_ rfl ?_ ⟨pR,gD,xz,jz⟩ ?_;rotate_left
  ·intro w zD;obtain⟨g1,g2,g3,g4⟩:=zD;have yC:=zJ g1;obtain⟨y0,y1,y2,y3,y4,y5,y6⟩:=zI g2;rw[ny.out]at y1;obtain⟨q0,q1,q2,q3,q4,q5,q6⟩:=g3;obtain⟨t0,t1,t2,t3,t4,t5,t6⟩:=g4;clear g1 g2;go_simp;rfl
  try simp only[tn]
  refine zAB 6 ?_ rfl ?_ ⟨pR,gD,xz,jz⟩ ?_;rotate_left
  ·intro w zD;obtain⟨g1,g2,g3,g4⟩:=zD;have yC:=zJ g1;obtain⟨y0,y1,y2,y3,y4,y5,y6⟩:=zI g2;rw[ny.out]at y1;obtain⟨q0,q1,q2,q3,q4,q5,q6⟩:=g3;obtain⟨t0,t1,t2,t3,t4,t5,t6⟩:=g4;clear g1 g2;go_simp;rfl
  try simp only[tn]
  refine zAB 8 ?_ rfl ?_ ⟨pR,gD,xz,jz⟩ ?_;rotate_left
  ·intro w zD;obtain⟨g1,g2,g3,g4⟩:=zD;have yC:=zJ g1;obtain⟨y0,y1,y2,y3,y4,y5,y6⟩:=zI g2;rw[ny.out]at y1;obtain⟨q0,q1,q2,q3,q4,q5,q6⟩:=g3;obtain⟨t0,t1,t2,t3,t4,t5,t6⟩:=g4;clear g1 g2;go_simp;rfl
  try simp only[tn]
  refine zAB 1 ?_ rfl ?_ ⟨pR,gD,xz,jz⟩ ?_;rotate_left
  ·intro w zD;obtain⟨g1,g2,g3,g4⟩:=zD;have yC:=zJ g1;obtain⟨y0,y1,y2,y3,y4,y5,y6⟩:=zI g2;rw[ny.out]at y1;obtain⟨q0,q1,q2,q3,q4,q5,q6⟩:=g3;obtain⟨t0,t1,t2,t3,t4,t5,t6⟩:=g4;clear g1 g2;go_simp;rfl
  try simp only[tn]
  refine zAB 7 ?_ rfl ?_ ⟨pR,gD,xz,jz⟩ ?_;rotate_left
  ·intro w zD;obtain⟨g1,g2,g3,g4⟩:=zD;have yC:=zJ g1;obtain⟨y0,y1,y2,y3,y4,y5,y6⟩:=zI g2;rw[ny.out]at y1;obtain⟨q0,q1,q2,q3,q4,q5,q6⟩:=g3;obtain⟨t0,t1,t2,t3,t4,t5,t6⟩:=g4;clear g1 g2;go_simp;rfl
  try simp only[tn]
  refine zAB 9 ?_ rfl ?_ ⟨pR,gD,xz,jz⟩ ?_;rotate_left
  ·intro w zD;obtain⟨g1,g2,g3,g4⟩:=zD;have yC:=zJ g1;obtain⟨y0,y1,y2,y3,y4,y5,y6⟩:=zI g2;rw[ny.out]at y1;obtain⟨q0,q1,q2,q3,q4,q5,q6⟩:=g3;obtain⟨t0,t1,t2,t3,t4,t5,t6⟩:=g4;clear g1 g2;go_simp;rfl
  try simp only[tn]
  refine zAB 10 ?_ rfl ?_ ⟨pR,gD,xz,jz⟩ ?_;rotate_left
  ·intro w zD;obtain⟨g1,g2,g3,g4⟩:=zD;have yC:=zJ g1;obtain⟨y0,y1,y2,y3,y4,y5,y6⟩:=zI g2;rw[ny.out]at y1;obtain⟨q0,q1,q2,q3,q4,q5,q6⟩:=g3;obtain⟨t0,t1,t2,t3,t4,t5,t6⟩:=g4;clear g1 g2;go_simp;rfl
  try simp only[tn]
  refine zAB 11 ?_ rfl ?_ ⟨pR,gD,xz,jz⟩ ?_;rotate_left
  ·intro w zD;obtain⟨g1,g2,g3,g4⟩:=zD;have yC:=zJ g1;obtain⟨y0,y1,y2,y3,y4,y5,y6⟩:=zI g2;rw[ny.out]at y1;obtain⟨q0,q1,q2,q3,q4,q5,q6⟩:=g3;obtain⟨t0,t1,t2,t3,t4,t5,t6⟩:=g4;clear g1 g2;go_simp;rfl
  try simp only[tn]
  refine wpAnyE.two (i:=3) (j:=16) (by kernel_rfl) rfl rfl (fun K hK=>?_) (fun K hK=>?_)
  ·skip
   have Zc:=FV ts cY
   go_simp
   refine Zc.mono ?_
   clear Zc
   rintro e ql ⟨rfl,h⟩
   have dZ:=xz.block (h.block _ yl)
   clear xz
   have nS:=jz.block (h.block _ yl)
   clear jz
   have Tx:=Nat.lt_of_lt_of_le yl h.size
   clear yl
   have yl:=Tx
   clear Tx
   have nh:=bt cY h
   have bB:=zA5 h pR
   have U4:=zA5 h gD
   have VM:=bt JI h
   have zJY:=h.size
   clear pR gD JI h cY
   refine hK _ _ (fun _=>⟨bB,U4,dZ,nS⟩) ?_
   clear hK K
   try simp only[tn]
   refine zAB 4 ?_ rfl ?_ ⟨bB,U4,dZ,nS⟩ ?_;rotate_left
   ·intro w zD;obtain⟨g1,g2,g3,g4⟩:=zD;have yC:=zJ g1;obtain⟨y0,y1,y2,y3,y4,y5,y6⟩:=zI g2;rw[ny.out]at y1;obtain⟨q0,q1,q2,q3,q4,q5,q6⟩:=g3;obtain⟨t0,t1,t2,t3,t4,t5,t6⟩:=g4;clear g1 g2;go_simp;rfl
   try simp only[tn]
   refine zAB 5 ?_ rfl ?_ ⟨bB,U4,dZ,nS⟩ ?_;rotate_left
   ·intro w zD;obtain⟨g1,g2,g3,g4⟩:=zD;have yC:=zJ g1;obtain⟨y0,y1,y2,y3,y4,y5,y6⟩:=zI g2;rw[ny.out]at y1;obtain⟨q0,q1,q2,q3,q4,q5,q6⟩:=g3;obtain⟨t0,t1,t2,t3,t4,t5,t6⟩:=g4;clear g1 g2;go_simp;rfl
   try simp only[tn]
   refine wpAnyE.two (i:=12) (j:=16) (by kernel_rfl) rfl rfl (fun K hK=>?_) (fun K hK=>?_)
   ·skip
    have Je:=p6 P3 T q ql (fun k qk=>by have:=Mz.out k qk;have:=VM.size;omega) (Lr.out T HTM.out ql nh) (Lr.out q G7.out ql nh) HET.out dd.out
    go_simp
    refine Je.mono ?_
    clear Je
    rintro e mF Va
    obtain⟨h,q9,rfl,jw⟩:=Va.uni
    have jG:Sx (rA T.r q.r) (uW T.r q.r) P3 q9 mF:=jw
    clear Va jw
    have ZM:=dZ.block (h.block _ yl)
    clear dZ
    have Zr:=nS.block (h.block _ yl)
    clear nS
    have Sy:=Nat.lt_of_lt_of_le yl h.size
    clear yl
    have yl:=Sy
    clear Sy
    have Ji:=bt nh h
    have bp:=zA5 h bB
    have QK:=zA5 h U4
    have Hw:=bt VM h
    have zLW:=h.size
    clear bB U4 VM h nh
    refine hK _ _ (fun _=>⟨bp,QK,ZM,Zr⟩) ?_
    clear hK K
    try simp only[tn]
    refine zAB 13 ?_ rfl ?_ ⟨bp,QK,ZM,Zr⟩ ?_;rotate_left
    ·intro w zD;obtain⟨g1,g2,g3,g4⟩:=zD;have yC:=zJ g1;obtain⟨y0,y1,y2,y3,y4,y5,y6⟩:=zI g2;rw[ny.out]at y1;obtain⟨q0,q1,q2,q3,q4,q5,q6⟩:=g3;obtain⟨t0,t1,t2,t3,t4,t5,t6⟩:=g4;clear g1 g2;go_simp;rfl
    try simp only[tn]
    refine zAB 14 ?_ rfl ?_ ⟨bp,QK,ZM,Zr⟩ ?_;rotate_left
    ·intro w zD;obtain⟨g1,g2,g3,g4⟩:=zD;have yC:=zJ g1;obtain⟨y0,y1,y2,y3,y4,y5,y6⟩:=zI g2;rw[ny.out]at y1;obtain⟨q0,q1,q2,q3,q4,q5,q6⟩:=g3;obtain⟨t0,t1,t2,t3,t4,t5,t6⟩:=g4;clear g1 g2;go_simp;rfl
    try simp only[tn]
    refine zAB 15 ?_ rfl ?_ ⟨bp,QK,ZM,Zr⟩ ?_;rotate_left
    ·intro w zD;obtain⟨g1,g2,g3,g4⟩:=zD;have yC:=zJ g1;obtain⟨y0,y1,y2,y3,y4,y5,y6⟩:=zI g2;rw[ny.out]at y1;obtain⟨q0,q1,q2,q3,q4,q5,q6⟩:=g3;obtain⟨t0,t1,t2,t3,t4,t5,t6⟩:=g4;clear g1 g2;go_simp;rfl
    try simp only[tn]
    refine zAC 16 rfl fun K hK=>?_
    have GY:Sx (rA T.r q.r) (uW T.r q.r) (fun k=>P3 k∨k=mF.heap.size) q9 mF:=jG.more (fun k hk e=>e.elim id (fun e=>absurd e (by omega)))
    clear jG
    go_simp
    have my:=zB mF (.cells #[.slice none 0 0,.slice none 0 0,.int .i64 0,.int .i64 0,.slice none 0 0,.slice none 0 0,.bool false] 36)
    have aE:=heap_alloc_new mF (.cells #[.slice none 0 0,.slice none 0 0,.int .i64 0,.int .i64 0,.slice none 0 0,.slice none 0 0,.bool false] 36)
    have zM7:mF.heap.size<(mF.alloc (.cells #[.slice none 0 0,.slice none 0 0,.int .i64 0,.int .i64 0,.slice none 0 0,.slice none 0 0,.bool false] 36)).heap.size:=by simp
    generalize mF.alloc (.cells #[.slice none 0 0,.slice none 0 0,.int .i64 0,.int .i64 0,.slice none 0 0,.slice none 0 0,.bool false] 36)=W_32 at *
    have NH:=ZM.block (my.block _ yl)
    clear ZM
    have Nz:=Zr.block (my.block _ yl)
    clear Zr
    have Sp:=Nat.lt_of_lt_of_le yl my.size
    clear yl
    have yl:=Sp
    clear Sp
    have Jv:=bt Ji my
    have EP:=zA5 my bp
    have DN:=zA5 my QK
    have GX:=GY.below my
    have GH:=bt Hw my
    have Cm:=my.size
    clear bp QK GY Hw my Ji
    refine hK _ _ (fun _=>⟨EP,DN,NH,Nz⟩) ?_
    clear hK K
    try simp only[tn]
    refine zAC 17 rfl fun K hK=>?_
    obtain⟨AV,BB,Nc2,BQ,Nc4,Nc5,Cb⟩:=zI aE
    have zED:=zF (o:=0) aE
    have zHV:=zF (o:=1) aE
    have zI9:=zF (o:=2) aE
    have zHL:=zF (o:=3) aE
    have zEF:=zF (o:=4) aE
    have zHM:=zF (o:=5) aE
    have zF2:=zF (o:=6) aE
    obtain⟨sm,sb,so⟩:=yQ W_32 (mF.heap.size) 36 (.slice q9.aS q9.r.s.length q9.cs) (.slice q9.al q9.r.l.length q9.cl) (.int .i64 q9.r.g) (.int .i64 q9.r.ph) (.slice q9.a1 q9.r.m.length q9.c1) (.slice q9.a2 q9.r.us.length q9.c2) (.bool q9.r.f) aE
    have PJ:W6.heap.size≤mF.heap.size:=by omega
    have Au:=GH.trans (sb.mono PJ)
    have Vb:=Jv.trans (sb.mono (Nat.le_trans gC.out.size PJ))
    have EV:=(so (BC) (by have:=qN.out;have:=aa.out;omega)).trans EP
    have DI:=(so (BA) (by have:=qN.out;have:=aa.out;omega)).trans DN
    have Fs:=NH.block (so b (by have:=db.out;have:=gC.out.size;omega))
    have FB:=Nz.block (so b (by have:=db.out;have:=gC.out.size;omega))
    have ok9:=(GX.put ⟨sb.size,fun j _ hj=>so j (fun e=>hj (.inr e))⟩).more (P':=P3) (fun j _ hj=>.inl hj)
    go_simp
    generalize (((((((W_32.setCell ⟨mF.heap.size,0,none⟩ (.slice q9.aS q9.r.s.length q9.cs)).setCell ⟨mF.heap.size,1,none⟩ (.slice q9.al q9.r.l.length q9.cl)).setCell ⟨mF.heap.size,2,none⟩ (.int .i64 q9.r.g)).setCell ⟨mF.heap.size,3,none⟩ (.int .i64 q9.r.ph)).setCell ⟨mF.heap.size,4,none⟩ (.slice q9.a1 q9.r.m.length q9.c1)).setCell ⟨mF.heap.size,5,none⟩ (.slice q9.a2 q9.r.us.length q9.c2)).setCell ⟨mF.heap.size,6,none⟩ (.bool q9.r.f))=W9 at *
    clear AV BB Nc2 BQ Nc4 Nc5 Cb zED zHV zI9 zHL zEF zHM zF2 EP DN aE GX NH Nz GH Jv yl so sb
    refine hK _ _ (fun _=>⟨EV,DI,Fs,FB⟩) ?_
    clear hK K
    try simp only[tn]
    refine zAC 18 rfl fun K hK=>?_
    go_simp
    refine hK _ _ (fun _=>⟨EV,DI,Fs,FB⟩) ?_
    clear hK K
    try simp only[tn]
    refine zAE ?_
    clear EV DI Fs FB
    go_wp2_with fail
    go_meet
    case rel=>exact⟨_,q9,rfl,rfl,Au,sm,PJ,ok9⟩
   ·skip
    go_simp
    have jY:=zB ql (.cells #[.slice none 0 0,.slice none 0 0,.int .i64 0,.int .i64 0,.slice none 0 0,.slice none 0 0,.bool false] 36)
    have En:=heap_alloc_new ql (.cells #[.slice none 0 0,.slice none 0 0,.int .i64 0,.int .i64 0,.slice none 0 0,.slice none 0 0,.bool false] 36)
    have zJ2:ql.heap.size<(ql.alloc (.cells #[.slice none 0 0,.slice none 0 0,.int .i64 0,.int .i64 0,.slice none 0 0,.slice none 0 0,.bool false] 36)).heap.size:=by simp
    generalize ql.alloc (.cells #[.slice none 0 0,.slice none 0 0,.int .i64 0,.int .i64 0,.slice none 0 0,.slice none 0 0,.bool false] 36)=W_56 at *
    have Pw:=dZ.block (jY.block _ yl)
    clear dZ
    have LM:=nS.block (jY.block _ yl)
    clear nS
    have T8:=Nat.lt_of_lt_of_le yl jY.size
    clear yl
    have yl:=T8
    clear T8
    have Se:=bt nh jY
    have G2:=zA5 jY bB
    have FU:=zA5 jY U4
    have MR:=bt VM jY
    have zP2:=jY.size
    clear bB U4 VM jY nh
    refine hK _ _ (fun _=>⟨G2,FU,Pw,LM⟩) ?_
    clear hK K
    try simp only[tn]
    refine zAC 12 rfl fun K hK=>?_
    have LA:=zG En
    have Je:=p6 (fun k=>P3 k∨k=ql.heap.size) T q W_56 (fun k qk=>by
     rcases qk with qk|qk
     ·have:=Mz.out k qk;have:=MR.size;omega
     ·omega) (KB.out T HTM.out W_56 Se _ (by have:=gC.out.size;omega)) (KB.out q G7.out W_56 Se _ (by have:=gC.out.size;omega)) HET.out dd.out
    clear LA
    go_simp
    refine Je.mono ?_
    clear Je
    rintro e FI Va
    obtain⟨h,q9,rfl,jw⟩:=Va.uni
    have jG:Sx (rA T.r q.r) (uW T.r q.r) (fun k=>P3 k∨k=ql.heap.size) q9 FI:=jw
    clear Va jw
    have Zn:=Pw.block (h.block _ yl)
    clear Pw
    have ZV:=LM.block (h.block _ yl)
    clear LM
    have Sr:=Nat.lt_of_lt_of_le yl h.size
    clear yl
    have yl:=Sr
    clear Sr
    have H7:=bt Se h
    have Rn:=zA5 h G2
    have QN:=zA5 h FU
    have aX:=zA5 h En
    have Jw:=bt MR h
    have zKG:=h.size
    clear G2 FU En MR h Se
    refine hK _ _ (fun _=>⟨Rn,QN,Zn,ZV⟩) ?_
    clear hK K
    try simp only[tn]
    refine zAB 13 ?_ rfl ?_ ⟨Rn,QN,Zn,ZV⟩ ?_;rotate_left
    ·intro w zD;obtain⟨g1,g2,g3,g4⟩:=zD;have yC:=zJ g1;obtain⟨y0,y1,y2,y3,y4,y5,y6⟩:=zI g2;rw[ny.out]at y1;obtain⟨q0,q1,q2,q3,q4,q5,q6⟩:=g3;obtain⟨t0,t1,t2,t3,t4,t5,t6⟩:=g4;clear g1 g2;go_simp;rfl
    try simp only[tn]
    refine zAB 14 ?_ rfl ?_ ⟨Rn,QN,Zn,ZV⟩ ?_;rotate_left
    ·intro w zD;obtain⟨g1,g2,g3,g4⟩:=zD;have yC:=zJ g1;obtain⟨y0,y1,y2,y3,y4,y5,y6⟩:=zI g2;rw[ny.out]at y1;obtain⟨q0,q1,q2,q3,q4,q5,q6⟩:=g3;obtain⟨t0,t1,t2,t3,t4,t5,t6⟩:=g4;clear g1 g2;go_simp;rfl
    try simp only[tn]
    refine zAB 15 ?_ rfl ?_ ⟨Rn,QN,Zn,ZV⟩ ?_;rotate_left
    ·intro w zD;obtain⟨g1,g2,g3,g4⟩:=zD;have yC:=zJ g1;obtain⟨y0,y1,y2,y3,y4,y5,y6⟩:=zI g2;rw[ny.out]at y1;obtain⟨q0,q1,q2,q3,q4,q5,q6⟩:=g3;obtain⟨t0,t1,t2,t3,t4,t5,t6⟩:=g4;clear g1 g2;go_simp;rfl
    try simp only[tn]
    refine zAC 17 rfl fun K hK=>?_
    obtain⟨AV,BB,Nc2,BQ,Nc4,Nc5,Cb⟩:=zI aX
    have zIZ:=zF (o:=0) aX
    have zER:=zF (o:=1) aX
    have zGR:=zF (o:=2) aX
    have zEP:=zF (o:=3) aX
    have zH7:=zF (o:=4) aX
    have zGS:=zF (o:=5) aX
    have zEI:=zF (o:=6) aX
    obtain⟨sm,sb,so⟩:=yQ FI (ql.heap.size) 36 (.slice q9.aS q9.r.s.length q9.cs) (.slice q9.al q9.r.l.length q9.cl) (.int .i64 q9.r.g) (.int .i64 q9.r.ph) (.slice q9.a1 q9.r.m.length q9.c1) (.slice q9.a2 q9.r.us.length q9.c2) (.bool q9.r.f) aX
    have PJ:W6.heap.size≤ql.heap.size:=by omega
    have Au:=Jw.trans (sb.mono PJ)
    have Vb:=H7.trans (sb.mono (Nat.le_trans gC.out.size PJ))
    have Ee:=(so (BC) (by have:=qN.out;have:=aa.out;omega)).trans Rn
    have Ef:=(so (BA) (by have:=qN.out;have:=aa.out;omega)).trans QN
    have Em:=Zn.block (so b (by have:=db.out;have:=gC.out.size;omega))
    have Gl:=ZV.block (so b (by have:=db.out;have:=gC.out.size;omega))
    have ok9:=(jG.put ⟨sb.size,fun j _ hj=>so j (fun e=>hj (.inr e))⟩).more (P':=P3) (fun j _ hj=>.inl hj)
    go_simp
    generalize (((((((FI.setCell ⟨ql.heap.size,0,none⟩ (.slice q9.aS q9.r.s.length q9.cs)).setCell ⟨ql.heap.size,1,none⟩ (.slice q9.al q9.r.l.length q9.cl)).setCell ⟨ql.heap.size,2,none⟩ (.int .i64 q9.r.g)).setCell ⟨ql.heap.size,3,none⟩ (.int .i64 q9.r.ph)).setCell ⟨ql.heap.size,4,none⟩ (.slice q9.a1 q9.r.m.length q9.c1)).setCell ⟨ql.heap.size,5,none⟩ (.slice q9.a2 q9.r.us.length q9.c2)).setCell ⟨ql.heap.size,6,none⟩ (.bool q9.r.f))=W9 at *
    clear AV BB Nc2 BQ Nc4 Nc5 Cb zIZ zER zGR zEP zH7 zGS zEI Rn QN aX Zn ZV jG Jw H7 yl so sb
    refine hK _ _ (fun _=>⟨Ee,Ef,Em,Gl⟩) ?_
    clear hK K
    try simp only[tn]
    refine zAC 18 rfl fun K hK=>?_
    go_simp
    refine hK _ _ (fun _=>⟨Ee,Ef,Em,Gl⟩) ?_
    clear hK K
    try simp only[tn]
    refine zAE ?_
    clear Ee Ef Em Gl
    go_wp2_with fail
    go_meet
    case rel=>exact⟨_,q9,rfl,rfl,Au,sm,PJ,ok9⟩
  ·skip
   go_simp
   have jX:=zB ts (.cells #[.slice none 0 0,.slice none 0 0,.int .i64 0,.int .i64 0,.slice none 0 0,.slice none 0 0,.bool false] 36)
   have Ay:=heap_alloc_new ts (.cells #[.slice none 0 0,.slice none 0 0,.int .i64 0,.int .i64 0,.slice none 0 0,.slice none 0 0,.bool false] 36)
   have zJS:ts.heap.size<(ts.alloc (.cells #[.slice none 0 0,.slice none 0 0,.int .i64 0,.int .i64 0,.slice none 0 0,.slice none 0 0,.bool false] 36)).heap.size:=by simp
   generalize ts.alloc (.cells #[.slice none 0 0,.slice none 0 0,.int .i64 0,.int .i64 0,.slice none 0 0,.slice none 0 0,.bool false] 36)=W_89 at *
   have Pg:=xz.block (jX.block _ yl)
   clear xz
   have Nt:=jz.block (jX.block _ yl)
   clear jz
   have So:=Nat.lt_of_lt_of_le yl jX.size
   clear yl
   have yl:=So
   clear So
   have NP:=bt cY jX
   have Fk:=zA5 jX pR
   have EF:=zA5 jX gD
   have Jm:=bt JI jX
   have zLX:=jX.size
   clear pR gD JI jX cY
   refine hK _ _ (fun _=>⟨Fk,EF,Pg,Nt⟩) ?_
   clear hK K
   try simp only[tn]
   refine zAC 3 rfl fun K hK=>?_
   have Zc:=FV W_89 NP
   go_simp
   refine Zc.mono ?_
   clear Zc
   rintro e F1 ⟨rfl,h⟩
   have eo:=Pg.block (h.block _ yl)
   clear Pg
   have cw:=Nt.block (h.block _ yl)
   clear Nt
   have XT:=Nat.lt_of_lt_of_le yl h.size
   clear yl
   have yl:=XT
   clear XT
   have YQ:=bt NP h
   have VO:=zA5 h Fk
   have Wy:=zA5 h EF
   have P4:=zA5 h Ay
   have V6:=bt Jm h
   have zH2:=h.size
   clear Fk EF Ay Jm h NP
   refine hK _ _ (fun _=>⟨VO,Wy,eo,cw⟩) ?_
   clear hK K
   try simp only[tn]
   refine zAB 4 ?_ rfl ?_ ⟨VO,Wy,eo,cw⟩ ?_;rotate_left
   ·intro w zD;obtain⟨g1,g2,g3,g4⟩:=zD;have yC:=zJ g1;obtain⟨y0,y1,y2,y3,y4,y5,y6⟩:=zI g2;rw[ny.out]at y1;obtain⟨q0,q1,q2,q3,q4,q5,q6⟩:=g3;obtain⟨t0,t1,t2,t3,t4,t5,t6⟩:=g4;clear g1 g2;go_simp;rfl
   try simp only[tn]
   refine zAB 5 ?_ rfl ?_ ⟨VO,Wy,eo,cw⟩ ?_;rotate_left
   ·intro w zD;obtain⟨g1,g2,g3,g4⟩:=zD;have yC:=zJ g1;obtain⟨y0,y1,y2,y3,y4,y5,y6⟩:=zI g2;rw[ny.out]at y1;obtain⟨q0,q1,q2,q3,q4,q5,q6⟩:=g3;obtain⟨t0,t1,t2,t3,t4,t5,t6⟩:=g4;clear g1 g2;go_simp;rfl
   try simp only[tn]
   refine zAC 12 rfl fun K hK=>?_
   have LA:=zG P4
   have Je:=p6 (fun k=>P3 k∨k=ts.heap.size) T q F1 (fun k qk=>by
    rcases qk with qk|qk
    ·have:=Mz.out k qk;have:=V6.size;omega
    ·omega) (KB.out T HTM.out F1 YQ _ (by have:=gC.out.size;omega)) (KB.out q G7.out F1 YQ _ (by have:=gC.out.size;omega)) HET.out dd.out
   clear LA
   go_simp
   refine Je.mono ?_
   clear Je
   rintro e MJ Va
   obtain⟨h,q9,rfl,jw⟩:=Va.uni
   have jG:Sx (rA T.r q.r) (uW T.r q.r) (fun k=>P3 k∨k=ts.heap.size) q9 MJ:=jw
   clear Va jw
   have gX:=eo.block (h.block _ yl)
   clear eo
   have gK:=cw.block (h.block _ yl)
   clear cw
   have WD:=Nat.lt_of_lt_of_le yl h.size
   clear yl
   have yl:=WD
   clear WD
   have ML:=bt YQ h
   have ZT:=zA5 h VO
   have Zj:=zA5 h Wy
   have mj:=zA5 h P4
   have Mi:=bt V6 h
   have zG3:=h.size
   clear VO Wy P4 V6 h YQ
   refine hK _ _ (fun _=>⟨ZT,Zj,gX,gK⟩) ?_
   clear hK K
   try simp only[tn]
   refine zAB 13 ?_ rfl ?_ ⟨ZT,Zj,gX,gK⟩ ?_;rotate_left
   ·intro w zD;obtain⟨g1,g2,g3,g4⟩:=zD;have yC:=zJ g1;obtain⟨y0,y1,y2,y3,y4,y5,y6⟩:=zI g2;rw[ny.out]at y1;obtain⟨q0,q1,q2,q3,q4,q5,q6⟩:=g3;obtain⟨t0,t1,t2,t3,t4,t5,t6⟩:=g4;clear g1 g2;go_simp;rfl
   try simp only[tn]
   refine zAB 14 ?_ rfl ?_ ⟨ZT,Zj,gX,gK⟩ ?_;rotate_left
   ·intro w zD;obtain⟨g1,g2,g3,g4⟩:=zD;have yC:=zJ g1;obtain⟨y0,y1,y2,y3,y4,y5,y6⟩:=zI g2;rw[ny.out]at y1;obtain⟨q0,q1,q2,q3,q4,q5,q6⟩:=g3;obtain⟨t0,t1,t2,t3,t4,t5,t6⟩:=g4;clear g1 g2;go_simp;rfl
   try simp only[tn]
   refine zAB 15 ?_ rfl ?_ ⟨ZT,Zj,gX,gK⟩ ?_;rotate_left
   ·intro w zD;obtain⟨g1,g2,g3,g4⟩:=zD;have yC:=zJ g1;obtain⟨y0,y1,y2,y3,y4,y5,y6⟩:=zI g2;rw[ny.out]at y1;obtain⟨q0,q1,q2,q3,q4,q5,q6⟩:=g3;obtain⟨t0,t1,t2,t3,t4,t5,t6⟩:=g4;clear g1 g2;go_simp;rfl
   try simp only[tn]
   refine zAC 17 rfl fun K hK=>?_
   obtain⟨AV,BB,Nc2,BQ,Nc4,Nc5,Cb⟩:=zI mj
   have BL:=zF (o:=0) mj
   have zBM:=zF (o:=1) mj
   have Af:=zF (o:=2) mj
   have Br:=zF (o:=3) mj
   have zA7:=zF (o:=4) mj
   have zB0:=zF (o:=5) mj
   have Cc:=zF (o:=6) mj
   obtain⟨sm,sb,so⟩:=yQ MJ (ts.heap.size) 36 (.slice q9.aS q9.r.s.length q9.cs) (.slice q9.al q9.r.l.length q9.cl) (.int .i64 q9.r.g) (.int .i64 q9.r.ph) (.slice q9.a1 q9.r.m.length q9.c1) (.slice q9.a2 q9.r.us.length q9.c2) (.bool q9.r.f) mj
   have PJ:W6.heap.size≤ts.heap.size:=by omega
   have Au:=Mi.trans (sb.mono PJ)
   have Vb:=ML.trans (sb.mono (Nat.le_trans gC.out.size PJ))
   have ME:=(so (BC) (by have:=qN.out;have:=aa.out;omega)).trans ZT
   have Mk:=(so (BA) (by have:=qN.out;have:=aa.out;omega)).trans Zj
   have Pj:=gX.block (so b (by have:=db.out;have:=gC.out.size;omega))
   have LN:=gK.block (so b (by have:=db.out;have:=gC.out.size;omega))
   have ok9:=(jG.put ⟨sb.size,fun j _ hj=>so j (fun e=>hj (.inr e))⟩).more (P':=P3) (fun j _ hj=>.inl hj)
   go_simp
   generalize (((((((MJ.setCell ⟨ts.heap.size,0,none⟩ (.slice q9.aS q9.r.s.length q9.cs)).setCell ⟨ts.heap.size,1,none⟩ (.slice q9.al q9.r.l.length q9.cl)).setCell ⟨ts.heap.size,2,none⟩ (.int .i64 q9.r.g)).setCell ⟨ts.heap.size,3,none⟩ (.int .i64 q9.r.ph)).setCell ⟨ts.heap.size,4,none⟩ (.slice q9.a1 q9.r.m.length q9.c1)).setCell ⟨ts.heap.size,5,none⟩ (.slice q9.a2 q9.r.us.length q9.c2)).setCell ⟨ts.heap.size,6,none⟩ (.bool q9.r.f))=W9 at *
   clear AV BB Nc2 BQ Nc4 Nc5 Cb BL zBM Af Br zA7 zB0 Cc ZT Zj mj gX gK jG Mi ML yl so sb
   refine hK _ _ (fun _=>⟨ME,Mk,Pj,LN⟩) ?_
   clear hK K
   try simp only[tn]
   refine zAC 18 rfl fun K hK=>?_
   go_simp
   refine hK _ _ (fun _=>⟨ME,Mk,Pj,LN⟩) ?_
   clear hK K
   try simp only[tn]
   refine zAE ?_
   clear ME Mk Pj LN
   go_wp2_with fail
   go_meet
   case rel=>exact⟨_,q9,rfl,rfl,Au,sm,PJ,ok9⟩
 case rest=>
  obtain⟨p,q',rfl,rfl,fE,kN,PJ,fh⟩:=hcut
  have zC:=zA5 fE vC
  have zA:=zA5 fE vA
  have zR:=zA5 fE vR
  have zO:=zA5 fE kO
  have hBc:=bt nE fE
  have Ci:Hid (rS L x=rA T.r q.r):=zHR.out
  clear Lw
  generalize rA T.r q.r=E at *
  by_cases hE:E=0
  case neg=>
   have f1:(E != 0)=true:=by simpa using hE
   have HE:Hid (∀W',Below w.heap.size w W'→PO (.returned (.tuple #[.agg #[.slice none 0 0],.bool false,.int .i64 E])) W'):=vF.out E Ci.out hE
   clear hE fh
   have g2:=zF (o:=0) zR
   have o2:=zJ zR
   have i0:=zJ (xb (u:=.slice none 0 0) zR)
   have HB:Hid (Below w.heap.size w (wc.setCell ⟨R,0,none⟩ (.slice none 0 0))):=hBc.setCell UD _
   clear zR hBc zC zA zO kN
   go_wp2
   refine bodyPost_ret (v:=.tuple #[.agg #[.slice none 0 0],.bool false,.int .i64 E]) (by simp[results,Tryz.results90,go_sem,i0]) rfl ?_
   exact HE.out _ HB.out
  obtain⟨Vm,TK⟩:=fh hE
  have Kd:Hid (rS L x=0):=Ci.out.trans hE
  have Nv:Hid (q'.r=mc L x):=Vm.trans Dg.out.symm
  subst hE
  have T0:=zL o6 fE
  have HQ':Hid (q'.HP P3 wc):=TK
  clear fh Vm TK
  obtain⟨Jo,-,-,-,C9,vo⟩:=qG (P:=P) T0 (fun k qk=>by have:=eQ.out k qk;have:=qN.out;omega) (fun y hy=>(Lr.out y hy _ hBc).more (fun k _ e=>EH.out k (.inl e)))
  obtain⟨⟨d0,d1,d2,d3,d4,d5,d6⟩,-⟩:=Jo.plain.at jF
  simp only[Nat.zero_add]at d0 d1 d2 d3 d4 d5 d6
  have f0:=zF (o:=o*7) vo
  have f1:=zF (o:=o*7+1) vo
  have f2:=zF (o:=o*7+2) vo
  have f3:=zF (o:=o*7+3) vo
  have f4:=zF (o:=o*7+4) vo
  have f5:=zF (o:=o*7+5) vo
  have f6:=zF (o:=o*7+6) vo
  have aA:=Yf q' jF T0
  have pW:Hid ((((((((wc.setCell ⟨B,o*7,none⟩ (.slice q'.aS q'.r.s.length q'.cs)).setCell ⟨B,o*7+1,none⟩ (.slice q'.al q'.r.l.length q'.cl)).setCell ⟨B,o*7+2,none⟩ (.int .i64 q'.r.g)).setCell ⟨B,o*7+3,none⟩ (.int .i64 q'.r.ph)).setCell ⟨B,o*7+4,none⟩ (.slice q'.a1 q'.r.m.length q'.c1)).setCell ⟨B,o*7+5,none⟩ (.slice q'.a2 q'.r.us.length q'.c2)).setCell ⟨B,o*7+6,none⟩ (.bool q'.r.f)).ownsRow base 36 7 (.slice (some ⟨B,0,none⟩) 3 cap) (l.set o q').length (tb (l.set o q'))∧(∀j,j≠B→(((((((wc.setCell ⟨B,o*7,none⟩ (.slice q'.aS q'.r.s.length q'.cs)).setCell ⟨B,o*7+1,none⟩ (.slice q'.al q'.r.l.length q'.cl)).setCell ⟨B,o*7+2,none⟩ (.int .i64 q'.r.g)).setCell ⟨B,o*7+3,none⟩ (.int .i64 q'.r.ph)).setCell ⟨B,o*7+4,none⟩ (.slice q'.a1 q'.r.m.length q'.c1)).setCell ⟨B,o*7+5,none⟩ (.slice q'.a2 q'.r.us.length q'.c2)).setCell ⟨B,o*7+6,none⟩ (.bool q'.r.f)).heap[j]? =wc.heap[j]?)∧∀_:Below w.heap.size w wc,Below w.heap.size w (((((((wc.setCell ⟨B,o*7,none⟩ (.slice q'.aS q'.r.s.length q'.cs)).setCell ⟨B,o*7+1,none⟩ (.slice q'.al q'.r.l.length q'.cl)).setCell ⟨B,o*7+2,none⟩ (.int .i64 q'.r.g)).setCell ⟨B,o*7+3,none⟩ (.int .i64 q'.r.ph)).setCell ⟨B,o*7+4,none⟩ (.slice q'.a1 q'.r.m.length q'.c1)).setCell ⟨B,o*7+5,none⟩ (.slice q'.a2 q'.r.us.length q'.c2)).setCell ⟨B,o*7+6,none⟩ (.bool q'.r.f))):=⟨aA.1,aA.2.1,fun hb=>((((((hb.setCell (Nat.le_trans qN.out.2.2.2 fk) _).setCell (Nat.le_trans qN.out.2.2.2 fk) _).setCell (Nat.le_trans qN.out.2.2.2 fk) _).setCell (Nat.le_trans qN.out.2.2.2 fk) _).setCell (Nat.le_trans qN.out.2.2.2 fk) _).setCell (Nat.le_trans qN.out.2.2.2 fk) _).setCell (Nat.le_trans qN.out.2.2.2 fk) _⟩
  clear aA Jo vo
  obtain⟨y0,y1,y2,y3,y4,y5,y6⟩:=zI zA
  rw[ny.out]at y1
  obtain⟨n0,n1,n2,n3,n4,n5,n6⟩:=zI kN
  have yO:=zJ zO
  go_upto_region 17 with fail
  obtain⟨W9,QI⟩: ∃W9,W9=(((((((wc.setCell ⟨B,o*7,none⟩ (.slice q'.aS q'.r.s.length q'.cs)).setCell ⟨B,o*7+1,none⟩ (.slice q'.al q'.r.l.length q'.cl)).setCell ⟨B,o*7+2,none⟩ (.int .i64 q'.r.g)).setCell ⟨B,o*7+3,none⟩ (.int .i64 q'.r.ph)).setCell ⟨B,o*7+4,none⟩ (.slice q'.a1 q'.r.m.length q'.c1)).setCell ⟨B,o*7+5,none⟩ (.slice q'.a2 q'.r.us.length q'.c2)).setCell ⟨B,o*7+6,none⟩ (.bool q'.r.f)):=⟨_,rfl⟩
  rw[←QI]
  have p1:W9.ownsRow base 36 7 (.slice (some ⟨B,0,none⟩) 3 cap) (l.set o q').length (tb (l.set o q')):=by rw[QI];exact pW.out.1
  have p2: ∀j,j≠B→W9.heap[j]? =wc.heap[j]?:=by rw[QI];exact pW.out.2.1
  have p3:Below w.heap.size w W9:=by rw[QI];exact pW.out.2.2 hBc
  have p4:W9.heap.size=wc.heap.size:=by rw[QI];simp only[World.size_setCell]
  have aR:=(p2 R (by have:=qN.out;omega)).trans zR
  have aO:=(p2 BO HKO.out.2.symm).trans zO
  have HF:Hid (PO (.returned (.tuple #[.agg #[.slice (some ⟨B,0,none⟩) 3 cap],.bool true,.int .i64 0])) (W9.setCell ⟨R,0,none⟩ (.slice (some ⟨B,0,none⟩) 3 cap))):=MV.out W9 q' Nv.out (HQ'.out.put ⟨Nat.le_of_eq p4.symm,fun j _ hj=>p2 j (KM.out j hj).2⟩) Kd.out p3 p1
  have yO9:=zJ aO
  have g2:=zF (o:=0) aR
  have o2:=zJ aR
  have i0:=zJ (xb (u:=.slice (some ⟨B,0,none⟩) 3 cap) aR)
  clear QI p1 p2 p3 p4 aR aO pW HQ' y0 y1 y2 y3 y4 y5 y6 n0 n1 n2 n3 n4 n5 n6 yO d0 d1 d2 d3 d4 d5 d6 f0 f1 f2 f3 f4 f5 f6
  go_wp2
  refine bodyPost_ret (v:=.tuple #[.agg #[.slice (some ⟨B,0,none⟩) 3 cap],.bool true,.int .i64 0]) (by simp[results,Tryz.results90,go_sem,i0]) rfl ?_
  exact HF.out
section
def eG(C R:Nat)(v7 v8:Value)(k:Nat):Prop:=k=C∨k=R∨v7.ownBlock=some k∨v8.ownBlock=some k
structure qI(W6:World)(R:Nat)(l:List Rp)(T:List Bool)(E:List Int)(v7 v8:Value)(wr:World):Prop where
 low:Below W6.heap.size W6 wr
 own7:wr.ownsRow (W6.heap.size+1) 4 1 v7 T.length (T.map Value.bool)
 own8:wr.ownsRow (W6.heap.size+1) 29 1 v8 E.length (E.map (Value.int .i64))
 far:v7.ownBlock=none∨v7.ownBlock≠v8.ownBlock
 box: ∃B cap qs,wr.heap[W6.heap.size]? =some (.cells #[.slice (some ⟨B,0,none⟩) 3 cap] 24)∧qs.map Rq.r=l∧xO (eG W6.heap.size R v7 v8) wr (some ⟨B,0,none⟩) qs
theorem qI.size{W6:World}{R:Nat}{l:List Rp}{T:List Bool}{E:List Int}{v7 v8:Value}{wr:World}(h:qI W6 R l T E v7 v8 wr):W6.heap.size+1≤wr.heap.size:=by
 obtain⟨_,_,_,hb,_⟩:=h.box
 exact zG hb
theorem qI.below{W6:World}{R:Nat}{l:List Rp}{T:List Bool}{E:List Int}{v7 v8:Value}{w w':World}(h:qI W6 R l T E v7 v8 w)(hb:Below w.heap.size w w'):qI W6 R l T E v7 v8 w':=by
 obtain⟨B,cap,qs,k,hq,hD⟩:=h.box
 exact⟨h.low.trans (hb.mono h.low.size),zL h.own7 hb,zL h.own8 hb,h.far,B,cap,qs,(zA5 hb k),hq,hD.below hb⟩
theorem qI.lt{W6:World}{R:Nat}{l:List Rp}{T:List Bool}{E:List Int}{v7 v8:Value}{w:World}(h:qI W6 R l T E v7 v8 w)(hR:R<W6.heap.size): ∀k,eG W6.heap.size R v7 v8 k→R≤k∧k<w.heap.size:=by
 intro k hk
 have hs:=h.size
 rcases hk with rfl|rfl|e|e
 ·omega
 ·omega
 ·have:=h.own7.lt k e;omega
 ·have:=h.own8.lt k e;omega
theorem qI.put{W6:World}{R:Nat}{l l':List Rp}{T:List Bool}{E:List Int}{v7 v8:Value}{w:World}(h:qI W6 R l T E v7 v8 w){B cap:Nat}{qs:List Rq}(hq:qs.map Rq.r=l')(hD:xO (eG W6.heap.size R v7 v8) w (some ⟨B,0,none⟩) qs):
  qI W6 R l' T E v7 v8 (w.setCell ⟨W6.heap.size,0,none⟩ (.slice (some ⟨B,0,none⟩) 3 cap)):=by
 obtain⟨_,_,_,k,_⟩:=h.box
 have keep: ∀{e:TypeId} {v:Value} {n:Nat} {xs:List Value},w.ownsRow (W6.heap.size+1) e 1 v n xs→(w.setCell ⟨W6.heap.size,0,none⟩ (.slice (some ⟨B,0,none⟩) 3 cap)).ownsRow (W6.heap.size+1) e 1 v n xs:=fun {e v n xs} ho=>
  yi ho (fun g hg=>heap_setCell_other _ _ _ _ (by have:=(ho.lt g hg).1;show g≠W6.heap.size;omega))
 exact⟨h.low.setCell (Nat.le_refl _) _,keep h.own7,keep h.own8,h.far,B,cap,qs,xb k,hq,hD.put ⟨Nat.le_of_eq (World.size_setCell _ _ _).symm,fun j _ hj=>heap_setCell_other w ⟨W6.heap.size,0,none⟩ j _ (fun e=>hj (.inl e))⟩⟩
theorem ZB{C R:Nat}{v7 v8 TH V8:Value}{w w':World}{a:Option Addr}{qs:List Rq}(h:xO (eG C R v7 v8) w a qs)(hl:PY (eG C R v7 v8) w w')(hn: ∀k,k<w.heap.size→eG C R TH V8 k→eG C R v7 v8 k):xO (eG C R TH V8) w' a qs:=
 ((h.more (P':=fun k=>eG C R v7 v8 k∨eG C R TH V8 k) (fun k hk e=>e.elim id (hn k hk))).put ⟨hl.1,fun k hk hj=>hl.2 k hk (fun e=>hj (.inl e))⟩).more (fun _ _ e=>.inr e)
theorem qI.told{W6:World}{R:Nat}{l:List Rp}{T:List Bool}{E:List Int}{v7 v8:Value}{w:World}(h:qI W6 R l T E v7 v8 w)(d:Bool)(hT:T.length≤1000):
  ∃v' w',(Builtin.append_ #[72,72] 72 #[v7,.slice (some ⟨w.heap.size,0,none⟩) 1 1]).run Tryz.prog (w.alloc (.cells #[.bool d] 4))= .ok v' w'∧qI W6 R l (T++[d]) E v' v8 w':=by
 have h':=h.below (zB w (.cells #[.bool d] 4))
 obtain⟨v',w',hr,ho,hg,hk⟩:=eP Tryz.under72 Tryz.info4 rfl (by omega) (w.alloc (.cells #[.bool d] 4)) (W6.heap.size+1) 72 v7 T.length (T.map Value.bool) h'.own7 w.heap.size (.bool d) (heap_alloc_new w _) rfl hT h'.size
 refine⟨v',w',hr,?_⟩
 obtain⟨B,cap,qs,k,hq,hD⟩:=h'.box
 have hb:=uj h'.own7 hg h'.size
 refine⟨h'.low.trans (hb.mono (by omega)),by rw[List.length_append,List.map_append];exact ho,h'.own8.kept hg ?_,?_,B,cap,qs,(hb.block _ (by omega)).trans k,hq,ZB hD ⟨hb.size,fun j ja jb=>hg.block j ja (fun e=>jb (.inr (.inr (.inl e.symm))))⟩ ?_⟩
 ·rcases h'.far with e|e
  ·cases hv:v8.ownBlock with
   |none=>exact .inl rfl
   |some _=>exact .inr (by rw[e];simp)
  ·exact .inr (fun x=>e x.symm)
 ·cases hv:v'.ownBlock with
  |none=>exact .inl rfl
  |some g=>
   refine .inr (fun e=>?_)
   rcases hk g hv with q|q
   ·rcases h'.far with r|r
    ·rw[r]at q;cases q
    ·exact r (q.trans e)
   ·have:=(h'.own8.lt g e.symm).2
    omega
 ·intro j hj e
  rcases e with e|e|e|e
  ·exact .inl e
  ·exact .inr (.inl e)
  ·rcases hk j e with q|q
   ·exact .inr (.inr (.inl q))
   ·omega
  ·exact .inr (.inr (.inr e))
theorem qI.errs{W6:World}{R:Nat}{l:List Rp}{T:List Bool}{E:List Int}{v7 v8:Value}{w:World}(h:qI W6 R l T E v7 v8 w)(d:Int)(hT:E.length≤1000):
  ∃v' w',(Builtin.append_ #[73,73] 73 #[v8,.slice (some ⟨w.heap.size,0,none⟩) 1 1]).run Tryz.prog (w.alloc (.cells #[.int .i64 d] 29))= .ok v' w'∧qI W6 R l T (E++[d]) v7 v' w':=by
 have h':=h.below (zB w (.cells #[.int .i64 d] 29))
 obtain⟨v',w',hr,ho,hg,hk⟩:=eP Tryz.under73 Tryz.info29 rfl (by omega) (w.alloc (.cells #[.int .i64 d] 29)) (W6.heap.size+1) 73 v8 E.length (E.map (Value.int .i64)) h'.own8 w.heap.size (.int .i64 d) (heap_alloc_new w _) rfl hT h'.size
 refine⟨v',w',hr,?_⟩
 obtain⟨B,cap,qs,k,hq,hD⟩:=h'.box
 have hb:=uj h'.own8 hg h'.size
 refine⟨h'.low.trans (hb.mono (by omega)),h'.own7.kept hg h'.far,by rw[List.length_append,List.map_append];exact ho,?_,B,cap,qs,(hb.block _ (by omega)).trans k,hq,ZB hD ⟨hb.size,fun j ja jb=>hg.block j ja (fun e=>jb (.inr (.inr (.inr e.symm))))⟩ ?_⟩
 ·cases hv:v7.ownBlock with
  |none=>exact .inl rfl
  |some g=>
   refine .inr (fun e=>?_)
   rcases hk g e.symm with q|q
   ·rcases h'.far with r|r
    ·rw[r]at hv;cases hv
    ·exact r (hv.trans q.symm)
   ·have:=(h'.own7.lt g hv).2
    omega
 ·intro j hj e
  rcases e with e|e|e|e
  ·exact .inl e
  ·exact .inr (.inl e)
  ·exact .inr (.inr (.inl e))
  ·rcases hk j e with q|q
   ·exact .inr (.inr (.inr q))
   ·omega
theorem qI.start{w:World}{b R t:Nat}{v:Value}(h:zy w (some ⟨b,0,none⟩) [q0,q0,q0])(hR:w.heap[R]? =some (.cells #[v] t)):qI w R vm [] [] (.slice none 0 0) (.slice none 0 0) (w.alloc (.cells #[.slice (some ⟨b,0,none⟩) 3 3] 24)):=by
 have hb:b<w.heap.size:=by
  obtain⟨b',off,e,zN,-⟩:=h 0 (by decide)
  cases e;exact zN
 have yM:b≠R:=fun e=>by
  have:=(h.at (k:=0) (by decide)).1.x1
  rw[e,cell_of_row w R _ _ _ _ hR]at this
  simp at this
 refine⟨zB w _,World.ownsRow_nil _ _ _ _,World.ownsRow_nil _ _ _ _,.inl rfl,b,3,[q0,q0,q0],heap_alloc_new w _,rfl,xO.below (fun i hi=>⟨b,0,rfl,hb,fun e=>?_,fun j hj=>⟨(h.at hj).1,?_⟩⟩) (zB w _)⟩
 ·rcases e with e|e|e|e
  ·omega
  ·exact yM e
  ·cases e
  ·cases e
 ·have j8:j=0∨j=1∨j=2:=by simp at hj;omega
  rcases j8 with rfl|rfl|rfl
  all_goals exact⟨rk,(fun i hi=>absurd hi (Nat.not_lt_zero i)),rk,qa,Nat.zero_le _,Nat.zero_le _,Nat.zero_le _,Nat.zero_le _,Nat.le_refl _⟩
def SG(L:List Rp)(x:Ac)(P:Nat→Prop)(a:Option Addr)(rs:List Rq)(w:World):Prop:=rS L x=0→rs.map Rq.r=dL L x∧(∃B,a=some ⟨B,0,none⟩)∧xO P w a rs
section
variable {L:List Rp} {x:Ac} {P P':Nat→Prop} {a:Option Addr} {rs:List Rq} {w w':World}
theorem SG.below(h:SG L x P a rs w)(hb:Below w.heap.size w w'):SG L x P a rs w':=fun e=>⟨(h e).1,(h e).2.1,(h e).2.2.below hb⟩
theorem SG.put(h:SG L x P a rs w)(hk:PY P w w'):SG L x P a rs w':=fun e=>⟨(h e).1,(h e).2.1,(h e).2.2.put hk⟩
theorem SG.more(h:SG L x P a rs w)(hp: ∀k,k<w.heap.size→P' k→P k):SG L x P' a rs w:=fun e=>⟨(h e).1,(h e).2.1,(h e).2.2.more hp⟩
theorem YR.uni{e:Ending}(h:YR P L x w e w'):Below w.heap.size w w'∧∃a c rs,e= .returned (.tuple #[.agg #[.slice a rs.length c],.bool (tm L x),.int .i64 (rS L x)])∧SG L x P a rs w':=by
 obtain⟨hb,⟨yM,rfl⟩|⟨h0,B,cap,qs,rfl,hq,hQ⟩⟩:=h
 ·exact⟨hb,none,0,[],by unfold tm;rw[if_neg yM];rfl,fun e=>absurd e yM⟩
 ·have h3:qs.length=3:=by rw[←List.length_map (f:=Rq.r),hq];exact YB _ _
  exact⟨hb,some ⟨B,0,none⟩,cap,qs,by unfold tm;rw[if_pos h0,h0,h3],fun _=>⟨hq,⟨B,rfl⟩,hQ⟩⟩
end
def SX(l:List Ac)(w:World)(e:Ending)(w':World):Prop:=
 Below w.heap.size w w'∧((12<l.length∧e= .returned (.tuple #[.agg #[.slice none 0 0],.slice none 0 0,.slice none 0 0,.int .i64 2]))∨
  (l.length≤12∧∃B cap qs v7 v8,e= .returned (.tuple #[.agg #[.slice (some ⟨B,0,none⟩) 3 cap],v7,v8,.int .i64 0])∧qs.map Rq.r=vk vm l∧zy w' (some ⟨B,0,none⟩) qs∧w'.ownsRow w.heap.size 4 1 v7 l.length ((sk vm l).map Value.bool)∧w'.ownsRow w.heap.size 29 1 v8 l.length ((ss vm l).map (Value.int .i64))))
theorem ap(a:Option Addr)(c:Nat)(l:List Aq)(w:World)(h:uv w a l):
  Calls Tryz.prog 37 #[.slice a l.length c] w (SX (l.map Aq.x) w):=by
 obtain⟨PO,xY⟩: ∃P:Ending→World→Prop,Hid (P=SX (l.map Aq.x) w):=⟨_,rfl⟩
 rw[←xY.out]
 have hA:=zB w (.cells #[.slice none 0 0] 24)
 have k1:=heap_alloc_new w (.cells #[.slice none 0 0] 24)
 go_enter Tryz.func37,Tryz.ntmps37
 go_upto_region 1 with fail
 obtain⟨W0,Lz⟩: ∃W,W=w.alloc (.cells #[.slice none 0 0] 24):=⟨_,rfl⟩
 rw[←Lz]at hA k1⊢
 clear Lz
 by_cases hn:12<l.length
 case pos=>
  have hn':(12:Int)<(l.length:Int):=by omega
  have HF:Hid (∀w',Below w.heap.size w w'→PO (.returned (.tuple #[.agg #[.slice none 0 0],.slice none 0 0,.slice none 0 0,.int .i64 2])) w'):=fun w' hb=>by
   rw[xY.out];exact⟨hb,.inl ⟨by rw[List.length_map];exact hn,rfl⟩⟩
  have f1:=zF (o:=0) k1
  have o1:=zJ k1
  have i0:=zJ (xb (u:=.slice none 0 0) k1)
  have HB:Hid (Below w.heap.size w (W0.setCell ⟨w.heap.size,0,none⟩ (.slice none 0 0))):=hA.setCell (by show w.heap.size≤w.heap.size;omega) _
  clear k1 hA hn
  go_wp2
  refine bodyPost_ret (v:=.tuple #[.agg #[.slice none 0 0],.slice none 0 0,.slice none 0 0,.int .i64 2]) (by simp[results,Tryz.results37,go_sem,i0]) rfl ?_
  exact HF.out _ HB.out
 have hn': ¬(12:Int)<(l.length:Int):=by omega
 have hm:=mk3 W0
 obtain⟨W1,Tm⟩: ∃W,W=W0.alloc (.cells #[.slice none 0 0,.slice none 0 0,.int .i64 0,.int .i64 0,.slice none 0 0,.slice none 0 0,.bool false,.slice none 0 0,.slice none 0 0,.int .i64 0,.int .i64 0,.slice none 0 0,.slice none 0 0,.bool false,.slice none 0 0,.slice none 0 0,.int .i64 0,.int .i64 0,.slice none 0 0,.slice none 0 0,.bool false] 36):=⟨_,rfl⟩
 have zM:Below W0.heap.size W0 W1:=by rw[Tm];exact zB _ _
 have hq:zy W1 (some ⟨W0.heap.size,0,none⟩) [q0,q0,q0]:=by rw[Tm];exact WF (heap_alloc_new _ _)
 rw[←Tm]at hm
 clear Tm
 generalize W0.heap.size=b at hm hq
 have zT:=bt hA zM
 have j1:=zA5 zM k1
 have S0:=qI.start hq j1
 have Xj:=zG j1
 clear hA k1 zM hq
 go_wp2_with fail
 generalize W1.alloc (.cells #[.slice (some ⟨b,0,none⟩) 3 3] 24)=W2 at *
 obtain⟨X,hX⟩: ∃X,X=l.map Aq.x:=⟨_,rfl⟩
 have BT:X.length=l.length:=by rw[hX,List.length_map]
 rw[←hX]at xY
 have HX:Hid (∀k (h:k<l.length) (h':k<X.length),X[k]=l[k].x):=fun k h h'=>by subst hX;rw[List.getElem_map]
 clear hX hm
 go_loopw [7,8,9] (fun v7 v8 i wr=>∃(k:Nat) (x7 x8:Value),x7=v7∧x8=v8∧i= .int .i64 k∧k≤l.length∧qI W1 w.heap.size (vk vm (X.take k)) (sk vm (X.take k)) (ss vm (X.take k)) x7 x8 wr) (fun _ _ i _=>l.length-(intOf i).toNat)
 case atStart=>exact⟨0,_,_,rfl,rfl,rfl,Nat.zero_le _,by rw[List.take_zero];exact S0⟩
 case round=>
  obtain⟨k,v7,v8,rfl,rfl,rfl,hk,RS⟩:=hrel
  have vH:=zT.trans (RS.low.mono zT.size)
  by_cases zN:k<l.length
  case neg=>
   have xl:k=l.length:=by omega
   subst xl
   have vg: ¬((l.length:Nat):Int)<(l.length:Int):=by omega
   have eX:X.take l.length=X:=by rw[←BT];exact List.take_length
   rw[eX]at RS
   obtain⟨B,cap,qs,kC,ng,hD⟩:=RS.box
   have jR:=(RS.low.block _ Xj).trans j1
   have yC:=zJ kC
   have fR:=zF (o:=0) jR
   have oR:=zJ jR
   have iR:=zJ (xb (u:=.slice (some ⟨B,0,none⟩) 3 cap) jR)
   have HF:Hid (PO (.returned (.tuple #[.agg #[.slice (some ⟨B,0,none⟩) 3 cap],v7,v8,.int .i64 0])) (wr.setCell ⟨w.heap.size,0,none⟩ (.slice (some ⟨B,0,none⟩) 3 cap))):=by
    unfold Hid;rw[xY.out]
    have keep: ∀{e:TypeId} {v:Value} {n m:Nat} {xs:List Value},n=m→wr.ownsRow (W1.heap.size+1) e 1 v n xs→(wr.setCell ⟨w.heap.size,0,none⟩ (.slice (some ⟨B,0,none⟩) 3 cap)).ownsRow w.heap.size e 1 v m xs:=fun {e v n m xs} eE ho=>by
     subst eE
     exact Sc (yi ho (fun g hg=>heap_setCell_other wr ⟨w.heap.size,0,none⟩ g (.slice (some ⟨B,0,none⟩) 3 cap) (by have:=(ho.lt g hg).1;show g≠w.heap.size;omega))) (by omega)
    exact⟨vH.setCell (Nat.le_refl _) _,.inr ⟨by omega,B,cap,qs,v7,v8,rfl,ng,(hD.put ⟨Nat.le_of_eq (World.size_setCell _ _ _).symm,fun j _ hj=>heap_setCell_other wr ⟨w.heap.size,0,none⟩ j _ (fun e=>hj (.inr (.inl e)))⟩).plain,keep (nr _ _) RS.own7,keep (mB _ _) RS.own8⟩⟩
   clear RS kC hD ng jR j1 S0 vH zT
   go_wp2
   refine bodyPost_ret (v:=.tuple #[.agg #[.slice (some ⟨B,0,none⟩) 3 cap],v7,v8,.int .i64 0]) (by simp[results,Tryz.results37,go_sem,iR]) rfl ?_
   exact HF.out
  have vg:(k:Int)<(l.length:Int):=by omega
  have FG:k<X.length:=by omega
  have hXe:X[k]=l[k].x:=HX.out k zN FG
  have eS:X.take (k+1)=X.take k++[l[k].x]:=by rw[List.take_succ_eq_append_getElem FG,hXe]
  have HL:(X.take k).length=k:=by rw[List.length_take];omega
  have ES:Hid (vk vm (X.take (k+1))=rI (vk vm (X.take k)) l[k].x∧sk vm (X.take (k+1))=sk vm (X.take k)++[tm (vk vm (X.take k)) l[k].x]∧ss vm (X.take (k+1))=ss vm (X.take k)++[rS (vk vm (X.take k)) l[k].x]):=by
   unfold Hid;rw[eS,gU,ga,gZ];exact⟨rfl,rfl,rfl⟩
  have HC:Hid (zi (vk vm (X.take k))=0):=ct _ MW
  have XA:(sk vm (X.take k)).length≤1000:=by rw[nr,HL];omega
  have P1:(ss vm (X.take k)).length≤1000:=by rw[mB,HL];omega
  have Q6:(vk vm (X.take k)).length=3:=qz _ rfl
  obtain⟨L,La⟩: ∃L,L=vk vm (X.take k):=⟨_,rfl⟩
  rw[←La]at RS ES HC Q6
  generalize sk vm (X.take k)=T at *
  generalize ss vm (X.take k)=E at *
  obtain⟨al,ol,rfl⟩:=h.some (by omega)
  obtain⟨B,cap,qs,kC,ng,hQ⟩:=RS.box
  have Lt:Hid (qs.map Rq.r=L):=ng
  have hq3:qs.length=3:=by rw[←Q6,←ng,List.length_map]
  have mo:=h.below vH
  have aH:=(mo.at zN).2
  have Hh:Hid (l[k].x.m.length≤9223372036854775807):=aH.hml
  have J8:Hid (l[k].x.us.length≤9223372036854775807):=aH.hul
  have hU:=aH.hu
  obtain⟨PP,hPP⟩: ∃P,P=eG W1.heap.size w.heap.size v7 v8:=⟨_,rfl⟩
  have hPl: ∀k,PP k→w.heap.size≤k∧k<wr.heap.size:=by rw[hPP];exact RS.lt Xj
  rw[←hPP]at hQ
  have HM:Hid (∀P':Nat→Prop,(∀k,P' k→w.heap.size≤k)→∀W,Below wr.heap.size wr W→ym P' W l[k].am l[k].x.m):=fun P' hp W hb=>(((h.at zN).2.hm.toP (P:=P') (fun j hj e=>by have:=hp j e;omega)).below vH).below hb
  have Hs:Hid (∀P':Nat→Prop,(∀k,k<wr.heap.size→P' k→PP k)→∀W,Below wr.heap.size wr W→xO P' W (some ⟨B,0,none⟩) qs):=fun P' hp W hb=>(hQ.more hp).below hb
  have Tq:Hid (∀k,PP k→w.heap.size≤k∧k<wr.heap.size):=hPl
  have Fp:Hid (qI W1 w.heap.size L T E v7 v8 wr):=RS
  have eQ:Hid (PP=eG W1.heap.size w.heap.size v7 v8):=hPP
  have zRC:=vH.size
  clear ng hQ aH hPl hPP La hXe eS HL Q6 RS S0 j1
  go_upto_region 9 with fail
  go_cut [10,11,12] from 25 to 34 (fun s10 s11 s12 wx=>∃(p:Nat) (aN:Option Addr) (cN:Nat) (rs:List Rq),s10= .pointer (some ⟨p,0,none⟩)∧s11= .bool (tm L l[k].x)∧s12= .int .i64 (rS L l[k].x)∧Below wr.heap.size wr wx∧wx.heap[p]? =some (.cells #[.slice aN rs.length cN] 24)∧wr.heap.size≤p∧SG L l[k].x PP aN rs wx)
  case first=>
   have Vo:=Below.refl wr.heap.size wr
   have hzC:=zG kC
   have zk:=zU wr
   have zX:=bt Vo zk
   have fs:=zA5 zk kC
   have Ma:=zk.size
   clear kC zk Vo
   refine zS (fun W=>(W.heap[W1.heap.size]? =some (.cells #[.slice (some ⟨B,0,none⟩) 3 cap] 24))∧(uv W (some ⟨al,ol,none⟩) l)) (fun _=>false) (by kernel_rfl) ⟨fs,(mo.below zX)⟩ (fun hS=>?_)
   clear hS
   generalize wr.drew=W_5 at *
   refine zAB 0 ?_ rfl ?_ ⟨fs,(mo.below zX)⟩ ?_;rotate_left
   ·intro w zD;obtain⟨s1,s2⟩:=zD;have e1:=zJ s1;obtain⟨v0,v1,v2,v3,v4,v5,v6⟩:=(s2.at zN).1;clear s1 s2;go_simp;rfl
   try simp only[tn]
   refine zAB 1 ?_ rfl ?_ ⟨fs,(mo.below zX)⟩ ?_;rotate_left
   ·intro w zD;obtain⟨s1,s2⟩:=zD;have e1:=zJ s1;obtain⟨v0,v1,v2,v3,v4,v5,v6⟩:=(s2.at zN).1;clear s1 s2;go_simp;rfl
   try simp only[tn]
   refine zAB 2 ?_ rfl ?_ ⟨fs,(mo.below zX)⟩ ?_;rotate_left
   ·intro w zD;obtain⟨s1,s2⟩:=zD;have e1:=zJ s1;obtain⟨v0,v1,v2,v3,v4,v5,v6⟩:=(s2.at zN).1;clear s1 s2;go_simp;rfl
   try simp only[tn]
   refine zAB 3 ?_ rfl ?_ ⟨fs,(mo.below zX)⟩ ?_;rotate_left
   ·intro w zD;obtain⟨s1,s2⟩:=zD;have e1:=zJ s1;obtain⟨v0,v1,v2,v3,v4,v5,v6⟩:=(s2.at zN).1;clear s1 s2;go_simp;rfl
   try simp only[tn]
   refine zAB 4 ?_ rfl ?_ ⟨fs,(mo.below zX)⟩ ?_;rotate_left
   ·intro w zD;obtain⟨s1,s2⟩:=zD;have e1:=zJ s1;obtain⟨v0,v1,v2,v3,v4,v5,v6⟩:=(s2.at zN).1;clear s1 s2;go_simp;rfl
   try simp only[tn]
   refine wpAnyE.two (i:=5) (j:=10) (by kernel_rfl) rfl rfl (fun K hK=>?_) (fun K hK=>?_)
   ·skip
    have Ys:=WJ PP l[k].x (some ⟨B,0,none⟩) cap qs l[k].am l[k].cm l[k].au l[k].cu W_5 (fun j qk=>by have:=Tq.out j qk;have:=zX.size;omega) (Hs.out PP (fun j hj qk=>qk) W_5 zX) hq3 (by rw[Lt.out];exact HC.out) (HM.out PP (fun j qk=>(Tq.out j qk).1) W_5 zX) Hh.out (hU.below zX) J8.out
    rw[Lt.out]at Ys
    go_simp
    refine Ys.mono ?_
    clear Ys
    rintro e qe Va
    obtain⟨h,aN,cN,rs,rfl,jw⟩:=Va.uni
    have jG:SG L l[k].x PP aN rs qe:=jw
    clear Va jw
    have UE:=bt zX h
    have DM:=zA5 h fs
    have zG1:=h.size
    clear fs h zX
    refine hK _ _ (fun _=>⟨DM,(mo.below UE)⟩) ?_
    clear hK K
    try simp only[tn]
    refine zAB 6 ?_ rfl ?_ ⟨DM,(mo.below UE)⟩ ?_;rotate_left
    ·intro w zD;obtain⟨s1,s2⟩:=zD;have e1:=zJ s1;obtain⟨v0,v1,v2,v3,v4,v5,v6⟩:=(s2.at zN).1;clear s1 s2;go_simp;rfl
    try simp only[tn]
    refine zAB 7 ?_ rfl ?_ ⟨DM,(mo.below UE)⟩ ?_;rotate_left
    ·intro w zD;obtain⟨s1,s2⟩:=zD;have e1:=zJ s1;obtain⟨v0,v1,v2,v3,v4,v5,v6⟩:=(s2.at zN).1;clear s1 s2;go_simp;rfl
    try simp only[tn]
    refine zAB 8 ?_ rfl ?_ ⟨DM,(mo.below UE)⟩ ?_;rotate_left
    ·intro w zD;obtain⟨s1,s2⟩:=zD;have e1:=zJ s1;obtain⟨v0,v1,v2,v3,v4,v5,v6⟩:=(s2.at zN).1;clear s1 s2;go_simp;rfl
    try simp only[tn]
    refine zAB 9 ?_ rfl ?_ ⟨DM,(mo.below UE)⟩ ?_;rotate_left
    ·intro w zD;obtain⟨s1,s2⟩:=zD;have e1:=zJ s1;obtain⟨v0,v1,v2,v3,v4,v5,v6⟩:=(s2.at zN).1;clear s1 s2;go_simp;rfl
    try simp only[tn]
    refine zAC 10 rfl fun K hK=>?_
    have Hq:SG L l[k].x (fun k=>PP k∨k=qe.heap.size) aN rs qe:=jG.more (fun k hk e=>e.elim id (fun e=>absurd e (by omega)))
    clear jG
    go_simp
    have X0:=zB qe (.cells #[.slice none 0 0] 24)
    have K8:=heap_alloc_new qe (.cells #[.slice none 0 0] 24)
    have zJP:qe.heap.size<(qe.alloc (.cells #[.slice none 0 0] 24)).heap.size:=by simp
    generalize qe.alloc (.cells #[.slice none 0 0] 24)=W_13 at *
    have nh:=bt UE X0
    have bB:=zA5 X0 DM
    have Hy:=Hq.below X0
    have zAR:=X0.size
    clear DM Hq X0 UE
    refine hK _ _ (fun _=>⟨bB,(mo.below nh)⟩) ?_
    clear hK K
    try simp only[tn]
    refine zAC 11 rfl fun K hK=>?_
    have zAZ:=(Hy.put (w':=W_13.setCell ⟨qe.heap.size,0,none⟩ (.slice aN rs.length cN)) ⟨Nat.le_of_eq (World.size_setCell _ _ _).symm,fun j _ hj=>heap_setCell_other W_13 ⟨qe.heap.size,0,none⟩ j _ (fun e=>hj (.inr e))⟩).more (P':=PP) (fun j _ hj=>.inl hj)
    clear Hy
    have zIO:=zF (o:=0) K8
    have zEH:=zJ K8
    have Bf:=heap_setCell_same W_13 (qe.heap.size) 0 _ _ (.slice aN rs.length cN) K8
    have Sg:Below _ _ (W_13.setCell ⟨qe.heap.size,0,none⟩ (.slice aN rs.length cN)):=nh.setCell (by have:=nh.size;show _≤qe.heap.size;omega) _
    have bp:=(heap_setCell_other W_13 ⟨qe.heap.size,0,none⟩ (W1.heap.size) (.slice aN rs.length cN) (by show W1.heap.size≠qe.heap.size;omega)).trans bB
    have zP6:W_13.heap.size≤(W_13.setCell ⟨qe.heap.size,0,none⟩ (.slice aN rs.length cN)).heap.size:=yX _ _ _
    go_simp
    generalize (W_13.setCell ⟨qe.heap.size,0,none⟩ (.slice aN rs.length cN))=W_24 at *
    clear zEH zIO bB K8 nh
    simp only[List.setIfInBounds_toArray,List.set_cons_zero]at Bf
    refine hK _ _ (fun _=>⟨bp,(mo.below Sg)⟩) ?_
    clear hK K
    try simp only[tn]
    refine zAC 12 rfl fun K hK=>?_
    go_simp
    refine hK _ _ (fun _=>⟨bp,(mo.below Sg)⟩) ?_
    clear hK K
    try simp only[tn]
    refine zAC 13 rfl fun K hK=>?_
    go_simp
    refine hK _ _ (fun _=>⟨bp,(mo.below Sg)⟩) ?_
    clear hK K
    try simp only[tn]
    refine zAE ?_
    go_wp2_with fail
    go_meet
    case rel=>exact⟨_,aN,cN,rs,rfl,rfl,rfl,Sg,Bf,by omega,zAZ⟩
   ·skip
    go_simp
    have Sk:=zB W_5 (.cells #[.slice none 0 0] 24)
    have Gq:=heap_alloc_new W_5 (.cells #[.slice none 0 0] 24)
    have BW:W_5.heap.size<(W_5.alloc (.cells #[.slice none 0 0] 24)).heap.size:=by simp
    generalize W_5.alloc (.cells #[.slice none 0 0] 24)=W_29 at *
    have dP:=bt zX Sk
    have EZ:=zA5 Sk fs
    have zK4:=Sk.size
    clear fs Sk zX
    refine hK _ _ (fun _=>⟨EZ,(mo.below dP)⟩) ?_
    clear hK K
    try simp only[tn]
    refine zAC 5 rfl fun K hK=>?_
    have LA:=zG Gq
    have Ys:=WJ (fun k=>PP k∨k=W_5.heap.size) l[k].x (some ⟨B,0,none⟩) cap qs l[k].am l[k].cm l[k].au l[k].cu W_29 (fun j qk=>by
     rcases qk with qk|qk
     ·have:=Tq.out j qk;have:=dP.size;omega
     ·omega) (Hs.out (fun k=>PP k∨k=W_5.heap.size) (fun j hj qk=>by
     rcases qk with qk|qk
     ·exact qk
     ·omega) W_29 dP) hq3 (by rw[Lt.out];exact HC.out) (HM.out (fun k=>PP k∨k=W_5.heap.size) (fun j qk=>by
     rcases qk with qk|qk
     ·exact(Tq.out j qk).1
     ·omega) W_29 dP) Hh.out (hU.below dP) J8.out
    clear LA
    rw[Lt.out]at Ys
    go_simp
    refine Ys.mono ?_
    clear Ys
    rintro e YK Va
    obtain⟨h,aN,cN,rs,rfl,jw⟩:=Va.uni
    have jG:SG L l[k].x (fun k=>PP k∨k=W_5.heap.size) aN rs YK:=jw
    clear Va jw
    have fa:=bt dP h
    have TO:=zA5 h EZ
    have KU:=zA5 h Gq
    have zMJ:=h.size
    clear EZ Gq h dP
    refine hK _ _ (fun _=>⟨TO,(mo.below fa)⟩) ?_
    clear hK K
    try simp only[tn]
    refine zAB 6 ?_ rfl ?_ ⟨TO,(mo.below fa)⟩ ?_;rotate_left
    ·intro w zD;obtain⟨s1,s2⟩:=zD;have e1:=zJ s1;obtain⟨v0,v1,v2,v3,v4,v5,v6⟩:=(s2.at zN).1;clear s1 s2;go_simp;rfl
    try simp only[tn]
    refine zAB 7 ?_ rfl ?_ ⟨TO,(mo.below fa)⟩ ?_;rotate_left
    ·intro w zD;obtain⟨s1,s2⟩:=zD;have e1:=zJ s1;obtain⟨v0,v1,v2,v3,v4,v5,v6⟩:=(s2.at zN).1;clear s1 s2;go_simp;rfl
    try simp only[tn]
    refine zAB 8 ?_ rfl ?_ ⟨TO,(mo.below fa)⟩ ?_;rotate_left
    ·intro w zD;obtain⟨s1,s2⟩:=zD;have e1:=zJ s1;obtain⟨v0,v1,v2,v3,v4,v5,v6⟩:=(s2.at zN).1;clear s1 s2;go_simp;rfl
    try simp only[tn]
    refine zAB 9 ?_ rfl ?_ ⟨TO,(mo.below fa)⟩ ?_;rotate_left
    ·intro w zD;obtain⟨s1,s2⟩:=zD;have e1:=zJ s1;obtain⟨v0,v1,v2,v3,v4,v5,v6⟩:=(s2.at zN).1;clear s1 s2;go_simp;rfl
    try simp only[tn]
    refine zAC 11 rfl fun K hK=>?_
    have zAS:=(jG.put (w':=YK.setCell ⟨W_5.heap.size,0,none⟩ (.slice aN rs.length cN)) ⟨Nat.le_of_eq (World.size_setCell _ _ _).symm,fun j _ hj=>heap_setCell_other YK ⟨W_5.heap.size,0,none⟩ j _ (fun e=>hj (.inr e))⟩).more (P':=PP) (fun j _ hj=>.inl hj)
    clear jG
    have zG8:=zF (o:=0) KU
    have zGE:=zJ KU
    have zBA:=heap_setCell_same YK (W_5.heap.size) 0 _ _ (.slice aN rs.length cN) KU
    have SS:Below _ _ (YK.setCell ⟨W_5.heap.size,0,none⟩ (.slice aN rs.length cN)):=fa.setCell (by have:=fa.size;show _≤W_5.heap.size;omega) _
    have Fa:=(heap_setCell_other YK ⟨W_5.heap.size,0,none⟩ (W1.heap.size) (.slice aN rs.length cN) (by show W1.heap.size≠W_5.heap.size;omega)).trans TO
    have zLT:YK.heap.size≤(YK.setCell ⟨W_5.heap.size,0,none⟩ (.slice aN rs.length cN)).heap.size:=yX _ _ _
    go_simp
    generalize (YK.setCell ⟨W_5.heap.size,0,none⟩ (.slice aN rs.length cN))=Wi at *
    clear zGE zG8 TO KU fa
    simp only[List.setIfInBounds_toArray,List.set_cons_zero]at zBA
    refine hK _ _ (fun _=>⟨Fa,(mo.below SS)⟩) ?_
    clear hK K
    try simp only[tn]
    refine zAC 12 rfl fun K hK=>?_
    go_simp
    refine hK _ _ (fun _=>⟨Fa,(mo.below SS)⟩) ?_
    clear hK K
    try simp only[tn]
    refine zAC 13 rfl fun K hK=>?_
    go_simp
    refine hK _ _ (fun _=>⟨Fa,(mo.below SS)⟩) ?_
    clear hK K
    try simp only[tn]
    refine zAE ?_
    go_wp2_with fail
    go_meet
    case rel=>exact⟨_,aN,cN,rs,rfl,rfl,rfl,SS,zBA,by omega,zAS⟩
  case rest=>
   obtain⟨p,aN,cN,rs,rfl,rfl,rfl,fE,kP,hp,fh⟩:=hcut
   have Ae:=Fp.out.below fE
   have hBc:=bt vH fE
   have yP:=zJ kP
   clear kC mo hU HM Hs vH Lt hq3 HC Hh J8
   by_cases hz:rS L l[k].x=0
   case neg=>
    have q1:(rS L l[k].x==0)=false:=by simpa using hz
    have HE:Hid (vk vm (X.take (k+1))=L∧sk vm (X.take (k+1))=T++[tm L l[k].x]∧ss vm (X.take (k+1))=E++[rS L l[k].x]):=by
     obtain⟨e1,e2,e3⟩:=ES.out
     unfold Hid;rw[e1,e2,e3];unfold rI;rw[if_neg hz];exact⟨rfl,rfl,rfl⟩
    clear fh hz ES Fp kP
    generalize rS L l[k].x=D at *
    generalize tm L l[k].x=F at *
    go_upto_region 12 with fail
    clear yP
    obtain⟨TH,W6,dW,He⟩:=Ae.told F XA
    obtain⟨V8,W7,Eg,LI⟩:=He.errs D P1
    have HN:Hid (qI W1 w.heap.size (vk vm (X.take (k+1))) (sk vm (X.take (k+1))) (ss vm (X.take (k+1))) TH V8 W7):=by
     obtain⟨e1,e2,e3⟩:=HE.out
     unfold Hid;rw[e1,e2,e3];exact LI
    clear Ae He LI HE
    go_wp2_with first|(at_builtin;refine Lib.wpList_append_run _ rfl _ _ 72 72 rfl _ _ rfl rfl _ _ dW ?_)|(at_builtin;refine Lib.wpList_append_run _ rfl _ _ 73 73 rfl _ _ rfl rfl _ _ Eg ?_)
    go_roundw
    case rel=>exact⟨k+1,TH,V8,rfl,rfl,by go_num,by omega,HN.out⟩
    case measure=>simp[intOf];omega
   obtain⟨hmr,⟨B',rfl⟩,hQ'⟩:=fh hz
   have b6:rs.length=3:=by rw[←List.length_map (f:=Rq.r),hmr];exact YB _ _
   rw[eQ.out]at hQ'
   rw[b6]at yP
   have RSd:=Ae.put (cap:=cN) hmr hQ'
   have HE:Hid (vk vm (X.take (k+1))=dL L l[k].x∧sk vm (X.take (k+1))=T++[tm L l[k].x]∧ss vm (X.take (k+1))=E++[0]):=by
    obtain⟨e1,e2,e3⟩:=ES.out
    unfold Hid;rw[e1,e2,e3,hz];unfold rI;rw[if_pos hz];exact⟨rfl,rfl,rfl⟩
   obtain⟨_,_,_,kC,-⟩:=Ae.box
   have fC:=zF (o:=0) kC
   have oC:=zJ kC
   rw[hz]
   clear fh hz ES Fp kP Ae hmr hQ' kC b6
   generalize tm L l[k].x=F at *
   generalize dL L l[k].x=L2 at *
   go_upto_region 12 with fail
   clear yP fC oC
   generalize wc.setCell ⟨W1.heap.size,0,none⟩ (.slice (some ⟨B',0,none⟩) 3 cN)=W5 at *
   obtain⟨TH,W6,dW,LI⟩:=RSd.told F XA
   obtain⟨V8,W7,Eg,RS8⟩:=LI.errs 0 P1
   have HN:Hid (qI W1 w.heap.size (vk vm (X.take (k+1))) (sk vm (X.take (k+1))) (ss vm (X.take (k+1))) TH V8 W7):=by
    obtain⟨e1,e2,e3⟩:=HE.out
    unfold Hid;rw[e1,e2,e3];exact RS8
   clear RSd LI RS8 HE
   go_wp2_with first|(at_builtin;refine Lib.wpList_append_run _ rfl _ _ 72 72 rfl _ _ rfl rfl _ _ dW ?_)|(at_builtin;refine Lib.wpList_append_run _ rfl _ _ 73 73 rfl _ _ rfl rfl _ _ Eg ?_)
   go_roundw
   case rel=>exact⟨k+1,TH,V8,rfl,rfl,by go_num,by omega,HN.out⟩
   case measure=>simp[intOf];omega
end
theorem Ug(a:Option Addr)(c:Nat)(l:List Rq)(a2:Option Addr)(c2:Nat)(l2:List Rq)(w:World)(h:zy w a l)(h2:zy w a2 l2)(hl:l.length≤9223372036854775807)(he:l.map Rq.r=l2.map Rq.r):
  Calls Tryz.prog 39 #[.agg #[.slice a l.length c],.int .i64 0,.int .i64 0,.agg #[.slice a2 l2.length c2]] w fun e w'=>e= .returned (.bool true)∧Below w.heap.size w w':=by
 have hA:=zV w (.cells #[.slice a l.length c] 24) (.cells #[.slice a2 l2.length c2] 24)
 obtain⟨k1,k2⟩:=ye w (.cells #[.slice a l.length c] 24) (.cells #[.slice a2 l2.length c2] 24)
 have hc:=nN a c l a2 c2 l2 _ (h.below hA) (h2.below hA) hl
 have y1:=zJ k1
 have y2:=zJ k2
 clear k1 k2
 go_enter Tryz.func39,Tryz.ntmps39
 go_wp2_with fail
 refine hc.mono ?_
 clear hc y1 y2
 rintro e W1 ⟨r,rfl,hr,hb⟩
 obtain rfl:=hr.2 he
 have hB:=bt hA hb
 clear hb hA hr
 go_wp2
 go_ret
 exact⟨rfl,hB⟩
theorem U3(w:World):
  Calls Tryz.prog 39 #[.agg #[.slice none 0 0],.int .i64 2,.int .i64 2,.agg #[.slice none 0 0]] w fun e w'=>e= .returned (.bool true)∧Below w.heap.size w w':=by
 have hA:=zV w (.cells #[.slice none 0 0] 24) (.cells #[.slice none 0 0] 24)
 obtain⟨k1,k2⟩:=ye w (.cells #[.slice none 0 0] 24) (.cells #[.slice none 0 0] 24)
 have fR:=zF (o:=0) k2
 have y1:=zJ k1
 have y2:=zJ k2
 go_enter Tryz.func39,Tryz.ntmps39
 go_upto_region 3 with fail
 clear k1 k2 fR
 have hc:=nN none 0 [] none 0 [] ((w.alloc (.cells #[.slice none 0 0] 24)).alloc (.cells #[.slice none 0 0] 24)) (fun i hi=>absurd hi (Nat.not_lt_zero i)) (fun i hi=>absurd hi (Nat.not_lt_zero i)) (Nat.zero_le _)
 simp only[List.length_nil]at hc
 go_wp2_with fail
 refine hc.mono ?_
 clear hc y1 y2
 rintro e W1 ⟨r,rfl,hr,hb⟩
 obtain rfl:=hr.2 trivial
 have hB:=bt hA hb
 clear hb hA hr
 go_wp2
 go_ret
 exact⟨rfl,hB⟩
def Rd(w:World)(g k:Nat)(u:Value):Prop:=w.cell? ⟨g,k,none⟩=some u∧g<w.heap.size
theorem Rd.below{w w':World}{g k:Nat}{u:Value}(h:Rd w g k u)(hb:Below w.heap.size w w'):Rd w' g k u:=⟨(World.cell?_of_block (a:=⟨g,k,none⟩) (hb.block g h.2)).trans h.1,Nat.lt_of_lt_of_le h.2 hb.size⟩
theorem Y2{w:World}{base:Nat}{e:TypeId}{g n cap:Nat}{xs:List Value}(h:w.ownsRow base e 1 (.slice (some ⟨g,0,none⟩) n cap) n xs)(j:Nat)(u:Value)(hu:xs[j]? =some u):Rd w g j u:=⟨qH h j u hu,(h.lt g rfl).2⟩
theorem YY(a:Option Addr)(c:Nat)(l:List Aq)(w:World)(hg:xr w)(ht:bP w)(h:uv w a l):
  Calls Tryz.prog 9 #[.slice a l.length c] w fun e w'=>e= .returned (.bool true)∧Below w.heap.size w w':=by
 have hc:=Ss a c l w hg ht h
 go_enter Tryz.func9,Tryz.ntmps9
 go_wp2_with fail
 refine hc.mono ?_
 clear hc
 rintro e W1 ⟨zM,⟨hn,rfl⟩|⟨hn,B0,kB,Dv,v7,v8,rfl,Ls,hH0,zJT,hT,hE⟩⟩
 ·have hA:=zB W1 (.cells #[.slice none 0 0] 24)
  have k3:=heap_alloc_new W1 (.cells #[.slice none 0 0] 24)
  have zj:=bt zM hA
  have hc:=ap a c l _ (h.below zj)
  clear hA zM
  go_wp2_with fail
  generalize W1.alloc (.cells #[.slice none 0 0] 24)=W2 at *
  refine hc.mono ?_
  clear hc
  rintro e W3 ⟨yT,h0⟩
  rcases h0 with⟨-,rfl⟩|⟨pQ,-⟩
  rotate_left
  ·exact absurd pQ (by omega)
  have xL:=bt zj yT
  have j3:=zA5 yT k3
  have Wn:=zB W3 (.cells #[.slice none 0 0] 24)
  have k4:=heap_alloc_new W3 (.cells #[.slice none 0 0] 24)
  have xZ:=bt xL Wn
  have l3:=zA5 Wn j3
  have hc:=mw _ (hg.below xZ) (ht.below xZ)
  clear yT k3 xL zj Wn j3 hn
  go_wp2_with fail
  generalize W3.alloc (.cells #[.slice none 0 0] 24)=W4 at *
  refine hc.mono ?_
  clear hc
  rintro e W5 ⟨rfl,xu⟩
  have su:=bt xZ xu
  have y3:=zJ ((zA5 xu l3))
  have y4:=zJ ((zA5 xu k4))
  clear xu l3 k4 xZ
  have hc:=U3 W5
  go_wp2_with fail
  refine hc.mono ?_
  clear hc y3 y4
  rintro e W6 ⟨rfl,qY⟩
  have nE:=bt su qY
  clear qY su
  go_wp2_with fail
  go_loopw [11] (fun i wr=>i= .int .i64 0∧Below w.heap.size w wr) (fun _ _=>0)
  case atStart=>exact⟨rfl,nE⟩
  case round=>
   obtain⟨rfl,px⟩:=hrel
   go_wp2
   go_ret
   exact⟨rfl,px⟩
 rw[List.length_map]at hn hT hE
 obtain⟨X,hX⟩: ∃X,X=l.map Aq.x:=⟨_,rfl⟩
 have BT:X.length=l.length:=by rw[hX,List.length_map]
 rw[←hX]at hT hE Ls
 obtain⟨a7,c7,rfl⟩:=sX hT
 obtain⟨a8,c8,rfl⟩:=sX hE
 have hA:=zB W1 (.cells #[.slice (some ⟨B0,0,none⟩) 3 kB] 24)
 have k3:=heap_alloc_new W1 (.cells #[.slice (some ⟨B0,0,none⟩) 3 kB] 24)
 have zj:=bt zM hA
 have P1:=zL hT hA
 have hE2:=zL hE hA
 have PU:=hH0.below hA
 have hc:=ap a c l _ (h.below zj)
 rw[←hX]at hc
 clear hA zM hT hE hH0 hX
 go_wp2_with fail
 generalize W1.alloc (.cells #[.slice (some ⟨B0,0,none⟩) 3 kB] 24)=W2 at *
 refine hc.mono ?_
 clear hc
 rintro e W3 ⟨yT,⟨pQ,rfl⟩|⟨-,B1,JW,DQ,u7,u8,rfl,Hd,hH3,hU,hF⟩⟩
 ·exact absurd pQ (by omega)
 rw[BT]at hU hF
 obtain⟨d7,e7,rfl⟩:=sX hU
 obtain⟨d8,e8,rfl⟩:=sX hF
 have xL:=bt zj yT
 have j3:=zA5 yT k3
 have Bj:=zL P1 yT
 have hE3:=zL hE2 yT
 have hG3:=PU.below yT
 have Wn:=zB W3 (.cells #[.slice (some ⟨B1,0,none⟩) 3 JW] 24)
 have k4:=heap_alloc_new W3 (.cells #[.slice (some ⟨B1,0,none⟩) 3 JW] 24)
 have xZ:=bt xL Wn
 have l3:=zA5 Wn j3
 have C6:=zL Bj Wn
 have Cz:=zL hE3 Wn
 have hU4:=zL hU Wn
 have hF4:=zL hF Wn
 have hG4:=hG3.below Wn
 have hH4:=hH3.below Wn
 have hc:=mw _ (hg.below xZ) (ht.below xZ)
 clear yT k3 xL zj Wn j3 P1 hE2 Bj hE3 hU hF hG3 hH3 PU
 go_wp2_with fail
 generalize W3.alloc (.cells #[.slice (some ⟨B1,0,none⟩) 3 JW] 24)=W4 at *
 refine hc.mono ?_
 clear hc
 rintro e W5 ⟨rfl,xu⟩
 have su:=bt xZ xu
 have y3:=zJ ((zA5 xu l3))
 have y4:=zJ ((zA5 xu k4))
 have n0:Dv.length=3:=by rw[←List.length_map (f:=Rq.r),Ls];exact qz _ rfl
 have n1:DQ.length=3:=by rw[←List.length_map (f:=Rq.r),Hd];exact qz _ rfl
 have hc:=Ug (some ⟨B0,0,none⟩) kB Dv (some ⟨B1,0,none⟩) JW DQ W5 (hG4.below xu) (hH4.below xu) (by omega) (Ls.trans Hd.symm)
 rw[n0,n1]at hc
 have hT5:=zL C6 xu
 have hE5:=zL Cz xu
 have hU5:=zL hU4 xu
 have hF5:=zL hF4 xu
 clear xu l3 k4 xZ C6 Cz hU4 hF4 hG4 hH4 Ls Hd n0 n1
 have b0:((l.length:Int) != (l.length:Int))=false:=by simp
 go_wp2_with fail
 refine hc.mono ?_
 clear hc y3 y4
 rintro e W6 ⟨rfl,qY⟩
 have nE:=bt su qY
 have NF:=zL hT5 qY
 have Gr:=zL hE5 qY
 have hU6:=zL hU5 qY
 have hF6:=zL hF5 qY
 clear qY su hT5 hE5 hU5 hF5
 go_wp2_with fail
 go_loopw [11] (fun i wr=>∃k:Nat,i= .int .i64 k∧k≤l.length∧Below W6.heap.size W6 wr) (fun i _=>l.length-(intOf i).toNat)
 case atStart=>exact⟨0,rfl,Nat.zero_le _,Below.refl _ _⟩
 case round=>
  obtain⟨k,rfl,hk,px⟩:=hrel
  have vH:=bt nE px
  by_cases zN:k<l.length
  case neg=>
   have vg: ¬(k:Int)<(l.length:Int):=by omega
   clear NF Gr hU6 hF6 px
   go_wp2
   go_ret
   exact⟨rfl,vH⟩
  have vg:(k:Int)<(l.length:Int):=by omega
  have FG:k<X.length:=by omega
  obtain⟨g7,h7,q7⟩:=pB NF (by omega)
  cases q7
  obtain⟨g8,h8,q8⟩:=pB Gr (by omega)
  cases q8
  obtain⟨p7,i7,q7⟩:=pB hU6 (by omega)
  cases q7
  obtain⟨p8,i8,q8⟩:=pB hF6 (by omega)
  cases q8
  have r1:=(Y2 NF k (.bool (tm (vk vm (X.take k)) X[k])) (by rw[List.getElem?_map,dy X vm k FG];rfl)).below px
  have r2:=(Y2 Gr k (.int .i64 (rS (vk vm (X.take k)) X[k])) (by rw[List.getElem?_map,eb X vm k FG];rfl)).below px
  have r3:=(Y2 hU6 k (.bool (tm (vk vm (X.take k)) X[k])) (by rw[List.getElem?_map,dy X vm k FG];rfl)).below px
  have r4:=(Y2 hF6 k (.int .i64 (rS (vk vm (X.take k)) X[k])) (by rw[List.getElem?_map,eb X vm k FG];rfl)).below px
  generalize tm (vk vm (X.take k)) X[k]=T at *
  generalize rS (vk vm (X.take k)) X[k]=E at *
  have b1:(T != T)=false:=by simp
  have b2:(E != E)=false:=by simp
  have Vo:=Below.refl wr.heap.size wr
  clear NF Gr hU6 hF6 vH
  go_upto_region 8 with fail
  have zk:=zU wr
  have zX:=bt Vo zk
  have zRR:=zk.size
  clear zk Vo
  refine zS (fun W=>(Rd W g7 k (.bool T))∧(Rd W g8 k (.int .i64 E))∧(Rd W p7 k (.bool T))∧(Rd W p8 k (.int .i64 E))) (fun _=>false) (by kernel_rfl) ⟨(r1.below zX),(r2.below zX),(r3.below zX),(r4.below zX)⟩ (fun hS=>?_)
  clear hS
  generalize wr.drew=W_4 at *
  refine zAB 0 ?_ rfl ?_ ⟨(r1.below zX),(r2.below zX),(r3.below zX),(r4.below zX)⟩ ?_;rotate_left
  ·intro w zD;obtain⟨⟨s1,-⟩,⟨s2,-⟩,⟨s3,-⟩,⟨s4,-⟩⟩:=zD;go_simp;rfl
  try simp only[tn]
  refine zAB 1 ?_ rfl ?_ ⟨(r1.below zX),(r2.below zX),(r3.below zX),(r4.below zX)⟩ ?_;rotate_left
  ·intro w zD;obtain⟨⟨s1,-⟩,⟨s2,-⟩,⟨s3,-⟩,⟨s4,-⟩⟩:=zD;go_simp;rfl
  try simp only[tn]
  refine zAB 4 ?_ rfl ?_ ⟨(r1.below zX),(r2.below zX),(r3.below zX),(r4.below zX)⟩ ?_;rotate_left
  ·intro w zD;obtain⟨⟨s1,-⟩,⟨s2,-⟩,⟨s3,-⟩,⟨s4,-⟩⟩:=zD;go_simp;rfl
  try simp only[tn]
  refine zAB 5 ?_ rfl ?_ ⟨(r1.below zX),(r2.below zX),(r3.below zX),(r4.below zX)⟩ ?_;rotate_left
  ·intro w zD;obtain⟨⟨s1,-⟩,⟨s2,-⟩,⟨s3,-⟩,⟨s4,-⟩⟩:=zD;go_simp;rfl
  try simp only[tn]
  refine zAB 2 ?_ rfl ?_ ⟨(r1.below zX),(r2.below zX),(r3.below zX),(r4.below zX)⟩ ?_;rotate_left
  ·intro w zD;obtain⟨⟨s1,-⟩,⟨s2,-⟩,⟨s3,-⟩,⟨s4,-⟩⟩:=zD;go_simp;rfl
  try simp only[tn]
  refine zAB 6 ?_ rfl ?_ ⟨(r1.below zX),(r2.below zX),(r3.below zX),(r4.below zX)⟩ ?_;rotate_left
  ·intro w zD;obtain⟨⟨s1,-⟩,⟨s2,-⟩,⟨s3,-⟩,⟨s4,-⟩⟩:=zD;go_simp;rfl
  try simp only[tn]
  refine zAB 3 ?_ rfl ?_ ⟨(r1.below zX),(r2.below zX),(r3.below zX),(r4.below zX)⟩ ?_;rotate_left
  ·intro w zD;obtain⟨⟨s1,-⟩,⟨s2,-⟩,⟨s3,-⟩,⟨s4,-⟩⟩:=zD;go_simp;rfl
  try simp only[tn]
  refine zAB 7 ?_ rfl ?_ ⟨(r1.below zX),(r2.below zX),(r3.below zX),(r4.below zX)⟩ ?_;rotate_left
  ·intro w zD;obtain⟨⟨s1,-⟩,⟨s2,-⟩,⟨s3,-⟩,⟨s4,-⟩⟩:=zD;go_simp;rfl
  try simp only[tn]
  refine zAB 8 ?_ rfl ?_ ⟨(r1.below zX),(r2.below zX),(r3.below zX),(r4.below zX)⟩ ?_;rotate_left
  ·intro w zD;obtain⟨⟨s1,-⟩,⟨s2,-⟩,⟨s3,-⟩,⟨s4,-⟩⟩:=zD;go_simp;rfl
  try simp only[tn]
  refine zAB 9 ?_ rfl ?_ ⟨(r1.below zX),(r2.below zX),(r3.below zX),(r4.below zX)⟩ ?_;rotate_left
  ·intro w zD;obtain⟨⟨s1,-⟩,⟨s2,-⟩,⟨s3,-⟩,⟨s4,-⟩⟩:=zD;go_simp;rfl
  try simp only[tn]
  refine zAB 10 ?_ rfl ?_ ⟨(r1.below zX),(r2.below zX),(r3.below zX),(r4.below zX)⟩ ?_;rotate_left
  ·intro w zD;obtain⟨⟨s1,-⟩,⟨s2,-⟩,⟨s3,-⟩,⟨s4,-⟩⟩:=zD;go_simp;rfl
  try simp only[tn]
  refine zAB 11 ?_ rfl ?_ ⟨(r1.below zX),(r2.below zX),(r3.below zX),(r4.below zX)⟩ ?_;rotate_left
  ·intro w zD;obtain⟨⟨s1,-⟩,⟨s2,-⟩,⟨s3,-⟩,⟨s4,-⟩⟩:=zD;go_simp;rfl
  try simp only[tn]
  refine zAB 14 ?_ rfl ?_ ⟨(r1.below zX),(r2.below zX),(r3.below zX),(r4.below zX)⟩ ?_;rotate_left
  ·intro w zD;obtain⟨⟨s1,-⟩,⟨s2,-⟩,⟨s3,-⟩,⟨s4,-⟩⟩:=zD;go_simp;rfl
  try simp only[tn]
  refine zAB 15 ?_ rfl ?_ ⟨(r1.below zX),(r2.below zX),(r3.below zX),(r4.below zX)⟩ ?_;rotate_left
  ·intro w zD;obtain⟨⟨s1,-⟩,⟨s2,-⟩,⟨s3,-⟩,⟨s4,-⟩⟩:=zD;go_simp;rfl
  try simp only[tn]
  refine zAB 12 ?_ rfl ?_ ⟨(r1.below zX),(r2.below zX),(r3.below zX),(r4.below zX)⟩ ?_;rotate_left
  ·intro w zD;obtain⟨⟨s1,-⟩,⟨s2,-⟩,⟨s3,-⟩,⟨s4,-⟩⟩:=zD;go_simp;rfl
  try simp only[tn]
  refine zAB 16 ?_ rfl ?_ ⟨(r1.below zX),(r2.below zX),(r3.below zX),(r4.below zX)⟩ ?_;rotate_left
  ·intro w zD;obtain⟨⟨s1,-⟩,⟨s2,-⟩,⟨s3,-⟩,⟨s4,-⟩⟩:=zD;go_simp;rfl
  try simp only[tn]
  refine zAB 13 ?_ rfl ?_ ⟨(r1.below zX),(r2.below zX),(r3.below zX),(r4.below zX)⟩ ?_;rotate_left
  ·intro w zD;obtain⟨⟨s1,-⟩,⟨s2,-⟩,⟨s3,-⟩,⟨s4,-⟩⟩:=zD;go_simp;rfl
  try simp only[tn]
  refine zAB 17 ?_ rfl ?_ ⟨(r1.below zX),(r2.below zX),(r3.below zX),(r4.below zX)⟩ ?_;rotate_left
  ·intro w zD;obtain⟨⟨s1,-⟩,⟨s2,-⟩,⟨s3,-⟩,⟨s4,-⟩⟩:=zD;go_simp;rfl
  try simp only[tn]
  refine zAB 18 ?_ rfl ?_ ⟨(r1.below zX),(r2.below zX),(r3.below zX),(r4.below zX)⟩ ?_;rotate_left
  ·intro w zD;obtain⟨⟨s1,-⟩,⟨s2,-⟩,⟨s3,-⟩,⟨s4,-⟩⟩:=zD;go_simp;rfl
  try simp only[tn]
  refine zAB 19 ?_ rfl ?_ ⟨(r1.below zX),(r2.below zX),(r3.below zX),(r4.below zX)⟩ ?_;rotate_left
  ·intro w zD;obtain⟨⟨s1,-⟩,⟨s2,-⟩,⟨s3,-⟩,⟨s4,-⟩⟩:=zD;go_simp;rfl
  try simp only[tn]
  refine zAE ?_
  have zI5:=bt px zX
  clear px zX r1 r2 r3 r4
  go_wp2
  go_roundw
  case rel=>exact⟨k+1,by go_num,by omega,zI5⟩
  case measure=>simp[intOf];omega
section
open Go.ChangeShapes Go.WideShapes Go.ChangeAt Go.RowKit Go.Joins Go.Deep
theorem Tryz.cells81:Tryz.prog.cellsOf 81=7:=by kernel_rfl
def Aq.cells(q:Aq):List Value:=[.int .i64 q.x.k,.int .i64 q.x.o,.int .i64 q.x.up,.int .i64 q.x.la,.slice q.am q.x.m.length q.cm,.slice q.au q.x.us.length q.cu,.bool q.x.f]
set_option maxRecDepth 100000 in
theorem QR{H:Type}{enc:TypeId×Value→H}{W:World}{fuel:Nat}{cs:List Value}{x:DataW H×List MemPlace}
  (hl:cs.length=7) (h:DataW.trod enc Tryz.prog W 0 (fun _=>true) true fuel 81 cs=some x): ∃q:Aq,cs=q.cells∧q.H W:=by
 match cs,hl with
 |[v0,v1,v2,v3,v4,v5,v6],_=>
 obtain⟨xs,n,_,_,_,hlen,hx⟩:=DataW.trod_struct Tryz.underlying81 h
 match xs,hlen with
 |[x0,x1,x2,x3,x4],_=>
  have k1:Tryz.prog.cellsOf 25=1:=by kernel_rfl
  have k3:Tryz.prog.cellsOf 3=1:=by kernel_rfl
  have k4:Tryz.prog.cellsOf 28=3:=by kernel_rfl
  have k5:Tryz.prog.cellsOf 26=1:=by kernel_rfl
  have k6:Tryz.prog.cellsOf 4=1:=by kernel_rfl
  have h0:DataW.trod enc Tryz.prog W 0 (fun _=>true) true n 3 [v0]=some x0:=by simpa[k3]using hx 0 _ rfl
  have h1:DataW.trod enc Tryz.prog W 0 (fun _=>true) true n 3 [v1]=some x1:=by simpa[k3]using hx 1 _ rfl
  have h2:DataW.trod enc Tryz.prog W 0 (fun _=>true) true n 3 [v2]=some x2:=by simpa[k3]using hx 2 _ rfl
  have h3:DataW.trod enc Tryz.prog W 0 (fun _=>true) true n 3 [v3]=some x3:=by simpa[k3]using hx 3 _ rfl
  have h4:DataW.trod enc Tryz.prog W 0 (fun _=>true) true n 28 [v4,v5,v6]=some x4:=by simpa[k4,k3]using hx 4 _ rfl
  obtain⟨y0,y1,y2,k,_,_,g0,g1,g2⟩:=trod_struct3 Tryz.underlying28 h4
  have g0':DataW.trod enc Tryz.prog W 0 (fun _=>true) true k 25 [v4]=some y0:=by simpa[k1]using g0
  have Dq:DataW.trod enc Tryz.prog W 0 (fun _=>true) true k 26 [v5]=some y1:=by simpa[k5]using g1
  have g2':DataW.trod enc Tryz.prog W 0 (fun _=>true) true k 4 [v6]=some y2:=by simpa[k6]using g2
  obtain⟨a,e0,_,_⟩:=DataW.trod_int Tryz.underlying3 h0
  obtain⟨b,e1,_,_⟩:=DataW.trod_int Tryz.underlying3 h1
  obtain⟨c,e2,_,_⟩:=DataW.trod_int Tryz.underlying3 h2
  obtain⟨d,e3,_,_⟩:=DataW.trod_int Tryz.underlying3 h3
  obtain⟨a1,c1,m,rfl,hm,hml,_,_,_⟩:=Yg g0'
  obtain⟨a2,n2,c2,e5⟩:=slice_form Tryz.underlying26 Dq
  simp only[List.cons.injEq,and_true]at e5
  subst e5
  obtain⟨us,rfl,hu,huc,hum,_⟩:=YO Dq
  obtain⟨f0,e6,_⟩:=DataW.trod_bool Tryz.underlying4 g2'
  simp only[List.cons.injEq,and_true]at e0 e1 e2 e3 e6
  subst e0 e1 e2 e3 e6
  have hM:maxLen=9223372036854775807:=rfl
  have b3:m.length≤9223372036854775807:=by omega
  have b4:us.length≤9223372036854775807:=by omega
  exact⟨⟨⟨a,b,c,d,m,us,f0⟩,a1,c1,a2,c2⟩,rfl,hm,b3,hu,b4⟩
set_option maxRecDepth 100000 in
theorem QB{H:Type}{enc:TypeId×Value→H}{W:World}{v:Value}{fuel:Nat}{x:DataW H×List MemPlace}
  (Pt:DataW.trod enc Tryz.prog W 0 (fun _=>true) true fuel 71 [v]=some x):
  ∃(a:Option Addr) (c:Nat) (l:List Aq),v= .slice a l.length c∧uv W a l∧l.length≤c∧c≤maxLen:=by
 rcases open_slice Tryz.underlying71 Pt with⟨e,_⟩|⟨a,len,cap,m,n,D,Pl,e,_,hl,hm,RP,_,hx⟩
 ·simp only[List.cons.injEq,and_true]at e
  rw[e]
  exact⟨none,0,[],rfl,fun i hi=>by simp at hi,by simp,by simp⟩
 ·simp only[List.cons.injEq,and_true]at e
  rw[e]
  simp only[if_true]at RP
  have each: ∀i,i<len→∃q:Aq,(∀j,j<7→W.cell? ((a.add (i*7)).add j)=(q.cells)[j]?)∧q.H W:=fun i hi=>by
   obtain⟨cs',h1,h2⟩:=hx i (by omega)
   rw[Tryz.cells81]at h1
   obtain⟨_,hlen,xf⟩:=World.cells?_some h1
   obtain⟨q,rfl,hH⟩:=QR hlen h2
   exact⟨q,fun j hj=>xf j hj,hH⟩
  have:Inhabited Aq:=⟨⟨⟨0,0,0,0,[],[],false⟩,none,0,none,0⟩⟩
  obtain⟨q,hq⟩:=choose_lt each
  refine⟨some a,cap,(List.range len).map fun i=>q i,by simp,fun i hi=>?_,by simpa using hl,hm⟩
  have bJ:0<len:=by simp at hi;omega
  obtain⟨b,off,spot⟩:=a
  have XM:spot=none:=by
   have:=(hq 0 bJ).1 0 (by omega)
   simp[Addr.add]at this
   simpa[Addr.add]using World.cell?_spot this
  subst XM
  have vd: ∀i j,((⟨b,off,none⟩:Addr).add (i*7)).add j=⟨b,off+i*7+j,none⟩:=fun i j=>by rw[add_plain,add_plain]
  refine⟨b,off,rfl,?_,fun k hk=>?_⟩
  ·have:=(hq 0 bJ).1 0 (by omega)
   rw[vd]at this
   exact sF (a:=⟨b,off+0*7+0,none⟩) (this.trans rfl)
  ·have jB:k<len:=by simpa using hk
   obtain⟨hc,hH⟩:=hq k jB
   have c0:=hc 0 (by omega)
   have c1:=hc 1 (by omega)
   have c2:=hc 2 (by omega)
   have c3:=hc 3 (by omega)
   have c4:=hc 4 (by omega)
   have c5:=hc 5 (by omega)
   have c6:=hc 6 (by omega)
   rw[vd]at c0 c1 c2 c3 c4 c5 c6
   simp only[List.getElem_map,List.getElem_range]
   exact⟨⟨c0,c1,c2,c3,c4,c5,c6⟩,hH⟩
set_option maxRecDepth 100000 in
theorem RQ{H:Type}{enc:TypeId×Value→H}{W:World}{r:Reach}{b0:Nat}{v:Value}{d:DataW H}{p:List MemPlace}
  (hv:Value.okWide Tryz.prog W r b0 71 v) (h:DataW.Trod enc Tryz.prog W 0 (fun _=>true) true 71 v d p):
  ∃(a:Option Addr) (c:Nat) (l:List Aq),v= .slice a l.length c∧uv W a l∧l.length≤c∧c≤maxLen:=by
 obtain⟨a0,Xi,kB,rfl⟩:=okWide_slice Tryz.underlying71 hv
 obtain⟨fuel,hf⟩:=h
 have Pt:DataW.trod enc Tryz.prog W 0 (fun _=>true) true fuel 71 [.slice a0 Xi kB]=some (d,p):=hf
 exact QB Pt
end
end Go.Proofs.YtehmlpkapjdhkaaGreatDoor
