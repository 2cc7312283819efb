import Derived.Test.YtehmlpkapjdhkaaGreatDoorMN
namespace Go.Proofs.YtehmlpkapjdhkaaGreatDoor
set_option maxHeartbeats 16000000
open Go.RowKit
set_option maxRecDepth 100000
abbrev kx(l:List Ob)(k:Nat)(ids:List Int):List Int:=rJ (fun x=>x.links.tail) (l.drop k) ids
theorem Wb(l:List Ob):xk l []=madeCells #[.bool false] l.length:=by
 apply Array.ext
 ·simp[xk,madeCells]
 ·intro i h1 h2
  simp[xk,madeCells,Nat.mod_one]
theorem Po(w:World)(n:Nat)(hn:n≤40):(Instr.makeSlice 72 (.int .i64 (n:Int)) (.int .i64 (n:Int))).run Tryz.prog w= .ok (.slice (some ⟨w.heap.size,0,none⟩) n n) (w.alloc (.cells (madeCells #[.bool false] n) 4)):=by
 obtain⟨i0,sN,sW,xQ,pS⟩:=info_parts Tryz.info4
 have h:=run_make (P:=Tryz.prog) w 72 4 i0 _ Tryz.under72 sN sW .i64 .i64 (n:Int) (n:Int) (by omega) (Int.le_refl _) (by rw[pS];omega) (by omega)
 rw[xQ,show(Value.bool false).cells= #[.bool false] from rfl]at h
 simpa using h
theorem MQ{l:List Ob}(hs:zK l=0){x:Ob}(hx:x∈l){y:Int}(hy:y∈x.links): ∃p:Nat,zW l y=p∧p<l.length:=by
 obtain⟨z,hz,e⟩:=XQ hs x hx y hy
 have h0:=yy.2 ⟨z,hz,e⟩
 rcases xG l y with c|⟨i,c,hi⟩
 ·omega
 ·exact⟨i,c,hi⟩
theorem Wf(a:Option Addr)(c:Nat)(l:List Ob)(T:Nat)(newer:Int)(w:World)(h:zP w a l)(hs:zK l=0)(p0:Nat)(ka:zW l newer=p0)(hT:w.heap[T]? =some (.cells #[.int .i64 newer] 3)):
  Calls Tryz.prog 302 #[.slice a l.length c,.slice (some ⟨T,0,none⟩) 1 1,.bool true] w fun e w'=>∃g,e= .returned (.slice (some ⟨g,0,none⟩) l.length l.length)∧w'.heap[g]? =some (.cells (xk l (vz l [newer])) 4)∧Below w.heap.size w w':=by
 have HS:Hid (zK l=0):=hs
 have HR:Hid (xm l):=(zh.1 hs).2.2
 have L8:Hid (l.length≤40):=(yF hs).1
 have EQ:=L8.out
 have HP0:Hid (zW l newer=p0):=ka
 obtain⟨sN,-⟩:=tH ka
 have hm:=Po w l.length EQ
 have hA:=zB w (.cells (madeCells #[.bool false] l.length) 4)
 have kg:=heap_alloc_new w (.cells (madeCells #[.bool false] l.length) 4)
 rw[←Wb]at kg hm hA
 clear hs ka
 go_enter Tryz.func302,Tryz.ntmps302
 go_wp2_with fail
 obtain⟨g,hg⟩: ∃g,g=w.heap.size:=⟨_,rfl⟩
 generalize w.alloc (.cells (xk l []) 4)=W1 at *
 rw[←hg]at kg⊢
 have A8:w.heap.size≤g:=by omega
 clear hg hm
 have hTl:=zG hT
 go_loopw [8] (fun i wr=>∃k:Nat,i= .int .i64 k∧k≤1∧wr.heap[g]? =some (.cells (xk l ([newer].take k)) 4)∧Below w.heap.size w wr) (fun i _=>1-(intOf i).toNat)
 case atStart=>exact⟨0,rfl,by omega,kg,hA⟩
 case round=>
  clear kg hA
  obtain⟨k,rfl,hk,kg,hB⟩:=hrel
  by_cases h0:k=0
  ·subst h0
   have Y9:=tg a c l newer wr (h.below hB) (by omega)
   rw[HP0.out]at Y9
   have x0:=zJ ((hB.block _ hTl).trans hT)
   have zSZ:(p0:Int)<(l.length:Int):=by omega
   go_wp2_with fail
   refine Y9.mono ?_
   clear Y9 x0
   rintro e W2 ⟨rfl,zZ⟩
   have PL:=zA5 zZ kg
   have zj:=bt hB zZ
   have z0:W2.cell? ⟨g,p0,none⟩=some (.bool (decide ((l[p0]'(by omega)).id∈([newer]:List Int).take 0))):=(cell_of_row _ _ _ _ _ _ PL).trans (sD (by omega))
   have f0:=zF (o:=p0) PL
   have F9:=heap_setCell_same W2 g p0 _ _ (.bool true) PL
   rw[ek HR.out HP0.out]at F9
   have xL:Below w.heap.size w (W2.setCell ⟨g,p0,none⟩ (.bool true)):=zj.setCell A8 _
   have HN:Hid ((W2.setCell ⟨g,p0,none⟩ (.bool true)).heap[g]? =some (.cells (xk l ([newer].take 1)) 4)∧Below w.heap.size w (W2.setCell ⟨g,p0,none⟩ (.bool true))):=⟨F9,xL⟩
   clear zZ kg PL hB zj F9 xL
   go_wp2
   go_roundw
   case rel=>exact⟨1,rfl,by omega,HN.out.1,HN.out.2⟩
   case measure=>simp[intOf]
  ·have Ca:k=1:=by omega
   have D7: ¬(k:Int)<1:=by omega
   have Gy:Hid (wr.heap[g]? =some (.cells (xk l (kx l l.length [newer])) 4)):=by
    rw[Ca]at kg
    unfold Hid kx
    rw[List.drop_length];exact kg
   clear kg h0 hk Ca
   go_wp2_with fail
   go_loopw [9] (fun i wr=>∃k:Nat,i= .int .i64 ((k:Int)-1)∧k≤l.length∧wr.heap[g]? =some (.cells (xk l (kx l k [newer])) 4)∧Below w.heap.size w wr) (fun i _=>((intOf i)+1).toNat)
   case atStart=>exact⟨l.length,rfl,Nat.le_refl _,Gy.out,hB⟩
   case round=>
    clear Gy hB
    obtain⟨k,rfl,hk,kg,hB⟩:=hrel
    by_cases h0:k=0
    ·subst h0
     have HF:Hid (wr.heap[g]? =some (.cells (xk l (vz l [newer])) 4)):=kg
     clear kg
     go_wp2
     go_ret
     exact⟨g,rfl,HF.out,hB⟩
    have Vj:0<k:=by omega
    have g9:decide ((1:Int)≤(k:Int))=true:=by simp;omega
    have xl:k-1<l.length:=by omega
    have hkI:(0:Int)≤(k:Int)-1:=by omega
    have zTC:(k:Int)-1<(l.length:Int):=by omega
    have hS:=h.below hB
    obtain⟨bb,off,ea,hb,hc⟩:=hS (k-1) xl
    obtain⟨sa,sc,-,-,x2,-,x4,x5⟩:=hc (k-1) xl
    obtain⟨x,hx⟩: ∃x,x=l[k-1]'xl:=⟨_,rfl⟩
    have hxm:x∈l:=by rw[hx];exact List.getElem_mem xl
    have HX:Hid (l[k-1]'xl=x):=hx.symm
    rw[←hx]at x2 x4 x5
    subst ea
    have hx4:x.links.length≤4:=dk HS.out x hxm
    have HLS:Hid (∀y∈x.links,y<x.id):=fun y hy=>(mA HS.out x hxm y hy).2
    obtain⟨S,Hi⟩: ∃S,S=kx l k [newer]:=⟨_,rfl⟩
    rw[←Hi]at kg
    have Di:Hid (∀i,i∈kx l (k-1) [newer]↔i∈S∨(x.id∈S∧i∈x.links.tail)):=fun i=>by
     rw[Hi,hx]
     show i∈rJ _ (l.drop (k-1)) _↔_
     rw[YL xl,ZJ,show k-1+1=k by omega]
    clear hx Hi hc h0
    have Gy:Hid (wr.heap[g]? =some (.cells (xk l (S++(x.links.take 0).tail)) 4)):=by
     unfold Hid
     rw[List.take_zero];simpa using kg
    have hHb:zP wr (some ⟨bb,off,none⟩) l:=hS
    clear kg
    go_wp2_with fail
    go_loopw [10] (fun i wr=>∃j:Nat,i= .int .i64 j∧j≤x.links.length∧Hid (0<j→x.id∈S)∧wr.heap[g]? =some (.cells (xk l (S++(x.links.take j).tail)) 4)∧Below w.heap.size w wr) (fun i _=>x.links.length-(intOf i).toNat)
    case atStart=>exact⟨0,rfl,Nat.zero_le _,(fun h=>absurd h (Nat.lt_irrefl _)),Gy.out,hB⟩
    case round=>
     clear Gy hS hHb x2 x4 x5 hB hb
     obtain⟨j,rfl,hj,HJ,kg,hB⟩:=hrel
     have hS:=h.below hB
     obtain⟨bb',kQ,ea,hb,hc⟩:=hS (k-1) xl
     cases ea
     obtain⟨sa,sc,-,-,x2,-,x4,-⟩:=hc (k-1) xl
     rw[HX.out]at x2 x4
     have Uu:decide (x.id∈S++(x.links.take j).tail)=decide (x.id∈S):=decide_eq_decide.2 (by
      rw[List.mem_append]
      refine⟨fun q=>q.elim id (fun q=>?_),.inl⟩
      have:=HLS.out x.id (List.mem_of_mem_take (List.mem_of_mem_tail q))
      omega)
     obtain⟨b,hbd⟩: ∃b,b=decide (x.id∈S):=⟨_,rfl⟩
     have z0:wr.cell? ⟨g,k-1,none⟩=some (.bool b):=by
      rw[hbd,←Uu]
      refine(cell_of_row _ _ _ _ _ _ kg).trans ?_
      rw[sD xl,HX.out]
     have dA:Hid (b=decide (x.id∈S)):=hbd
     have Ej:Hid (wr.heap[g]? =some (.cells (xk l (S++(x.links.take j).tail)) 4)):=kg
     clear Uu hbd hc
     by_cases bZ:j<x.links.length
     case neg=>
      have XO: ¬(j:Int)<(x.links.length:Int):=by omega
      have HN:Hid (wr.heap[g]? =some (.cells (xk l (kx l (k-1) [newer])) 4)):=by
       unfold Hid
       rw[Ej.out,cq (fun y _=>?_)]
       rw[Di.out,List.mem_append,List.take_of_length_le (by omega)]
       by_cases Vn:0<j
       ·exact⟨fun q=>q.imp_right (fun q=>⟨HJ.out Vn,q⟩),fun q=>q.imp_right (fun q=>q.2)⟩
       ·have:x.links=[]:=List.eq_nil_of_length_eq_zero (by omega)
        rw[this];simp
      have AD:((k-1:Nat):Int)=(k:Int)-1:=by omega
      have HKM:Hid (((k-1:Nat):Int)=(k:Int)-1):=AD
      clear Ej kg z0 x4 AD
      go_wp2
      go_roundw
      case rel=>exact⟨k-1,by rw[HKM.out],by omega,HN.out,hB⟩
      case measure=>simp[intOf];omega
     have XO:(j:Int)<(x.links.length:Int):=by omega
     cases b with
     |false=>
      have HN:Hid (wr.heap[g]? =some (.cells (xk l (kx l (k-1) [newer])) 4)):=by
       have JP: ¬x.id∈S:=of_decide_eq_false dA.out.symm
       have Vn:j=0:=by
        rcases Nat.eq_zero_or_pos j with q|q
        ·exact q
        ·exact absurd (HJ.out q) JP
       unfold Hid
       rw[Ej.out,cq (fun y _=>?_)]
       rw[Di.out,List.mem_append,Vn,List.take_zero]
       exact⟨fun q=>q.elim .inl (fun q=>by cases q),fun q=>q.elim .inl (fun q=>absurd q.1 JP)⟩
      have AD:((k-1:Nat):Int)=(k:Int)-1:=by omega
      have HKM:Hid (((k-1:Nat):Int)=(k:Int)-1):=AD
      clear Ej kg x4 AD
      go_wp2
      go_roundw
      case rel=>exact⟨k-1,by rw[HKM.out],by omega,HN.out,hB⟩
      case measure=>simp[intOf];omega
     |true=>
      have HIN:Hid (x.id∈S):=(show x.id∈S from of_decide_eq_true dA.out.symm)
      have hj1:(j:Int)+1≤9223372036854775807:=by omega
      by_cases Vn:j=0
      ·have g0:decide (0<j)=false:=by simp;omega
       have HN:Hid (wr.heap[g]? =some (.cells (xk l (S++(x.links.take (j+1)).tail)) 4)):=by
        unfold Hid
        rw[Ej.out,Vn]
        have:(x.links.take (0+1)).tail=(x.links.take 0).tail:=by
         cases x.links<;>rfl
        rw[this]
       clear Ej kg x4 Vn
       go_wp2
       go_roundw
       case rel=>exact⟨j+1,rfl,by omega,(fun _=>HIN.out),HN.out,hB⟩
       case measure=>simp[intOf];omega
      ·have g0:decide (0<j)=true:=by simp;omega
       have hjp:0<j:=by omega
       obtain⟨lb,lo,ea2,hlb,ae⟩:=x4 j bZ
       subst ea2
       have hx0:wr.cell? ⟨lb,lo+j,none⟩=some (.int .i64 x.links[j]):=by rw[ae j bZ];simp[bZ]
       obtain⟨p,hp,qv⟩:=MQ HS.out hxm (List.getElem_mem bZ)
       have Y9:=tg (some ⟨bb,off,none⟩) c l x.links[j] wr hS (by omega)
       rw[hp]at Y9
       have HPJ:Hid (zW l x.links[j]=p):=hp
       have hpI:(p:Int)<(l.length:Int):=by omega
       have HTN:Hid ((x.links.take (j+1)).tail=(x.links.take j).tail++[x.links[j]]):=RA bZ hjp
       obtain⟨y,hy⟩: ∃y,y=x.links[j]:=⟨_,rfl⟩
       rw[←hy]at hx0 Y9 HPJ HTN
       clear ae hp hy Vn
       go_wp2_with fail
       refine Y9.mono ?_
       clear Y9 x2 z0 hx0
       rintro e W2 ⟨rfl,zZ⟩
       have PL:=zA5 zZ kg
       have zj:=bt hB zZ
       have z0:W2.cell? ⟨g,p,none⟩=some (.bool (decide (l[p].id∈S++(x.links.take j).tail))):=(cell_of_row _ _ _ _ _ _ PL).trans (sD qv)
       have f0:=zF (o:=p) PL
       have F9:=heap_setCell_same W2 g p _ _ (.bool true) PL
       rw[ek HR.out HPJ.out,List.append_assoc,←HTN.out]at F9
       have xL:Below w.heap.size w (W2.setCell ⟨g,p,none⟩ (.bool true)):=zj.setCell A8 _
       have HN:Hid ((W2.setCell ⟨g,p,none⟩ (.bool true)).heap[g]? =some (.cells (xk l (S++(x.links.take (j+1)).tail)) 4)∧Below w.heap.size w (W2.setCell ⟨g,p,none⟩ (.bool true))):=⟨F9,xL⟩
       generalize decide (l[p].id∈S++(x.links.take j).tail)=bz at z0
       clear zZ kg PL hB zj F9 xL Ej HPJ
       go_wp2
       go_roundw
       case rel=>exact⟨j+1,rfl,by omega,(fun _=>HIN.out),HN.out.1,HN.out.2⟩
       case measure=>simp[intOf];omega
theorem YU(a:Option Addr)(c:Nat)(l:List Ob)(old newer:Int)(w:World)(h:zP w a l)(hs:zK l=0)(p0:Nat)(ka:zW l newer=p0)(p1:Nat)(qu:zW l old=p1):
  Calls Tryz.prog 292 #[.slice a l.length c,.int .i64 old,.int .i64 newer] w fun e w'=>e= .returned (.bool (decide (old∈vz l [newer])))∧Below w.heap.size w w':=by
 obtain⟨q,HQ⟩: ∃q,Hid (decide (old∈vz l [newer])=q):=⟨_,rfl⟩
 rw[HQ.out]
 have hA:=zB w (.cells #[.int .i64 newer] 3)
 have hT:=heap_alloc_new w (.cells #[.int .i64 newer] 3)
 have EQ:=(yF hs).1
 obtain⟨hi1,he1⟩:=tH qu
 have hc:=Wf a c l w.heap.size newer _ (h.below hA) hs p0 ka hT
 have HP1:Hid (zW l old=p1):=qu
 have qP:Hid (l[p1].id=old):=he1
 have zPE:(p1:Int)<(l.length:Int):=by omega
 go_enter Tryz.func292,Tryz.ntmps292
 go_wp2_with fail
 refine hc.mono ?_
 clear hc
 rintro e W1 ⟨g,rfl,kg,zM⟩
 have zT:=bt hA zM
 have Y9:=tg a c l old W1 (h.below zT) (by omega)
 rw[HP1.out]at Y9
 clear hA hT zM ka qu he1
 go_wp2_with fail
 refine Y9.mono ?_
 clear Y9
 rintro e W2 ⟨rfl,zZ⟩
 have PL:=zA5 zZ kg
 have zj:=bt zT zZ
 have z0:W2.cell? ⟨g,p1,none⟩=some (.bool q):=by
  rw[←HQ.out,←qP.out];exact(cell_of_row _ _ _ _ _ _ PL).trans (sD hi1)
 clear kg PL zZ zT
 go_wp2
 go_ret
 exact⟨rfl,zj⟩
def rt(P:Nat→Prop)(Z:Prop)(R:List Rf)(w:World)(e:Ending)(w':World):Prop:=
 Below w.heap.size w w'∧((¬Z∧∃r,r≠0∧R7 r∧e= .returned (.tuple #[.slice none 0 0,.int .i64 r]))∨
  (Z∧∃a' c',e= .returned (.tuple #[.slice a' R.length c',.int .i64 0])∧xx P w' a' R))
theorem rt.bad{P:Nat→Prop}{Z:Prop}{R:List Rf}{w w':World}{r:Int}(hz: ¬Z)(h0:r≠0)(h7:R7 r)(hb:Below w.heap.size w w'):rt P Z R w (.returned (.tuple #[.slice none 0 0,.int .i64 r])) w':=
 ⟨hb,.inl ⟨hz,r,h0,h7,rfl⟩⟩
theorem B7(o:List Ob)(id:Int):R7 (xB o id):=(r7 5).ite ((r7 7).ite (r7 0))
def P7(o:List Ob)(f:Bool)(l:List Rf)(us:List Up):Prop:=qO o f l us=0∧yG (yK l us) o=0
theorem LQ{o:List Ob}{i:Int}(h:gE o i): ∃p:Nat,zW o i=p:=by
 obtain⟨⟨z,hz,e⟩,_⟩:=h
 have h0:=yy.2 ⟨z,hz,e⟩
 exact⟨(zW o i).toNat,by omega⟩
theorem VT(P:Nat→Prop)(al:Option Addr)(cl:Nat)(l:List Rf)(ao:Option Addr)(co:Nat)(o:List Ob)(au:Option Addr)(cu:Nat)(us:List Up)(f:Bool)(w:World)(hP: ∀k,P k→k<w.heap.size)(h1:xx P w al l)(h2:zP w ao o)(h3:zx w au us)(hs:zK o=0)(hn: ∀u∈us,yf u.name=0)(hC: ∀r∈l,gE o r.id)(hl8:l.length≤8)(hu4:us.length≤4):
  Calls Tryz.prog 275 #[.slice al l.length cl,.slice ao o.length co,.slice au us.length cu,.bool f] w (rt P (P7 o f l us) (yK l us) w):=by
 obtain⟨PO,xY⟩: ∃PP:Ending→World→Prop,Hid (PP=rt P (P7 o f l us) (yK l us) w):=⟨_,rfl⟩
 rw[←xY.out]
 have eQ:Hid (∀k,P k→k<w.heap.size):=hP
 clear hP
 have HS:Hid (zK o=0):=hs
 have DW:Hid (o.length≤40):=(yF hs).1
 have zFX:=DW.out
 have HNM:Hid (∀u∈us,yf u.name=0):=hn
 have HC0:Hid (∀r∈l,gE o r.id):=hC
 clear hs hn hC
 go_enter Tryz.func275,Tryz.ntmps275
 go_wp2_with fail
 go_loopw [10,11] (fun t i wr=>∃(k:Nat) (aO:Option Addr) (cO:Nat) (cur:List Rf),t= .slice aO cur.length cO∧i= .int .i64 k∧k≤us.length∧xx P wr aO cur∧cur.length≤8+k∧Hid (∀r∈cur,gE o r.id)∧Hid (qO o f l us=qO o f cur (us.drop k)∧yK l us=yK cur (us.drop k))∧Below w.heap.size w wr) (fun _ i _=>us.length-(intOf i).toNat)
 case atStart=>exact⟨0,al,cl,l,rfl,rfl,Nat.zero_le _,h1,by omega,HC0,⟨rfl,rfl⟩,Below.refl _ _⟩
 case round=>
  clear hl8 HC0 h1
  obtain⟨k,aO,cO,cur,rfl,rfl,hk,hR,rg,HC,HT,hB⟩:=hrel
  have hO:=h2.below hB
  by_cases zN:k<us.length
  case neg=>
   have vg: ¬(k:Int)<(us.length:Int):=by omega
   have SC:Hid (qO o f l us=0∧yK l us=cur):=by
    have h:=HT.out
    rw[List.drop_of_length_le (by omega)]at h
    exact h
   clear HT HC
   go_wp2_with fail
   refine(nQ aO cO cur ao co o wr hR.plain (by omega) hO (by omega) HS.out).mono ?_
   rintro e w2 ⟨⟨r,rfl,dW,hr⟩,hd⟩
   have zj:=hB.trans (hd.below.mono hB.size)
   have hR2:=hR.below hd.below
   have HR:Hid (R7 r∧(r=0↔yG cur o=0)):=⟨dW,hr⟩
   clear hd dW hr hR hO
   by_cases q:r=0
   ·have HF:Hid (PO (.returned (.tuple #[.slice aO cur.length cO,.int .i64 0])) w2):=by
     unfold Hid
     rw[xY.out]
     refine⟨zj,.inr ⟨⟨SC.out.1,?_⟩,aO,cO,by rw[SC.out.2],by rw[SC.out.2];exact hR2⟩⟩
     rw[SC.out.2];exact HR.out.2.1 q
    subst q
    clear SC hB zj hR2
    go_wp2
    exact HF.out
   ·have f1:(r != 0)=true:=by simpa using q
    have HF:Hid (PO (.returned (.tuple #[.slice none 0 0,.int .i64 r])) w2):=by
     unfold Hid
     rw[xY.out]
     refine rt.bad (fun e=>q ?_) q HR.out.1 zj
     have:=e.2
     rw[SC.out.2]at this
     exact HR.out.2.2 this
    clear SC hB zj hR2 q
    go_wp2
    exact HF.out
  have vg:(k:Int)<(us.length:Int):=by omega
  have xa:(k:Int)+1≤9223372036854775807:=by omega
  obtain⟨ub,uo,rfl⟩: ∃b off,au=some ⟨b,off,none⟩:=by
   obtain⟨b,off,e,_⟩:=h3 k zN;exact⟨b,off,e⟩
  obtain⟨y0,y1,y2⟩:=rN (h3.below hB) zN
  obtain⟨u,hu⟩: ∃u,u=us[k]:=⟨_,rfl⟩
  have HNU:Hid (yf u.name=0):=by rw[hu];exact HNM.out _ (List.getElem_mem zN)
  have HRM:Hid (qO o f cur (us.drop k)=if uy o f cur u≠0 then uy o f cur u else qO o f (yE cur u.name u.new) (us.drop (k+1))):=by rw[hu];exact S8 zN
  have HRL:Hid (yK cur (us.drop k)=yK (yE cur u.name u.new) (us.drop (k+1))):=by rw[hu];exact Rv zN
  rw[←hu]at y0 y1 y2
  clear hu
  -- what is so when it fails at this update
  have vF:Hid (∀r:Int,∀W,r≠0→R7 r→uy o f cur u=r→Below w.heap.size w W→PO (.returned (.tuple #[.slice none 0 0,.int .i64 r])) W):=fun r W h0 h7 nO hb=>by
   rw[xY.out]
   refine rt.bad (fun e=>h0 ?_) h0 h7 hb
   have:=e.1
   rw[HT.out.1,HRM.out,if_pos (by rw[nO];exact h0),nO]at this
   exact this
  -- and when it goes on
  have Ni:Hid (uy o f cur u=0→(∀r∈yE cur u.name u.new,gE o r.id)∧qO o f l us=qO o f (yE cur u.name u.new) (us.drop (k+1))∧yK l us=yK (yE cur u.name u.new) (us.drop (k+1))):=fun nO=>
   ⟨cA HS.out HC.out nO,by rw[HT.out.1,HRM.out,if_neg (fun e=>e nO)],by rw[HT.out.2,HRL.out]⟩
  have JU:Hid (uy o f cur u=if um cur u.name≠u.old then 4 else if u.new=0 then 0 else if xB o u.new≠0 then xB o u.new else if u.old≠0∧f=false∧¬u.old∈vz o [u.new]then 4 else 0):=rfl
  have XU:Hid (um cur u.name=u.old→u.old≠0→gE o u.old):=fun e h0=>by
   obtain⟨r,hr,_,e2⟩:=XJ (by rw[e];exact h0:um cur u.name≠0)
   rw[←e,←e2];exact HC.out r hr
  clear HT HC HRM HRL
  have hA:=zB wr (.cells #[.string u.name,.int .i64 u.old,.int .i64 u.new] 40)
  have kU:=heap_alloc_new wr (.cells #[.string u.name,.int .i64 u.old,.int .i64 u.new] 40)
  have mq:=bt hB hA
  have hRA:=hR.below hA
  have hOA:=hO.below hA
  go_upto_region 6 with fail
  obtain⟨B,BN⟩: ∃B,B=wr.heap.size:=⟨_,rfl⟩
  rw[←BN]at kU⊢
  generalize wr.alloc (.cells #[.string u.name,.int .i64 u.old,.int .i64 u.new] 40)=W1 at *
  have hlB:=zG kU
  clear hA BN hR hO hB y0 y1 y2
  have zk:=zU W1
  have zX:=bt mq zk
  have eF:=zA5 zk kU
  have R_4:=hRA.below zk
  have O_5:=hOA.below zk
  have KN:=zk.size
  clear kU hRA hOA zk mq
  refine zS (fun W=>(W.heap[B]? =some (.cells #[.string u.name,.int .i64 u.old,.int .i64 u.new] 40))) (fun _=>false) (by kernel_rfl) eF (fun hS=>?_)
  clear hS
  generalize W1.drew=LR at *
  refine zAB 0 ?_ rfl ?_ eF ?_;rotate_left
  ·intro w zD;obtain⟨z0,z1,z2⟩:=zQ zD;clear zD;go_simp;rfl
  try simp only[tn]
  refine zAB 1 ?_ rfl ?_ eF ?_;rotate_left
  ·intro w zD;obtain⟨z0,z1,z2⟩:=zQ zD;clear zD;go_simp;rfl
  try simp only[tn]
  refine zAB 4 ?_ rfl ?_ eF ?_;rotate_left
  ·intro w zD;obtain⟨z0,z1,z2⟩:=zQ zD;clear zD;go_simp;rfl
  try simp only[tn]
  refine zAB 2 ?_ rfl ?_ eF ?_;rotate_left
  ·intro w zD;obtain⟨z0,z1,z2⟩:=zQ zD;clear zD;go_simp;rfl
  try simp only[tn]
  refine zAB 5 ?_ rfl ?_ eF ?_;rotate_left
  ·intro w zD;obtain⟨z0,z1,z2⟩:=zQ zD;clear zD;go_simp;rfl
  try simp only[tn]
  refine zAC 3 rfl fun K hK=>?_
  have ae:=Nd aO cO cur u.name LR (R_4).plain (by omega)
  obtain⟨look,hld⟩: ∃x,x=um cur u.name:=⟨_,rfl⟩
  rw[←hld]at ae
  have HLK:Hid (um cur u.name=look):=hld.symm
  clear hld
  go_simp
  refine ae.mono ?_
  clear ae
  rintro e gv ⟨rfl,h⟩
  have qQ:=bt zX h
  have dB:=zA5 h eF
  have VN:=R_4.below h
  have Ub:=O_5.below h
  have GV:=h.size
  clear eF R_4 O_5 h zX
  refine hK _ _ (fun _=>dB) ?_
  clear hK K
  try simp only[tn]
  refine zAB 6 ?_ rfl ?_ dB ?_;rotate_left
  ·intro w zD;obtain⟨z0,z1,z2⟩:=zQ zD;clear zD;go_simp;rfl
  try simp only[tn]
  refine zAE ?_
  by_cases c1:look=u.old
  case neg=>
   have g1:(look != u.old)=true:=by simpa using c1
   rw[g1]
   have HF:Hid (PO (.returned (.tuple #[.slice none 0 0,.int .i64 4])) gv):=vF.out 4 gv (by decide) ⟨by decide,by decide⟩ (by rw[JU.out,if_pos (by rw[HLK.out];exact c1)]) qQ
   clear Ni vF JU XU
   clear c1 g1
   go_wp2
   exact HF.out
  have g1:(look != u.old)=false:=by simpa using c1
  rw[g1]
  clear g1
  have HS1:Hid (uy o f cur u=if u.new=0 then 0 else if xB o u.new≠0 then xB o u.new else if u.old≠0∧f=false∧¬u.old∈vz o [u.new]then 4 else 0):=by unfold Hid;rw[JU.out,if_neg (by rw[HLK.out];exact fun e=>e c1)]
  have HOC:Hid (u.old≠0→gE o u.old):=XU.out (by rw[HLK.out];exact c1)
  clear c1
  obtain⟨z0,z1,z2⟩:=zQ dB
  by_cases c2:u.new=0
  case pos=>
   have g2:(u.new != 0)=false:=by simpa using c2
   have HZ:Hid (uy o f cur u=0):=by unfold Hid;rw[HS1.out,if_pos c2]
   clear c2 HS1 HOC
   go_upto_region 14 with fail
   have HG:Hid ((∀r∈yE cur u.name u.new,gE o r.id)∧qO o f l us=qO o f (yE cur u.name u.new) (us.drop (k+1))∧yK l us=yK (yE cur u.name u.new) (us.drop (k+1))):=Ni.out HZ.out
   clear Ni vF JU XU
   have TG:=jL aO cO cur u.name u.new gv VN.plain (by omega)
   rw[mT]at TG
   obtain⟨z0,z1,z2⟩:=zQ dB
   go_wp2_with fail
   refine TG.mono ?_
   clear TG
   rintro e W9 ⟨v9,rfl,T0,sG⟩
   have UN:Hid (w.heap.size≤gv.heap.size):=qQ.size
   have Vb:=bt qQ sG
   obtain⟨a9,c9,rfl,Fi⟩:=qU (P:=P) T0 (fun k q=>by have:=eQ.out k q;have:=Vb.size;have:=UN.out;omega)
   have hln:=uJ cur u.name u.new
   generalize yE cur u.name u.new=bf at *
   clear T0 sG z0 z1 z2
   clear VN Ub dB qQ
   go_wp2
   go_roundw
   case rel=>exact⟨k+1,a9,c9,bf,rfl,by go_num,by omega,Fi,by omega,HG.out.1,HG.out.2,Vb⟩
   case measure=>simp[intOf];omega
  have g2:(u.new != 0)=true:=by simpa using c2
  have PM:Hid (uy o f cur u=if xB o u.new≠0 then xB o u.new else if u.old≠0∧f=false∧¬u.old∈vz o [u.new]then 4 else 0):=by unfold Hid;rw[HS1.out,if_neg c2]
  clear c2 HS1
  have qt:=fS ao co o u.new gv Ub (by omega)
  obtain⟨cm,E6⟩: ∃cm,cm=xB o u.new:=⟨_,rfl⟩
  rw[←E6]at qt
  have E9:Hid (xB o u.new=cm):=E6.symm
  clear E6
  go_wp2_with fail
  refine qt.mono ?_
  clear qt
  rintro e w8 ⟨rfl,rfl⟩
  by_cases c3:cm=0
  case neg=>
   have g3:(cm==0)=false:=by simpa using c3
   have g4:(cm != 0)=true:=by simpa using c3
   have HF:Hid (PO (.returned (.tuple #[.slice none 0 0,.int .i64 cm])) w8):=vF.out cm w8 c3 (by rw[←E9.out];exact B7 _ _) (by rw[PM.out,E9.out,if_pos c3]) qQ
   clear Ni vF JU XU
   clear c3 PM
   go_wp2
   exact HF.out
  subst c3
  have Co:Hid (gE o u.new):=(qx HS.out).1 E9.out
  have Hv:Hid (uy o f cur u=if u.old≠0∧f=false∧¬u.old∈vz o [u.new]then 4 else 0):=by unfold Hid;rw[PM.out,E9.out,if_neg (by decide)]
  clear PM E9
  by_cases c4:u.old=0
  case pos=>
   have g5:(u.old != 0)=false:=by simpa using c4
   have HZ:Hid (uy o f cur u=0):=by unfold Hid;rw[Hv.out,if_neg (fun e=>e.1 c4)]
   clear c4 Hv Co HOC
   go_upto_region 14 with fail
   have HG:Hid ((∀r∈yE cur u.name u.new,gE o r.id)∧qO o f l us=qO o f (yE cur u.name u.new) (us.drop (k+1))∧yK l us=yK (yE cur u.name u.new) (us.drop (k+1))):=Ni.out HZ.out
   clear Ni vF JU XU
   have TG:=jL aO cO cur u.name u.new w8 VN.plain (by omega)
   rw[mT]at TG
   obtain⟨z0,z1,z2⟩:=zQ dB
   go_wp2_with fail
   refine TG.mono ?_
   clear TG
   rintro e W9 ⟨v9,rfl,T0,sG⟩
   have UN:Hid (w.heap.size≤w8.heap.size):=qQ.size
   have Vb:=bt qQ sG
   obtain⟨a9,c9,rfl,Fi⟩:=qU (P:=P) T0 (fun k q=>by have:=eQ.out k q;have:=Vb.size;have:=UN.out;omega)
   have hln:=uJ cur u.name u.new
   generalize yE cur u.name u.new=bf at *
   clear T0 sG z0 z1 z2
   clear VN Ub dB qQ
   go_wp2
   go_roundw
   case rel=>exact⟨k+1,a9,c9,bf,rfl,by go_num,by omega,Fi,by omega,HG.out.1,HG.out.2,Vb⟩
   case measure=>simp[intOf];omega
  have g5:(u.old != 0)=true:=by simpa using c4
  have Ka:Hid (gE o u.old):=HOC.out c4
  clear HOC
  cases f with
  |true=>
   have HZ:Hid (uy o true cur u=0):=by unfold Hid;rw[Hv.out,if_neg (fun e=>by cases e.2.1)]
   clear c4 Hv Co Ka
   go_upto_region 14 with fail
   have HG:Hid ((∀r∈yE cur u.name u.new,gE o r.id)∧qO o true l us=qO o true (yE cur u.name u.new) (us.drop (k+1))∧yK l us=yK (yE cur u.name u.new) (us.drop (k+1))):=Ni.out HZ.out
   clear Ni vF JU XU
   have TG:=jL aO cO cur u.name u.new w8 VN.plain (by omega)
   rw[mT]at TG
   obtain⟨z0,z1,z2⟩:=zQ dB
   go_wp2_with fail
   refine TG.mono ?_
   clear TG
   rintro e W9 ⟨v9,rfl,T0,sG⟩
   have UN:Hid (w.heap.size≤w8.heap.size):=qQ.size
   have Vb:=bt qQ sG
   obtain⟨a9,c9,rfl,Fi⟩:=qU (P:=P) T0 (fun k q=>by have:=eQ.out k q;have:=Vb.size;have:=UN.out;omega)
   have hln:=uJ cur u.name u.new
   generalize yE cur u.name u.new=bf at *
   clear T0 sG z0 z1 z2
   clear VN Ub dB qQ
   go_wp2
   go_roundw
   case rel=>exact⟨k+1,a9,c9,bf,rfl,by go_num,by omega,Fi,by omega,HG.out.1,HG.out.2,Vb⟩
   case measure=>simp[intOf];omega
  |false=>
   obtain⟨p0,ka⟩:=LQ Co.out
   obtain⟨p1,qu⟩:=LQ Ka.out
   have hib:=YU ao co o u.old u.new w8 Ub HS.out p0 ka p1 qu
   obtain⟨q,hq⟩: ∃q,q=decide (u.old∈vz o [u.new]):=⟨_,rfl⟩
   rw[←hq]at hib
   have HQ:Hid (q=decide (u.old∈vz o [u.new])):=hq
   have HO0:Hid (u.old≠0):=c4
   clear hq ka qu c4
   go_wp2_with fail
   refine hib.mono ?_
   clear hib
   rintro e W8 ⟨rfl,mt⟩
   have SP:=bt qQ mt
   have BJ:=zA5 mt dB
   have Ad:=VN.below mt
   have zGZ:=Ub.below mt
   have zAR:=mt.size
   clear dB VN Ub mt qQ
   clear z0 z1 z2
   cases q with
   |true=>
    have HZ:Hid (uy o false cur u=0):=by unfold Hid;rw[Hv.out,if_neg (fun e=>e.2.2 (of_decide_eq_true HQ.out.symm))]
    clear Hv Co Ka HO0 HQ
    go_upto_region 14 with fail
    have HG:Hid ((∀r∈yE cur u.name u.new,gE o r.id)∧qO o false l us=qO o false (yE cur u.name u.new) (us.drop (k+1))∧yK l us=yK (yE cur u.name u.new) (us.drop (k+1))):=Ni.out HZ.out
    clear Ni vF JU XU
    have TG:=jL aO cO cur u.name u.new W8 Ad.plain (by omega)
    rw[mT]at TG
    obtain⟨z0,z1,z2⟩:=zQ BJ
    go_wp2_with fail
    refine TG.mono ?_
    clear TG
    rintro e W9 ⟨v9,rfl,T0,sG⟩
    have UN:Hid (w.heap.size≤W8.heap.size):=SP.size
    have Vb:=bt SP sG
    obtain⟨a9,c9,rfl,Fi⟩:=qU (P:=P) T0 (fun k q=>by have:=eQ.out k q;have:=Vb.size;have:=UN.out;omega)
    have hln:=uJ cur u.name u.new
    generalize yE cur u.name u.new=bf at *
    clear T0 sG z0 z1 z2
    clear Ad zGZ BJ SP
    go_wp2
    go_roundw
    case rel=>exact⟨k+1,a9,c9,bf,rfl,by go_num,by omega,Fi,by omega,HG.out.1,HG.out.2,Vb⟩
    case measure=>simp[intOf];omega
   |false=>
    have HF:Hid (PO (.returned (.tuple #[.slice none 0 0,.int .i64 4])) W8):=vF.out 4 W8 (by decide) ⟨by decide,by decide⟩ (by rw[Hv.out,if_pos ⟨HO0.out,by first|rfl|trivial,of_decide_eq_false HQ.out.symm⟩]) SP
    clear Ni vF JU XU
    clear Hv Co Ka HO0 HQ
    go_wp2
    exact HF.out
theorem WX(P:Nat→Prop)(al:Option Addr)(cl:Nat)(l:List Rf)(ao:Option Addr)(co:Nat)(o:List Ob)(au:Option Addr)(cu:Nat)(us:List Up)(f:Bool)(w:World)(hP: ∀k,P k→k<w.heap.size)(h1:xx P w al l)(hl:l.length≤9223372036854775807)(h2:zP w ao o)(h3:zx w au us)(hul:us.length≤9223372036854775807)(hs:zK o=0)(hoc:o.length≤co):
  Calls Tryz.prog 245 #[.slice al l.length cl,.slice ao o.length co,.slice au us.length cu,.bool f] w (rt P (xI l o us f=0) (yK l us) w):=by
 obtain⟨PO,xY⟩: ∃PP:Ending→World→Prop,Hid (PP=rt P (xI l o us f=0) (yK l us) w):=⟨_,rfl⟩
 rw[←xY.out]
 have eQ:Hid (∀k,P k→k<w.heap.size):=hP
 clear hP
 have HS:Hid (zK o=0):=hs
 have DW:Hid (o.length≤40):=(yF hs).1
 have zFX:=DW.out
 clear hs
 go_enter Tryz.func245,Tryz.ntmps245
 go_wp2_with fail
 refine(dK al cl l ao co o w h1.plain hl h2 (by omega) hoc HS.out).mono ?_
 rintro e W1 ⟨⟨r,rfl,dW,hr⟩,zM⟩
 have HR:Hid (R7 r∧(r=0↔yG l o=0)):=⟨dW,hr⟩
 have h1a:=h1.below zM
 have h2a:=h2.below zM
 have h3a:=h3.below zM
 clear dW hr h1 h2 h3
 by_cases q:r=0
 case neg=>
  have f1:(r==0)=false:=by simpa using q
  have f2:(r != 0)=true:=by simpa using q
  have HF:Hid (PO (.returned (.tuple #[.slice none 0 0,.int .i64 r])) W1):=by
   unfold Hid
   rw[xY.out]
   exact rt.bad (fun e=>q (HR.out.2.2 (ru.1 e).1)) q HR.out.1 zM
  clear q
  go_wp2
  exact HF.out
 have Df:Hid (yG l o=0):=HR.out.2.1 q
 subst q
 have Yi:=jy au cu us W1 h3a hul
 rw[Tu dO]at Yi
 obtain⟨z,hz⟩: ∃z,z=yd us:=⟨_,rfl⟩
 rw[←hz]at Yi
 have HZ:Hid (yd us=z):=hz.symm
 clear hz HR
 go_wp2_with fail
 refine Yi.mono ?_
 clear Yi
 rintro e W2 ⟨rfl,zZ⟩
 have zj:=bt zM zZ
 have h1b:=h1a.below zZ
 have h2b:=h2a.below zZ
 have h3b:=h3a.below zZ
 clear zM zZ h1a h2a h3a
 by_cases q:z=0
 case neg=>
  have f2:(z != 0)=true:=by simpa using q
  have HF:Hid (PO (.returned (.tuple #[.slice none 0 0,.int .i64 z])) W2):=by
   unfold Hid
   rw[xY.out]
   exact rt.bad (fun e=>q (HZ.out.symm.trans (ru.1 e).2.1)) q (by rw[←HZ.out];exact gk _) zj
  clear q
  go_wp2
  exact HF.out
 have HU:Hid (yd us=0):=HZ.out.trans q
 subst q
 have eE: ∀u∈us,yf u.name=0:=fun u hu=>((ve.1 HU.out).2.2.1 u hu).name
 have hCC: ∀r∈l,gE o r.id:=fun r hr=>cV Df.out hr
 have hc:=VT P al cl l ao co o au cu us f W2 (fun k q=>by have:=eQ.out k q;have:=zj.size;omega) h1b h2b h3b HS.out eE hCC (gj Df.out) (ve.1 HU.out).2.1
 have HP:Hid (∀e W',rt P (P7 o f l us) (yK l us) W2 e W'→PO e W'):=fun e W' h=>by
  rw[xY.out]
  have JY:P7 o f l us↔xI l o us f=0:=by
   rw[ru]
   unfold P7
   rw[Wp HS.out us l eE hCC]
   exact⟨fun e=>⟨Df.out,HU.out,e⟩,fun e=>e.2.2⟩
  obtain⟨hb,hq⟩:=h
  refine⟨(bt zj hb),?_⟩
  rw[←JY]
  exact hq
 clear HZ eE hCC h1b h2b h3b
 go_wp2_with fail
 refine hc.mono ?_
 clear hc
 intro e W3 hW
 have HF:=HP.out e W3 hW
 rcases hW with⟨_,⟨_,r,_,_,rfl⟩|⟨_,a',c',rfl,_⟩⟩
 ·clear HP
  go_wp2
  exact HF
 ·clear HP
  go_wp2
  exact HF
def Ao(P:Nat→Prop)(a b:List Ob)(w:World)(e:Ending)(w':World):Prop:=
 Below w.heap.size w w'∧((vc b a≠0∧e= .returned (.tuple #[.slice none 0 0,.int .i64 (vc b a)]))∨
  (vc b a=0∧∃aM cM,e= .returned (.tuple #[.slice aM (yH a b).length cM,.int .i64 0])∧ym P w' aM (yH a b)∧(yH a b).length≤cM))
theorem Ao.bad{P:Nat→Prop}{a b:List Ob}{w w':World}{r:Int}(h:vc b a=r)(h0:r≠0)(hb:Below w.heap.size w w'):Ao P a b w (.returned (.tuple #[.slice none 0 0,.int .i64 r])) w':=
 ⟨hb,.inl ⟨by rw[h];exact h0,by rw[h]⟩⟩
theorem Xo(P:Nat→Prop)(a1:Option Addr)(c1:Nat)(a:List Ob)(a2:Option Addr)(c2:Nat)(b:List Ob)(w:World)(hP: ∀k,P k→k<w.heap.size)(h1:ym P w a1 a)(h2:zP w a2 b)(e1:zK a=0)(e2:zK b=0):
  Calls Tryz.prog 203 #[.slice a1 a.length c1,.slice a2 b.length c2] w (Ao P a b w):=by
 obtain⟨PO,xY⟩: ∃PP:Ending→World→Prop,Hid (PP=Ao P a b w):=⟨_,rfl⟩
 rw[←xY.out]
 have nb:Hid (zK b=0):=e2
 have zH1:Hid (a.length≤40):=(yF e1).1
 have zI7:Hid (b.length≤40):=(yF e2).1
 have HP:Hid (∀k,P k→k<w.heap.size):=hP
 clear e1 e2 hP
 have zPY:=zH1.out
 have zTG:=zI7.out
 go_enter Tryz.func203,Tryz.ntmps203
 go_wp2_with fail
 go_loopw [6,7] (fun o i wr=>∃(k:Nat) (v:Value) (rs:List Pl),v=o∧i= .int .i64 k∧k≤a.length∧Hid (rs.map Pl.x=yH (a.take k) b)∧wr.ownsRow w.heap.size 58 4 v rs.length (xE rs)∧Hid (∀r∈rs,uT P w r.sa r.x.links∧r.x.links.length≤9223372036854775807)∧Below w.heap.size w wr∧Hid (vc b a=vc b (a.drop k))) (fun _ i _=>a.length-(intOf i).toNat)
 case atStart=>exact⟨0,_,[],rfl,rfl,Nat.zero_le _,rfl,World.ownsRow_nil _ _ _ _,(fun r hr=>by cases hr),Below.refl _ _,rfl⟩
 case round=>
  obtain⟨k,v,rs,rfl,rfl,hk,tM,yj,HL,HB,HD⟩:=hrel
  by_cases zN:k<a.length
  case neg=>
   have aP:rs.map Pl.x=yH a b:=by rw[tM.out,List.take_of_length_le (by omega)]
   obtain⟨aM,cM,ev,hS,KF⟩:=eu yj HP.out (fun r hr=>⟨(HL.out r hr).1.put (rZ HB),(HL.out r hr).2⟩)
   rw[aP]at ev hS KF
   have HF:Hid (PO (.returned (.tuple #[v,.int .i64 0])) wr):=by
    unfold Hid
    rw[xY.out]
    exact⟨HB,.inr ⟨by rw[HD.out,List.drop_of_length_le (by omega)];rfl,aM,cM,by rw[ev],hS,KF⟩⟩
   clear yj HB HD tM HL ev hS aP KF
   go_wp2
   exact HF.out
  have vg:(k:Int)<(a.length:Int):=by omega
  obtain⟨bb,off,rfl,hb,-,hc⟩:=h1 k zN
  obtain⟨sa,sc,y0,y1,y2,y3,y4,y5⟩:=hc k zN
  have q0:=(World.cell?_of_block (a:=⟨bb,off+k*4,none⟩) (HB.block bb hb)).trans y0
  have HH:Hid (uT P w sa a[k].links∧a[k].links.length≤9223372036854775807):=⟨y4,y5⟩
  have hT:C4 bb (off+k*4) a[k] sa sc wr:=C4.below ⟨hb,y0,y1,y2,y3,y4.plain⟩ HB
  have Y9:=tg a2 c2 b a[k].id wr (h2.below HB) (by omega)
  have aP:rs.length≤40:=by
   have h3:=congrArg List.length tM.out
   have h4:=th (a.take k) b
   rw[List.length_map]at h3
   rw[List.length_take]at h4
   omega
  clear hc y0 y1 y2 y3 y4 y5
  go_wp2_with fail
  refine Y9.mono ?_
  clear Y9 q0
  rintro e W1 ⟨rfl,zM⟩
  have zT:=bt HB zM
  have XA:=hT.below zM
  have Lu:=zL yj zM
  clear hT yj HB zM
  rcases xG b a[k].id with hp|⟨i,hp,hi⟩
  ·-- it is not there
   have HT:Hid (xW b a[k]=0):=(sI (zh.1 nb.out).2.2).2 fun y hy e=>by
    have:=yy.2 ⟨y,hy,e⟩;omega
   have HM:Hid (yH (a.take (k+1)) b=yH (a.take k) b++[a[k]]):=by
    unfold Hid;rw[po zN,if_pos (by omega)]
   have LV:Hid (vc b a=vc b (a.drop (k+1))):=by
    unfold Hid
    rw[HD.out,rh zN,if_neg (fun e=>e HT.out)]
   rw[hp]
   clear hp HT HD
   go_wp2_with fail
   have zk:=zU W1
   have dz:=zL Lu zk
   clear Lu
   have cP:=bt zT zk
   have uL:=XA.below zk
   have DY:=zk.size
   clear XA zk zT
   refine zS (fun W=>(C4 bb (off+k*4) a[k] sa sc W)) (fun _=>false) (by kernel_rfl) uL (fun hS=>?_)
   clear hS
   generalize W1.drew=qe at *
   refine zAB 0 ?_ rfl ?_ uL ?_;rotate_left
   ·intro w zD;have f2:=zD;have x0:=f2.c0;have x1:=f2.c1;have x2:=f2.c2;have x3:=f2.c3;have sG:=f2.lt;clear f2;go_simp;rfl
   try simp only[tn]
   refine zAB 1 ?_ rfl ?_ uL ?_;rotate_left
   ·intro w zD;have f2:=zD;have x0:=f2.c0;have x1:=f2.c1;have x2:=f2.c2;have x3:=f2.c3;have sG:=f2.lt;clear f2;go_simp;rfl
   try simp only[tn]
   refine zAB 2 ?_ rfl ?_ uL ?_;rotate_left
   ·intro w zD;have f2:=zD;have x0:=f2.c0;have x1:=f2.c1;have x2:=f2.c2;have x3:=f2.c3;have sG:=f2.lt;clear f2;go_simp;rfl
   try simp only[tn]
   refine zAD 3 rfl uL ?_
   try simp only[tn]
   refine zAD 4 rfl uL ?_
   try simp only[tn]
   refine zAD 7 rfl uL ?_
   try simp only[tn]
   refine zAD 8 rfl uL ?_
   try simp only[tn]
   refine zAD 5 rfl uL ?_
   try simp only[tn]
   refine zAD 9 rfl uL ?_
   try simp only[tn]
   refine zAD 6 rfl uL ?_
   try simp only[tn]
   refine zAD 10 rfl uL ?_
   try simp only[tn]
   refine zAD 11 rfl uL ?_
   try simp only[tn]
   refine zAD 12 rfl uL ?_
   try simp only[tn]
   refine zAB 13 ?_ rfl ?_ uL ?_;rotate_left
   ·intro w zD;have f2:=zD;have x0:=f2.c0;have x1:=f2.c1;have x2:=f2.c2;have x3:=f2.c3;have sG:=f2.lt;clear f2;go_simp;rfl
   try simp only[tn]
   refine zAE ?_
   obtain⟨x0,x1,x2,x3⟩:_∧_∧_∧_:=⟨uL.c0,uL.c1,uL.c2,uL.c3⟩
   have hlo:=uL.lt
   have xR:=zB qe (.cells #[.int .i64 a[k].id,.int .i64 a[k].kind,.slice sa a[k].links.length sc,.string a[k].text] 58)
   have Sq:=heap_alloc_new qe (.cells #[.int .i64 a[k].id,.int .i64 a[k].kind,.slice sa a[k].links.length sc,.string a[k].text] 58)
   have E0:=zL dz xR
   have xZ:=bt cP xR
   obtain⟨v',W5,Lo,Y4,Rx,CJ⟩:=js _ w.heap.size 25 _ rs.length (xE rs) E0 qe.heap.size _ Sq rfl (by intro u hu;simp only[List.mem_cons,List.not_mem_nil,or_false]at hu;rcases hu with rfl|rfl|rfl|rfl<;>rfl) (by omega) xZ.size
   have su:=xZ.trans ((uj E0 Rx xZ.size).mono (Nat.le_refl _))
   have HN:Hid (W5.ownsRow w.heap.size 58 4 v' (rs++[(⟨a[k],sa,sc⟩:Pl)]).length (xE (rs++[(⟨a[k],sa,sc⟩:Pl)]))∧Below w.heap.size w W5):=⟨by rw[List.length_append,xh];exact Y4,su⟩
   have NU:Hid ((rs++[(⟨a[k],sa,sc⟩:Pl)]).map Pl.x=yH (a.take (k+1)) b):=by
    unfold Hid
    rw[List.map_append,tM.out,HM.out];rfl
   have j9:Hid (∀r∈rs++[(⟨a[k],sa,sc⟩:Pl)],uT P w r.sa r.x.links∧r.x.links.length≤9223372036854775807):=fun r hr=>by
    rcases List.mem_append.1 hr with q|q
    ·exact HL.out r q
    ·rw[List.mem_singleton.1 q];exact HH.out
   clear xR Sq E0 xZ Y4 Rx CJ su tM HM HL HH
   clear dz uL cP
   go_wp2_with (at_builtin;refine Lib.wpList_append_run _ rfl _ _ 25 25 rfl _ _ rfl rfl _ _ Lo ?_)
   go_roundw
   case rel=>exact⟨k+1,v',_,rfl,by go_num,by omega,NU,HN.out.1,j9,HN.out.2,LV⟩
   case measure=>simp[intOf];omega
  ·-- it is there
   have HT:Hid (xW b a[k]=Ut (xi b[i].id b[i].kind b[i].links b[i].text a[k].id a[k].kind a[k].links a[k].text)):=ra hp hi
   have HM:Hid (yH (a.take (k+1)) b=yH (a.take k) b):=by
    unfold Hid;rw[po zN,if_neg (by omega),List.append_nil]
   have Y5:(i:Int)<(b.length:Int):=by omega
   obtain⟨b2,vK,rfl,zZ,nT⟩:=(h2.below zT) i hi
   obtain⟨ta,tc,z0,z1,z2,z3,z4,z5⟩:=nT i hi
   have K4:C4 b2 (vK+i*4) b[i] ta tc W1:=⟨zZ,z0,z1,z2,z3,z4⟩
   rw[hp]
   clear hp nT z0 z1 z2 z3 z4 zZ
   go_wp2_with fail
   have zk:=zU W1
   have dz:=zL Lu zk
   clear Lu
   have cP:=bt zT zk
   have uL:=XA.below zk
   have mN:=K4.below zk
   have KN:=zk.size
   clear XA K4 zk zT
   refine zS (fun W=>(C4 bb (off+k*4) a[k] sa sc W)∧(C4 b2 (vK+i*4) b[i] ta tc W)) (fun _=>false) (by kernel_rfl) ⟨uL,mN⟩ (fun hS=>?_)
   clear hS
   generalize W1.drew=LR at *
   refine zAB 0 ?_ rfl ?_ ⟨uL,mN⟩ ?_;rotate_left
   ·intro w zD;obtain⟨f1,f2⟩:=zD;have x0:=f1.c0;have x1:=f1.c1;have x2:=f1.c2;have x3:=f1.c3;have mt:=f1.lt;have u0:=f2.c0;have u1:=f2.c1;have u2:=f2.c2;have u3:=f2.c3;have sG:=f2.lt;clear f1 f2;go_simp;rfl
   try simp only[tn]
   refine zAB 1 ?_ rfl ?_ ⟨uL,mN⟩ ?_;rotate_left
   ·intro w zD;obtain⟨f1,f2⟩:=zD;have x0:=f1.c0;have x1:=f1.c1;have x2:=f1.c2;have x3:=f1.c3;have mt:=f1.lt;have u0:=f2.c0;have u1:=f2.c1;have u2:=f2.c2;have u3:=f2.c3;have sG:=f2.lt;clear f1 f2;go_simp;rfl
   try simp only[tn]
   refine zAB 2 ?_ rfl ?_ ⟨uL,mN⟩ ?_;rotate_left
   ·intro w zD;obtain⟨f1,f2⟩:=zD;have x0:=f1.c0;have x1:=f1.c1;have x2:=f1.c2;have x3:=f1.c3;have mt:=f1.lt;have u0:=f2.c0;have u1:=f2.c1;have u2:=f2.c2;have u3:=f2.c3;have sG:=f2.lt;clear f1 f2;go_simp;rfl
   try simp only[tn]
   refine zAB 3 ?_ rfl ?_ ⟨uL,mN⟩ ?_;rotate_left
   ·intro w zD;obtain⟨f1,f2⟩:=zD;have x0:=f1.c0;have x1:=f1.c1;have x2:=f1.c2;have x3:=f1.c3;have mt:=f1.lt;have u0:=f2.c0;have u1:=f2.c1;have u2:=f2.c2;have u3:=f2.c3;have sG:=f2.lt;clear f1 f2;go_simp;rfl
   try simp only[tn]
   refine zAB 4 ?_ rfl ?_ ⟨uL,mN⟩ ?_;rotate_left
   ·intro w zD;obtain⟨f1,f2⟩:=zD;have x0:=f1.c0;have x1:=f1.c1;have x2:=f1.c2;have x3:=f1.c3;have mt:=f1.lt;have u0:=f2.c0;have u1:=f2.c1;have u2:=f2.c2;have u3:=f2.c3;have sG:=f2.lt;clear f1 f2;go_simp;rfl
   try simp only[tn]
   refine zAB 7 ?_ rfl ?_ ⟨uL,mN⟩ ?_;rotate_left
   ·intro w zD;obtain⟨f1,f2⟩:=zD;have x0:=f1.c0;have x1:=f1.c1;have x2:=f1.c2;have x3:=f1.c3;have mt:=f1.lt;have u0:=f2.c0;have u1:=f2.c1;have u2:=f2.c2;have u3:=f2.c3;have sG:=f2.lt;clear f1 f2;go_simp;rfl
   try simp only[tn]
   refine zAB 8 ?_ rfl ?_ ⟨uL,mN⟩ ?_;rotate_left
   ·intro w zD;obtain⟨f1,f2⟩:=zD;have x0:=f1.c0;have x1:=f1.c1;have x2:=f1.c2;have x3:=f1.c3;have mt:=f1.lt;have u0:=f2.c0;have u1:=f2.c1;have u2:=f2.c2;have u3:=f2.c3;have sG:=f2.lt;clear f1 f2;go_simp;rfl
   try simp only[tn]
   refine zAB 5 ?_ rfl ?_ ⟨uL,mN⟩ ?_;rotate_left
   ·intro w zD;obtain⟨f1,f2⟩:=zD;have x0:=f1.c0;have x1:=f1.c1;have x2:=f1.c2;have x3:=f1.c3;have mt:=f1.lt;have u0:=f2.c0;have u1:=f2.c1;have u2:=f2.c2;have u3:=f2.c3;have sG:=f2.lt;clear f1 f2;go_simp;rfl
   try simp only[tn]
   refine zAB 9 ?_ rfl ?_ ⟨uL,mN⟩ ?_;rotate_left
   ·intro w zD;obtain⟨f1,f2⟩:=zD;have x0:=f1.c0;have x1:=f1.c1;have x2:=f1.c2;have x3:=f1.c3;have mt:=f1.lt;have u0:=f2.c0;have u1:=f2.c1;have u2:=f2.c2;have u3:=f2.c3;have sG:=f2.lt;clear f1 f2;go_simp;rfl
   try simp only[tn]
   refine zAB 6 ?_ rfl ?_ ⟨uL,mN⟩ ?_;rotate_left
   ·intro w zD;obtain⟨f1,f2⟩:=zD;have x0:=f1.c0;have x1:=f1.c1;have x2:=f1.c2;have x3:=f1.c3;have mt:=f1.lt;have u0:=f2.c0;have u1:=f2.c1;have u2:=f2.c2;have u3:=f2.c3;have sG:=f2.lt;clear f1 f2;go_simp;rfl
   try simp only[tn]
   refine zAB 10 ?_ rfl ?_ ⟨uL,mN⟩ ?_;rotate_left
   ·intro w zD;obtain⟨f1,f2⟩:=zD;have x0:=f1.c0;have x1:=f1.c1;have x2:=f1.c2;have x3:=f1.c3;have mt:=f1.lt;have u0:=f2.c0;have u1:=f2.c1;have u2:=f2.c2;have u3:=f2.c3;have sG:=f2.lt;clear f1 f2;go_simp;rfl
   try simp only[tn]
   refine zAC 11 rfl fun K hK=>?_
   have mz:=ry a[k].id a[k].kind sa sc a[k].links a[k].text b[i].id b[i].kind ta tc b[i].links b[i].text LR uL.holds mN.holds HH.out.2
   go_simp
   refine mz.mono ?_
   clear mz
   rintro e gv ⟨rfl,h⟩
   have EA:=zL dz h
   clear dz
   have fX:=bt cP h
   have Ua:=uL.below h
   have TD:=mN.below h
   have GV:=h.size
   clear uL mN h cP
   refine hK _ _ (fun _=>⟨Ua,TD⟩) ?_
   clear hK K
   try simp only[tn]
   refine zAB 12 ?_ rfl ?_ ⟨Ua,TD⟩ ?_;rotate_left
   ·intro w zD;obtain⟨f1,f2⟩:=zD;have x0:=f1.c0;have x1:=f1.c1;have x2:=f1.c2;have x3:=f1.c3;have mt:=f1.lt;have u0:=f2.c0;have u1:=f2.c1;have u2:=f2.c2;have u3:=f2.c3;have sG:=f2.lt;clear f1 f2;go_simp;rfl
   try simp only[tn]
   refine zAB 13 ?_ rfl ?_ ⟨Ua,TD⟩ ?_;rotate_left
   ·intro w zD;obtain⟨f1,f2⟩:=zD;have x0:=f1.c0;have x1:=f1.c1;have x2:=f1.c2;have x3:=f1.c3;have mt:=f1.lt;have u0:=f2.c0;have u1:=f2.c1;have u2:=f2.c2;have u3:=f2.c3;have sG:=f2.lt;clear f1 f2;go_simp;rfl
   try simp only[tn]
   refine zAE ?_
   have HSY:Hid (xi b[i].id b[i].kind b[i].links b[i].text a[k].id a[k].kind a[k].links a[k].text=xi a[k].id a[k].kind a[k].links a[k].text b[i].id b[i].kind b[i].links b[i].text):=TY _ _
   cases hs:xi a[k].id a[k].kind a[k].links a[k].text b[i].id b[i].kind b[i].links b[i].text with
   |true=>
    have LV:Hid (vc b a=vc b (a.drop (k+1))):=by
     unfold Hid
     rw[HD.out,rh zN,if_neg (fun e=>e (by rw[HT.out,HSY.out,hs];rfl))]
    have NU:Hid (rs.map Pl.x=yH (a.take (k+1)) b):=by unfold Hid;rw[HM.out];exact tM.out
    clear hs HT HD HM tM HSY
    go_wp2
    go_roundw
    case rel=>exact⟨k+1,v,rs,rfl,by go_num,by omega,NU,EA,HL,fX,LV⟩
    case measure=>simp[intOf];omega
   |false=>
    have HF:Hid (PO (.returned (.tuple #[.slice none 0 0,.int .i64 6])) gv):=by
     unfold Hid
     rw[xY.out]
     refine Ao.bad ?_ (by decide) fX
     have ht:xW b a[k]=6:=by rw[HT.out,HSY.out,hs];rfl
     rw[HD.out,rh zN,if_pos (by rw[ht];decide),ht]
    clear hs HT HD HM tM HSY
    go_wp2
    exact HF.out
def Y0(cur:Array Value)(o:Nat)(v0 v1 v2 v3:Value):Array Value:=(((cur.setIfInBounds o v0).setIfInBounds (o+1) v1).setIfInBounds (o+2) v2).setIfInBounds (o+3) v3
theorem gI(cur:Array Value)(o:Nat)(v0 v1 v2 v3:Value):(Y0 cur o v0 v1 v2 v3).size=cur.size:=by simp[Y0]
theorem Wm{W:World}{g o:Nat}{cur:Array Value}{t:TypeId}(v0 v1 v2 v3:Value)(h:W.heap[g]? =some (.cells cur t)):(fu W g o v0 v1 v2 v3).heap[g]? =some (.cells (Y0 cur o v0 v1 v2 v3) t):=by
 unfold Y0
 exact heap_setCell_same _ _ _ _ _ _ (heap_setCell_same _ _ _ _ _ _ (heap_setCell_same _ _ _ _ _ _ (heap_setCell_same _ _ _ _ _ _ h)))
theorem JM{cur:Array Value}{o k:Nat}{v0 v1 v2 v3:Value}(hs:o+4≤cur.size):(Y0 cur o v0 v1 v2 v3)[k]? =if o≤k∧k<o+4 then [v0,v1,v2,v3][k-o]? else cur[k]?:=by
 unfold Y0
 simp only[Array.getElem?_setIfInBounds,Array.size_setIfInBounds]
 by_cases h3:o+3=k
 ·subst h3;rw[if_pos rfl,if_pos (by omega),if_pos (by omega)];simp
 rw[if_neg h3]
 by_cases h2:o+2=k
 ·subst h2;rw[if_pos rfl,if_pos (by omega),if_pos (by omega)];simp
 rw[if_neg h2]
 by_cases h1:o+1=k
 ·subst h1;rw[if_pos rfl,if_pos (by omega),if_pos (by omega)];simp
 rw[if_neg h1]
 by_cases h0:o=k
 ·subst h0;rw[if_pos rfl,if_pos (by omega),if_pos (by omega)];simp
 rw[if_neg h0,if_neg (by omega)]
theorem Xv{cur:Array Value}{rs:List Pl}{i:Nat}(x:Pl)(ht:cur.toList.take (rs.length*4)=xE rs)(hs:rs.length*4≤cur.size)(hi:i<rs.length):
  (Y0 cur (i*4) (.int .i64 x.x.id) (.int .i64 x.x.kind) (.slice x.sa x.x.links.length x.sc) (.string x.x.text)).toList.take (rs.length*4)=xE (rs.set i x):=by
 have hlen:(rs.set i x).length=rs.length:=List.length_set
 apply List.ext_getElem?
 intro k
 by_cases hk:k<rs.length*4
 ·obtain⟨q,j,hj,rfl⟩: ∃q j,j<4∧k=q*4+j:=⟨k/4,k%4,by omega,by omega⟩
  have hq:q<rs.length:=by omega
  rw[List.getElem?_take,if_pos hk,ro _ _ _ (by rw[hlen];exact hq) hj,List.getElem_set]
  have e0:(Y0 cur (i*4) (.int .i64 x.x.id) (.int .i64 x.x.kind) (.slice x.sa x.x.links.length x.sc) (.string x.x.text)).toList[q*4+j]? =(Y0 cur (i*4) (.int .i64 x.x.id) (.int .i64 x.x.kind) (.slice x.sa x.x.links.length x.sc) (.string x.x.text))[q*4+j]?:=by simp
  rw[e0,JM (by omega)]
  by_cases TS:i=q
  ·subst TS
   rw[if_pos (by omega),if_pos rfl]
   have:i*4+j-i*4=j:=by omega
   rw[this];rfl
  ·rw[if_neg (by omega),if_neg TS,←ro _ _ _ hq hj,←ht,List.getElem?_take,if_pos hk];simp
 ·rw[List.getElem?_eq_none (by rw[List.length_take];omega),List.getElem?_eq_none (by rw[xe,hlen];omega)]
theorem P0{W:World}{base g cap n len:Nat}{rs:List Pl}{r:Pl}(h0:0<n)(hn:n≤rs.length)(hm:n-1<rs.length)(h:W.ownsRow base 58 4 (.slice (some ⟨g,0,none⟩) len cap) (yk rs n r).length (xE (yk rs n r))):
  (fu (fu W g (n*4) (.int .i64 rs[n-1].x.id) (.int .i64 rs[n-1].x.kind) (.slice rs[n-1].sa rs[n-1].x.links.length rs[n-1].sc) (.string rs[n-1].x.text)) g ((n-1)*4) (.int .i64 r.x.id) (.int .i64 r.x.kind) (.slice r.sa r.x.links.length r.sc) (.string r.x.text)).ownsRow base 58 4 (.slice (some ⟨g,0,none⟩) len cap) (yk rs (n-1) r).length (xE (yk rs (n-1) r))∧
  ∀k,k≠g→(fu (fu W g (n*4) (.int .i64 rs[n-1].x.id) (.int .i64 rs[n-1].x.kind) (.slice rs[n-1].sa rs[n-1].x.links.length rs[n-1].sc) (.string rs[n-1].x.text)) g ((n-1)*4) (.int .i64 r.x.id) (.int .i64 r.x.kind) (.slice r.sa r.x.links.length r.sc) (.string r.x.text)).heap[k]? =W.heap[k]?:=by
 obtain⟨m,rfl⟩: ∃m,n=m+1:=⟨n-1,by omega⟩
 have LT:m<rs.length:=hm
 refine⟨?_,fun k hk=>(ZS _ _ _ _ _ _ _ _ hk).trans (ZS _ _ _ _ _ _ _ _ hk)⟩
 obtain⟨_,⟨e,_⟩|⟨g',ux,cur,e,hb,hg,hn,hc,hs,ht⟩⟩:=h
 ·cases e
 cases e
 have TT:(yk rs (m+1) r).length=rs.length+1:=rf (by omega)
 have FZ:(yk rs m r).length=rs.length+1:=rf (by omega)
 have k1:=Wm (o:=(m+1)*4) (.int .i64 rs[m].x.id) (.int .i64 rs[m].x.kind) (.slice rs[m].sa rs[m].x.links.length rs[m].sc) (.string rs[m].x.text) hg
 have k2:=Wm (o:=m*4) (.int .i64 r.x.id) (.int .i64 r.x.kind) (.slice r.sa r.x.links.length r.sc) (.string r.x.text) k1
 have t1:=Xv (i:=m+1) rs[m] ht (by omega) (by omega)
 have MD:((yk rs (m+1) r).set (m+1) rs[m]).length=(yk rs (m+1) r).length:=List.length_set
 have t2:=Xv (rs:=(yk rs (m+1) r).set (m+1) rs[m]) (i:=m) r (by rw[MD];exact t1) (by rw[MD,gI];omega) (by rw[MD];omega)
 rw[TB LT]at t2
 refine⟨xe _,.inr ⟨g,cap,_,by show _=Value.slice _ (yk rs m r).length cap;rw[FZ,←TT],hb,k2,by show(yk rs m r).length≤cap;omega,hc,by rw[gI,gI];exact hs,?_⟩⟩
 rw[MD,TT,←FZ]at t2
 exact t2
theorem TI{P:Nat→Prop}{w:World}{a:Option Addr}{m:List Ob}(h:ym P w a m)(hm:0<m.length):
  ∃(b off:Nat) (rs:List Pl),a=some ⟨b,off,none⟩∧b<w.heap.size∧rs.map Pl.x=m∧(∀j u,(xE rs)[j]? =some u→w.cell? ((⟨b,off,none⟩:Addr).add j)=some u)∧∀r∈rs,uT P w r.sa r.x.links∧r.x.links.length≤9223372036854775807:=by
 obtain⟨b,off,rfl,aY,-,hc⟩:=h 0 hm
 have key: ∀(n:Nat),n≤m.length→∃rs:List Pl,rs.map Pl.x=m.take n∧(∀j u,(xE rs)[j]? =some u→w.cell? ⟨b,off+j,none⟩=some u)∧∀r∈rs,uT P w r.sa r.x.links∧r.x.links.length≤9223372036854775807:=by
  intro n
  induction n with
  |zero=>intro _;exact⟨[],rfl,fun j u hj=>by simp[xE]at hj,fun r hr=>by cases hr⟩
  |succ n ih=>
   intro hn
   obtain⟨rs,e1,e2,e3⟩:=ih (by omega)
   obtain⟨sa,sc,c0,c1,c2,c3,hh,h9⟩:=hc n (by omega)
   have hl:rs.length=n:=by have:=congrArg List.length e1;rw[List.length_map,List.length_take]at this;omega
   refine⟨rs++[⟨m[n],sa,sc⟩],?_,?_,?_⟩
   ·rw[List.map_append,e1,List.take_succ_eq_append_getElem (by omega)];rfl
   ·intro j u hj
    rw[xh]at hj
    rcases Nat.lt_or_ge j (n*4)with c|c
    ·rw[List.getElem?_append_left (by rw[xe,hl];exact c)]at hj
     exact e2 j u hj
    ·rw[List.getElem?_append_right (by rw[xe,hl];exact c),xe,hl]at hj
     have hj4:j-n*4<4:=by
      rcases Nat.lt_or_ge (j-n*4) 4 with q|q
      ·exact q
      ·rw[List.getElem?_eq_none (by simpa[xE,Pl.cells]using q)]at hj;cases hj
     obtain⟨i,hi⟩: ∃i,j=n*4+i∧i<4:=⟨j-n*4,by omega,hj4⟩
     obtain⟨rfl,hi⟩:=hi
     rw[show n*4+i-n*4=i by omega]at hj
     match i,hi with
     |0,_=>rw[show off+(n*4+0)=off+n*4 by omega,c0];simpa[xE,Pl.cells]using hj
     |1,_=>rw[show off+(n*4+1)=off+n*4+1 by omega,c1];simpa[xE,Pl.cells]using hj
     |2,_=>rw[show off+(n*4+2)=off+n*4+2 by omega,c2];simpa[xE,Pl.cells]using hj
     |3,_=>rw[show off+(n*4+3)=off+n*4+3 by omega,c3];simpa[xE,Pl.cells]using hj
   ·intro r hr
    rcases List.mem_append.1 hr with q|q
    ·exact e3 r q
    ·obtain rfl:=List.mem_singleton.1 q;exact⟨hh,h9⟩
 obtain⟨rs,e1,e2,e3⟩:=key m.length (Nat.le_refl _)
 rw[List.take_length]at e1
 refine⟨b,off,rs,rfl,aY,e1,fun j u hj=>?_,e3⟩
 have vd:(⟨b,off,none⟩:Addr).add j=⟨b,off+j,none⟩:=by unfold Addr.add;split<;>simp_all
 rw[vd]
 exact e2 j u hj
theorem RD{P:Nat→Prop}(W0 w:World)(hb:Below W0.heap.size W0 w)(base:Nat)(ty:TypeId)(v:Value)(rs:List Pl)(yj:w.ownsRow base 58 4 v rs.length (xE rs))(a:Option Addr)(c:Nat)(m:List Ob)(h:ym P W0 a m)(hnil:a=none→c=0)
  (hlen:rs.length+m.length≤1000) (xq:base≤w.heap.size):
  ∃v' w' rs',(Builtin.append_ #[25,25] ty #[v,.slice a m.length c]).run Tryz.prog w= .ok v' w'∧rs'.map Pl.x=m∧w'.ownsRow base 58 4 v' (rs++rs').length (xE (rs++rs'))∧w.grownBy w' v.ownBlock∧∀r∈rs',uT P W0 r.sa r.x.links∧r.x.links.length≤9223372036854775807:=by
 obtain⟨i0,sN,sW,xQ,pS⟩:=info_parts Tryz.info58
 rcases Nat.eq_zero_or_pos m.length with h0|h0
 ·obtain rfl:m=[]:=List.eq_nil_of_length_eq_zero h0
  cases a with
  |none=>
   rw[hnil rfl]
   refine⟨v,w,[],run_append_owned_none w base 25 ty 58 i0 4 Tryz.underlying25 sN v _ _ yj,rfl,by simpa using yj,⟨rfl,rfl,rfl,Nat.le_refl _,fun _ _ _=>rfl⟩,fun r hr=>by cases hr⟩
  |some a=>
   obtain⟨v',w',hr,q1,q2,_⟩:=run_append_own (P:=Tryz.prog) w base 25 ty 58 i0 _ 4 56 Tryz.underlying25 sN sW xQ pS rfl (by omega) v rs.length (xE rs) yj a 0 c [] rfl (fun j u hj=>by simp at hj) (fun u hu=>by cases hu) (by unfold maxLen;omega) (by omega) xq
   exact⟨v',w',[],hr,rfl,by simpa using q1,q2,fun r hr=>by cases hr⟩
 ·obtain⟨b,off,rs',rfl,aY,e1,e2,e3⟩:=TI h h0
  have e2': ∀j u,(xE rs')[j]? =some u→w.cell? ((⟨b,off,none⟩:Addr).add j)=some u:=fun j u hj=>by
   have vd:(⟨b,off,none⟩:Addr).add j=⟨b,off+j,none⟩:=by unfold Addr.add;split<;>simp_all
   have:=e2 j u hj
   rw[vd]at this⊢
   exact(hb.cell (p:=⟨b,off+j,none⟩) aY).trans this
  have hl:rs'.length=m.length:=by have:=congrArg List.length e1;rwa[List.length_map]at this
  obtain⟨v',w',hr,q1,q2,_⟩:=run_append_own (P:=Tryz.prog) w base 25 ty 58 i0 _ 4 56 Tryz.underlying25 sN sW xQ pS rfl (by omega) v rs.length (xE rs) yj ⟨b,off,none⟩ m.length c (xE rs') (by rw[xe,hl]) e2' (VH rs') (by unfold maxLen;omega) (by omega) xq
  exact⟨v',w',rs',hr,e1,by rw[List.length_append,hl,xh];exact q1,q2,e3⟩
theorem Ql{P:Nat→Prop}(W0 w:World)(hb:Below W0.heap.size W0 w)(base:Nat)(ty:TypeId)(v:Value)(rs:List Pl)(yj:w.ownsRow base 58 4 v rs.length (xE rs))(a:Option Addr)(c:Nat)(m:List Ob)(h:ym P W0 a m)
  (hlen:rs.length+m.length≤1000) (xq:base≤w.heap.size):
  ∃v' w' rs',(Builtin.append_ #[25,25] ty #[v,.slice a m.length c]).run Tryz.prog w= .ok v' w'∧rs'.map Pl.x=m∧w'.ownsRow base 58 4 v' (rs++rs').length (xE (rs++rs'))∧w.grownBy w' v.ownBlock∧∀r∈rs',uT P W0 r.sa r.x.links∧r.x.links.length≤9223372036854775807:=by
 by_cases ha:a=none∧m.length=0
 ·obtain⟨rfl,h0⟩:=ha
  obtain rfl:m=[]:=List.eq_nil_of_length_eq_zero h0
  have UT: ∀row,w.grownBy w row:=fun row=>⟨rfl,rfl,rfl,Nat.le_refl _,fun _ _ _=>rfl⟩
  obtain⟨i0,sN,sW,xQ,pS⟩:=info_parts Tryz.info58
  have hr:(Builtin.append_ #[25,25] ty #[v,.slice none 0 c]).run Tryz.prog w= .ok v w:=by
   rcases yj.2 with⟨rfl,_⟩|⟨g,cap,cur,rfl,_,_,h3,_⟩
   ·exact kM Tryz.underlying25 sN ty none c w
   ·simp[Builtin.append_,run_underlying Tryz.underlying25,sizeOf,typeInfo,sN,Builtin.lenOf,Builtin.firstCells,loadCells,h3,storeCells]
  exact⟨v,w,[],hr,rfl,by simpa using yj,UT _,fun r hr=>by cases hr⟩
 ·refine RD W0 w hb base ty v rs yj a c m h (fun e=>?_) hlen xq
  exfalso
  rcases Nat.eq_zero_or_pos m.length with h0|h0
  ·exact ha ⟨e,h0⟩
  ·obtain⟨b,off,e',_⟩:=h 0 h0
   rw[e]at e';cases e'
theorem cr{w:World}{base:Nat}{e:TypeId}{size:Nat}{v:Value}{n:Nat}{xs:List Value}(h:w.ownsRow base e size v n xs)(hn:0<n): ∃g cap,v= .slice (some ⟨g,0,none⟩) n cap:=by
 rcases h.2 with⟨_,e⟩|⟨g,cap,_,e,_⟩
 ·omega
 ·exact⟨g,cap,e⟩
theorem cC{α:Type}{A:List α}{n:Nat}{x:α}(h0:0<n)(h:n≤A.length):(yk A n x)[n-1]'(by rw[rf h];omega)=A[n-1]'(by omega):=by
 obtain⟨m,rfl⟩: ∃m,n=m+1:=⟨n-1,by omega⟩
 exact Rb (by omega)
theorem jN{W:World}{base g cap n c:Nat}{rs:List Pl}(h:W.ownsRow base 58 4 (.slice (some ⟨g,0,none⟩) c cap) rs.length (xE rs))(hn:n<rs.length):
  W.cell? ⟨g,n*4,none⟩=some (.int .i64 rs[n].x.id)∧W.cell? ⟨g,n*4+1,none⟩=some (.int .i64 rs[n].x.kind)∧W.cell? ⟨g,n*4+2,none⟩=some (.slice rs[n].sa rs[n].x.links.length rs[n].sc)∧W.cell? ⟨g,n*4+3,none⟩=some (.string rs[n].x.text):=by
 obtain⟨_,⟨e,_⟩|⟨g',ux,cur,e,hb,hg,SK,hc,hs,ht⟩⟩:=h
 ·cases e
 cases e
 have key: ∀j,j<4→W.cell? ⟨g,n*4+j,none⟩=(rs[n].cells)[j]?:=fun j hj=>by
  rw[←ro _ _ _ hn hj,←ht,List.getElem?_take,if_pos (by omega),cell_of_row _ _ _ _ _ _ hg];simp
 exact⟨key 0 (by omega),key 1 (by omega),key 2 (by omega),key 3 (by omega)⟩
theorem ZX{W:World}{base g cap c n:Nat}{xs:List Value}(h:W.ownsRow base 58 4 (.slice (some ⟨g,0,none⟩) c cap) n xs):(∃cur,W.heap[g]? =some (.cells cur 58))∧base≤g∧c≤cap∧cap≤maxLen:=by
 obtain⟨_,⟨e,_⟩|⟨g',ux,cur,e,hb,hg,SK,hc,hs,ht⟩⟩:=h
 ·cases e
 cases e
 exact⟨⟨cur,hg⟩,hb,SK,hc⟩
def kj(P:Nat→Prop)(l m:List Ob)(w:World)(e:Ending)(w':World):Prop:=
 Below w.heap.size w w'∧((tf l m≠0∧e= .returned (.tuple #[.slice none 0 0,.int .i64 (tf l m)]))∨
  (tf l m=0∧∃aM cM,e= .returned (.tuple #[.slice aM (zH l m).length cM,.int .i64 0])∧ym P w' aM (zH l m)∧(zH l m).length≤cM))
theorem kj.bad{P:Nat→Prop}{l m:List Ob}{w w':World}{r:Int}(h:tf l m=r)(h0:r≠0)(hb:Below w.heap.size w w'):kj P l m w (.returned (.tuple #[.slice none 0 0,.int .i64 r])) w':=
 ⟨hb,.inl ⟨by rw[h];exact h0,by rw[h]⟩⟩
theorem eh(P:Nat→Prop)(a1:Option Addr)(c1:Nat)(l:List Ob)(a2:Option Addr)(c2:Nat)(m:List Ob)(w:World)(hP: ∀k,P k→k<w.heap.size)(h1:ym P w a1 l)(h2:ym P w a2 m)(hr:xm l)(hl:l.length≤40)(hm:m.length≤40):
  Calls Tryz.prog 204 #[.slice a1 l.length c1,.slice a2 m.length c2] w (kj P l m w):=by
 obtain⟨PO,xY⟩: ∃PP:Ending→World→Prop,Hid (PP=kj P l m w):=⟨_,rfl⟩
 rw[←xY.out]
 have eQ:Hid (∀k,P k→k<w.heap.size):=hP
 have sP:=zB w (.cells #[] 58)
 have o0:(w.alloc (.cells #[] 58)).ownsRow w.heap.size 58 4 (.slice (some ⟨w.heap.size,0,none⟩) 0 0) ([]:List Pl).length (xE []):=World.ownsRow_made w #[] 0 (Nat.le_refl _) (by unfold maxLen;omega) rfl
 obtain⟨v1,W1,DQ,r1,e1,o1,g1,q1⟩:=Ql w (w.alloc (.cells #[] 58)) sP w.heap.size 25 _ [] o0 a1 c1 l h1 (by simp;omega) sP.size
 have B1:=sP.trans (uj o0 g1 sP.size)
 rw[List.nil_append]at o1
 have U5:Hid (∀r∈DQ,uT P w r.sa r.x.links∧r.x.links.length≤9223372036854775807):=q1
 have TT:DQ.length=l.length:=by have:=congrArg List.length e1;rwa[List.length_map]at this
 have qP:Hid (DQ.map Pl.x=l):=e1
 have HR:Hid (xm l):=hr
 clear sP o0 g1 q1 e1 hr
 go_enter Tryz.func204,Tryz.ntmps204
 go_wp2_with (at_builtin;refine Lib.wpList_append_run _ rfl _ _ 25 25 rfl _ _ rfl rfl _ _ r1 ?_)
 clear r1
 go_loopw [6,7] (fun o i wr=>∃(k:Nat) (v:Value) (rs:List Pl),v=o∧i= .int .i64 k∧k≤m.length∧Hid (xm (rs.map Pl.x))∧Hid (zw l m=zw (rs.map Pl.x) (m.drop k)∧zH l m=zH (rs.map Pl.x) (m.drop k))∧rs.length≤40+k∧wr.ownsRow w.heap.size 58 4 v rs.length (xE rs)∧Hid (∀r∈rs,uT P w r.sa r.x.links∧r.x.links.length≤9223372036854775807)∧Below w.heap.size w wr) (fun _ i _=>m.length-(intOf i).toNat)
 case atStart=>exact⟨0,_,DQ,rfl,rfl,Nat.zero_le _,by rw[qP.out];exact HR.out,by rw[qP.out];exact⟨rfl,rfl⟩,by omega,o1,U5,B1⟩
 case round=>
  clear HR qP U5 o1 B1 TT
  obtain⟨k,v,rs,rfl,rfl,hk,HR,HT,aP,yj,HL,HB⟩:=hrel
  obtain⟨a',c',ev,hSP,TC⟩:=eu yj eQ.out (fun r hr=>⟨(HL.out r hr).1.put (rZ HB),(HL.out r hr).2⟩)
  obtain⟨L,La⟩: ∃L,L=rs.map Pl.x:=⟨_,rfl⟩
  have hLl:L.length≤40+k:=by rw[La,List.length_map];exact aP
  rw[←La]at ev hSP TC HR HT
  have Ml:Hid (rs.map Pl.x=L):=La.symm
  clear La
  subst ev
  have hS:=hSP.plain
  by_cases zN:k<m.length
  case neg=>
   obtain⟨t1,t2⟩:=MN zN HT.out
   have HZ:Hid (tK L=zK L):=gM HR.out
   have Tw:Hid (zw l m=0∧zH l m=L):=⟨t1,t2⟩
   have hc:=rD a' c' L wr hS (by omega) TC
   rw[HZ.out]at hc
   have HSP:Hid (ym P wr a' L):=hSP
   have HCC:Hid (L.length≤c'):=TC
   have vg: ¬(k:Int)<(m.length:Int):=by omega
   clear HR HT yj HL t1 t2 hSP hS TC
   go_wp2_with fail
   refine hc.mono ?_
   clear hc
   rintro e W2 ⟨rfl,zZ⟩
   have zj:=bt HB zZ
   have r8:=HSP.out.below zZ
   clear zZ HSP
   have HW:Hid (tf l m=zK L):=by
    unfold Hid tf
    rw[if_neg (fun e=>e Tw.out.1),Tw.out.2]
   generalize zK L=z at *
   by_cases hz:z=0
   ·subst hz
    have HF:Hid (PO (.returned (.tuple #[.slice a' L.length c',.int .i64 0])) W2):=by
     unfold Hid
     rw[xY.out]
     exact⟨zj,.inr ⟨HW.out,a',c',by rw[Tw.out.2],by rw[Tw.out.2];exact r8,by rw[Tw.out.2];exact HCC.out⟩⟩
    clear HW zj r8
    go_wp2
    exact HF.out
   ·have f1:(z != 0)=true:=by simpa using hz
    have HF:Hid (PO (.returned (.tuple #[.slice none 0 0,.int .i64 z])) W2):=by
     unfold Hid
     rw[xY.out]
     exact kj.bad HW.out hz zj
    clear HW zj r8 hz
    go_wp2
    exact HF.out
  have vg:(k:Int)<(m.length:Int):=by omega
  clear hSP
  obtain⟨bb,off,rfl,hb,-,hc⟩:=h2 k zN
  obtain⟨sa,sc,y0,y1,y2,y3,y4,y5⟩:=hc k zN
  have q0:=(World.cell?_of_block (a:=⟨bb,off+k*4,none⟩) (HB.block bb hb)).trans y0
  have HH:Hid (uT P w sa m[k].links∧m[k].links.length≤9223372036854775807):=⟨y4,y5⟩
  have hT:C4 bb (off+k*4) m[k] sa sc wr:=C4.below ⟨hb,y0,y1,y2,y3,y4.plain⟩ HB
  have Y9:=tg a' c' L m[k].id wr hS (by omega)
  clear hc y0 y1 y2 y3 y4 y5
  go_wp2_with fail
  refine Y9.mono ?_
  clear Y9 q0
  rintro e W1 ⟨rfl,zM⟩
  have zT:=bt HB zM
  have XA:=hT.below zM
  have Lu:=zL yj zM
  have ue:=hS.below zM
  clear hT yj HB zM hS
  rcases xG L m[k].id with hp|⟨i,hp,hi⟩
  ·-- it is not there
   have HP:Hid (zW L m[k].id= -1):=hp
   have Tw:Hid (xW L m[k]=0):=(sI HR.out).2 fun y hy e=>by
    have:=yy.2 ⟨y,hy,e⟩;omega
   rw[hp]
   clear hp ue TC
   go_wp2_with fail
   have zk:=zU W1
   have dz:=zL Lu zk
   clear Lu
   have cP:=bt zT zk
   have uL:=XA.below zk
   have DY:=zk.size
   clear XA zk zT
   refine zS (fun W=>(C4 bb (off+k*4) m[k] sa sc W)) (fun _=>false) (by kernel_rfl) uL (fun hS=>?_)
   clear hS
   generalize W1.drew=qe at *
   refine zAB 0 ?_ rfl ?_ uL ?_;rotate_left
   ·intro w zD;have f2:=zD;have x0:=f2.c0;have x1:=f2.c1;have x2:=f2.c2;have x3:=f2.c3;have sG:=f2.lt;clear f2;go_simp;rfl
   try simp only[tn]
   refine zAB 1 ?_ rfl ?_ uL ?_;rotate_left
   ·intro w zD;have f2:=zD;have x0:=f2.c0;have x1:=f2.c1;have x2:=f2.c2;have x3:=f2.c3;have sG:=f2.lt;clear f2;go_simp;rfl
   try simp only[tn]
   refine zAB 2 ?_ rfl ?_ uL ?_;rotate_left
   ·intro w zD;have f2:=zD;have x0:=f2.c0;have x1:=f2.c1;have x2:=f2.c2;have x3:=f2.c3;have sG:=f2.lt;clear f2;go_simp;rfl
   try simp only[tn]
   refine zAD 3 rfl uL ?_
   try simp only[tn]
   refine zAD 4 rfl uL ?_
   try simp only[tn]
   refine zAD 7 rfl uL ?_
   try simp only[tn]
   refine zAD 8 rfl uL ?_
   try simp only[tn]
   refine zAD 5 rfl uL ?_
   try simp only[tn]
   refine zAD 9 rfl uL ?_
   try simp only[tn]
   refine zAD 6 rfl uL ?_
   try simp only[tn]
   refine zAD 10 rfl uL ?_
   try simp only[tn]
   refine zAD 11 rfl uL ?_
   try simp only[tn]
   refine zAD 12 rfl uL ?_
   try simp only[tn]
   refine zAB 13 ?_ rfl ?_ uL ?_;rotate_left
   ·intro w zD;have f2:=zD;have x0:=f2.c0;have x1:=f2.c1;have x2:=f2.c2;have x3:=f2.c3;have sG:=f2.lt;clear f2;go_simp;rfl
   try simp only[tn]
   refine zAE ?_
   obtain⟨x0,x1,x2,x3⟩:_∧_∧_∧_:=⟨uL.c0,uL.c1,uL.c2,uL.c3⟩
   have hlo:=uL.lt
   have xR:=zB qe (.cells #[.int .i64 m[k].id,.int .i64 m[k].kind,.slice sa m[k].links.length sc,.string m[k].text] 58)
   have Sq:=heap_alloc_new qe (.cells #[.int .i64 m[k].id,.int .i64 m[k].kind,.slice sa m[k].links.length sc,.string m[k].text] 58)
   have E0:=zL dz xR
   have xZ:=bt cP xR
   obtain⟨r,hr⟩: ∃r:Pl,r=⟨m[k],sa,sc⟩:=⟨_,rfl⟩
   have HLr:Hid (uT P w r.sa r.x.links∧r.x.links.length≤9223372036854775807):=by rw[hr];exact HH.out
   have HXr:Hid (r.x=m[k]):=by rw[hr];rfl
   obtain⟨v',W5,Lo,Y4,Rx,CJ⟩:=js _ w.heap.size 25 _ rs.length (xE rs) E0 qe.heap.size _ Sq rfl (by intro u hu;simp only[List.mem_cons,List.not_mem_nil,or_false]at hu;rcases hu with rfl|rfl|rfl|rfl<;>rfl) (by omega) xZ.size
   have su:=xZ.trans ((uj E0 Rx xZ.size).mono (Nat.le_refl _))
   have Cq:W5.ownsRow w.heap.size 58 4 v' (rs++[r]).length (xE (rs++[r])):=by rw[List.length_append,xh,hr];exact Y4
   clear xR Sq E0 xZ Y4 Rx CJ HH hr
   clear dz uL cP
   obtain⟨g,cap,ev'⟩:=cr Cq (by simp)
   subst ev'
   obtain⟨_,A8,hgc,qt⟩:=ZX Cq
   obtain⟨len,hlen⟩: ∃len,len=(rs++[r]).length:=⟨_,rfl⟩
   have PQ:len=rs.length+1:=by rw[hlen];simp
   have uO:cap≤9223372036854775807:=by unfold maxLen at qt;omega
   rw[←hlen]at Cq hgc Lo
   have zQ1:Hid (len=rs.length+1):=PQ
   have hN6:W5.ownsRow w.heap.size 58 4 (.slice (some ⟨g,0,none⟩) len cap) (yk rs rs.length r).length (xE (yk rs rs.length r)):=by
    rw[Xc,←hlen];exact Cq
   have Be:(len:Int)-1=(rs.length:Int):=by omega
   have zBP:Hid ((len:Int)-1=(rs.length:Int)):=Be
   have zOD:len≤1000:=by omega
   have zMF:rs.length<len:=by omega
   have Aw:(0:Int)≤(len:Int)-1:=by omega
   clear Cq hlen qt PQ Be
   go_wp2_with (at_builtin;refine Lib.wpList_append_run _ rfl _ _ 25 25 rfl _ _ rfl rfl _ _ Lo ?_)
   clear Lo x0 x1 x2 x3 hlo
   go_loopw [9] (fun nn wr=>∃n:Nat,nn= .int .i64 n∧n≤rs.length∧wr.ownsRow w.heap.size 58 4 (.slice (some ⟨g,0,none⟩) len cap) (yk rs n r).length (xE (yk rs n r))∧Below w.heap.size w wr∧Hid (∀q (h:q<rs.length),n≤q→r.x.id<rs[q].x.id)) (fun nn _=>(intOf nn).toNat)
   case atStart=>exact⟨rs.length,by rw[zBP.out],Nat.le_refl _,hN6,su,fun q h hq=>by omega⟩
   case round=>
    clear hN6 su zBP Aw
    obtain⟨n,rfl,hn,ho,hB,HX⟩:=hrel
    have Tq:Hid ((yk rs n r).length=rs.length+1):=rf hn
    -- what is so when the place is found
    have key:Hid ((∀h:n-1<rs.length,0<n→¬r.x.id<(rs[n-1]'h).x.id)→(yk rs n r).map Pl.x=vJ L m[k]):=fun lo=>by
     rw[QX,Ml.out,←HXr.out]
     have M7:L.length=rs.length:=by rw[←Ml.out,List.length_map]
     have bT: ∀q (h:q<rs.length) (h':q<L.length),L[q]=rs[q].x:=fun q h h'=>by
      have:=Ml.out;subst this;rw[List.getElem_map]
     refine RH HR.out (by rw[HXr.out];exact HP.out) (by omega) (fun q h hq=>?_) (fun h h0=>?_)
     ·rw[bT q (by omega)];exact HX.out q (by omega) hq
     ·rw[bT (n-1) (by omega)];exact lo (by omega) h0
    have De:Hid (∀q∈yk rs n r,uT P w q.sa q.x.links∧q.x.links.length≤9223372036854775807):=fun q hq=>by
     unfold yk at hq
     rcases List.mem_append.1 hq with c|c
     ·exact HL.out q (List.mem_of_mem_take c)
     ·rcases List.mem_cons.1 c with c|c
      ·rw[c];exact HLr.out
      ·exact HL.out q (List.mem_of_mem_drop c)
    have hOW:wr.ownsRow w.heap.size 58 4 (.slice (some ⟨g,0,none⟩) len cap) (yk rs n r).length (xE (yk rs n r)):=ho
    have Pe:Hid ((∀h:n-1<rs.length,0<n→¬r.x.id<(rs[n-1]'h).x.id)→xm ((yk rs n r).map Pl.x)∧(zw l m=zw ((yk rs n r).map Pl.x) (m.drop (k+1))∧zH l m=zH ((yk rs n r).map Pl.x) (m.drop (k+1)))):=fun lo=>by
     have hK:=key.out lo
     rw[hK]
     exact⟨qb HR.out _,Yd zN HT.out Tw.out⟩
    have Do:Hid (∀W,Below wr.heap.size wr W→Below w.heap.size w W∧W.ownsRow w.heap.size 58 4 (.slice (some ⟨g,0,none⟩) len cap) (yk rs n r).length (xE (yk rs n r))):=fun W hW=>⟨(bt hB hW),zL hOW hW⟩
    by_cases h0:n=0
    case pos=>
     have hlo: ∀h:n-1<rs.length,0<n→¬r.x.id<(rs[n-1]'h).x.id:=fun _ h=>absurd h (by omega)
     have HD:=(show Hid _ from Pe.out hlo)
     subst h0
     clear key HX HR HT Tw HL HLr hlo Pe ho hOW hB
     go_wp2
     go_quiet (fail)
     go_wp2
     go_roundw
     case rel=>exact⟨k+1,_,yk rs 0 r,rfl,by go_num,by omega,HD.out.1,HD.out.2,by have:=Tq.out;omega,(Do.out _ (yB (Below.refl _ _) _)).2,De,(Do.out _ (yB (Below.refl _ _) _)).1⟩
     case measure=>simp[intOf];omega
    have Y7:0<n:=by omega
    have ec:n-1<rs.length:=by omega
    obtain⟨x0,x1,x2,x3⟩:=jN (rs:=yk rs n r) (n:=n) ho (by have:=Tq.out;omega)
    obtain⟨y0,y1,y2,y3⟩:=jN (rs:=yk rs n r) (n:=n-1) ho (by have:=Tq.out;omega)
    rw[WN hn]at x0 x1 x2 x3
    rw[cC Y7 hn]at y0 y1 y2 y3
    obtain⟨p,hp⟩: ∃p,p=rs[n-1]'ec:=⟨_,rfl⟩
    have LU:Hid (p=rs[n-1]'ec):=hp
    rw[←hp]at y0 y1 y2 y3
    have hnI:(0:Int)≤(n:Int)-1:=by omega
    have hnl:(n:Int)<(len:Int):=by omega
    have zSH:(n:Int)-1<(len:Int):=by omega
    have g1:decide (0<n)=true:=by simpa using Y7
    clear hp h0
    by_cases sZ:r.x.id<p.x.id
    case neg=>
     have HD:=(show Hid _ from Pe.out (fun _ _=>by rw[←LU.out];exact sZ))
     clear key HX HR HT Tw HL HLr Pe ho hOW hB
     go_wp2
     go_quiet (fail)
     go_wp2
     go_roundw
     case rel=>exact⟨k+1,_,yk rs n r,rfl,by go_num,by omega,HD.out.1,HD.out.2,by have:=Tq.out;omega,(Do.out _ (yB (Below.refl _ _) _)).2,De,(Do.out _ (yB (Below.refl _ _) _)).1⟩
     case measure=>simp[intOf];omega
    have dU:Hid (r.x.id<p.x.id):=sZ
    go_wp2
    go_quiet (fail)
    go_upto_region 13 with fail
    have Sd:=yB (Below.refl wr.heap.size wr) nq
    obtain⟨MP,Cl⟩:=Do.out _ Sd
    generalize wr.drewN nq=W7 at *
    have HB7:Hid (Below w.heap.size w W7):=MP
    clear x0 x1 x2 x3 y0 y1 y2 y3 Sd key Pe Do ho hOW hB g1 sZ
    obtain⟨sw1,sw2⟩:=P0 (r:=r) Y7 hn ec Cl
    obtain⟨x0,x1,x2,x3⟩:=jN (rs:=yk rs n r) (n:=n) Cl (by have:=Tq.out;omega)
    obtain⟨y0,y1,y2,y3⟩:=jN (rs:=yk rs n r) (n:=n-1) Cl (by have:=Tq.out;omega)
    rw[WN hn]at x0 x1 x2 x3
    rw[cC Y7 hn,←LU.out]at y0 y1 y2 y3
    rw[←LU.out]at sw1 sw2
    obtain⟨⟨cur,aZ⟩,-⟩:=ZX Cl
    have f0:=zF (o:=n*4) aZ
    have f1:=zF (o:=n*4+1) aZ
    have f2:=zF (o:=n*4+2) aZ
    have f3:=zF (o:=n*4+3) aZ
    have f4:=zF (o:=(n-1)*4) aZ
    have f5:=zF (o:=(n-1)*4+1) aZ
    have f6:=zF (o:=(n-1)*4+2) aZ
    have f7:=zF (o:=(n-1)*4+3) aZ
    have Rz:Hid (∀q (h:q<rs.length),n-1≤q→r.x.id<rs[q].x.id):=fun q h hq=>by
     by_cases e:q=n-1
     ·subst e;rw[←LU.out];exact dU.out
     ·exact HX.out q h (by omega)
    have hgl:=zG aZ
    have yM:(n-1)*4+4≤n*4:=by omega
    have db:Hid (Below w.heap.size w (fu (fu W7 g (n*4) (.int .i64 p.x.id) (.int .i64 p.x.kind) (.slice p.sa p.x.links.length p.sc) (.string p.x.text)) g ((n-1)*4) (.int .i64 r.x.id) (.int .i64 r.x.kind) (.slice r.sa r.x.links.length r.sc) (.string r.x.text))∧(fu (fu W7 g (n*4) (.int .i64 p.x.id) (.int .i64 p.x.kind) (.slice p.sa p.x.links.length p.sc) (.string p.x.text)) g ((n-1)*4) (.int .i64 r.x.id) (.int .i64 r.x.kind) (.slice r.sa r.x.links.length r.sc) (.string r.x.text)).ownsRow w.heap.size 58 4 (.slice (some ⟨g,0,none⟩) len cap) (yk rs (n-1) r).length (xE (yk rs (n-1) r))):=⟨df (df MP A8) A8,sw1⟩
    clear sw1 sw2 aZ Cl MP HX LU dU
    go_region
    clear x0 x1 x2 x3 y0 y1 y2 y3 f0 f1 f2 f3 f4 f5 f6 f7
    obtain⟨W8,hW8⟩: ∃W,W=((((((((W7.setCell ⟨g,n*4,none⟩ (.int .i64 p.x.id)).setCell ⟨g,n*4+1,none⟩ (.int .i64 p.x.kind)).setCell ⟨g,n*4+2,none⟩ (.slice p.sa p.x.links.length p.sc)).setCell ⟨g,n*4+3,none⟩ (.string p.x.text)).setCell ⟨g,(n-1)*4,none⟩ (.int .i64 r.x.id)).setCell ⟨g,(n-1)*4+1,none⟩ (.int .i64 r.x.kind)).setCell ⟨g,(n-1)*4+2,none⟩ (.slice r.sa r.x.links.length r.sc)).setCell ⟨g,(n-1)*4+3,none⟩ (.string r.x.text)):=⟨_,rfl⟩
    rw[←hW8]
    have Cu:Below w.heap.size w W8:=by rw[hW8];exact db.out.1
    have hO8:W8.ownsRow w.heap.size 58 4 (.slice (some ⟨g,0,none⟩) len cap) (yk rs (n-1) r).length (xE (yk rs (n-1) r)):=by rw[hW8];exact db.out.2
    have eE:((n-1:Nat):Int)=(n:Int)-1:=by omega
    have HNM:Hid (((n-1:Nat):Int)=(n:Int)-1):=eE
    clear db HB7 hgl hW8
    have hd:=zU W8
    have Vb:=bt Cu hd
    have hO9:=zL hO8 hd
    clear hd Cu hO8 eE yM
    generalize W8.drew=W9 at *
    go_wp2
    go_roundw
    case rel=>exact⟨n-1,by rw[HNM.out],by omega,hO9,Vb,Rz⟩
    case measure=>simp[intOf];omega
  ·-- it is there
   have SC:Hid (xW L m[k]=Ut (xi L[i].id L[i].kind L[i].links L[i].text m[k].id m[k].kind m[k].links m[k].text)):=ra hp hi
   have HTL:Hid (vJ L m[k]=L):=by
    unfold Hid vJ;rw[if_neg (by omega)]
   have Y5:(i:Int)<(L.length:Int):=by omega
   obtain⟨b2,vK,rfl,zZ,nT⟩:=ue i hi
   obtain⟨ta,tc,z0,z1,z2,z3,z4,z5⟩:=nT i hi
   have K4:C4 b2 (vK+i*4) L[i] ta tc W1:=⟨zZ,z0,z1,z2,z3,z4⟩
   have HLI:Hid (L[i].links.length≤9223372036854775807):=z5
   rw[hp]
   clear hp nT z0 z1 z2 z3 z4 zZ ue TC
   go_wp2_with fail
   have zk:=zU W1
   have dz:=zL Lu zk
   clear Lu
   have cP:=bt zT zk
   have uL:=XA.below zk
   have mN:=K4.below zk
   have KN:=zk.size
   clear XA K4 zk zT
   refine zS (fun W=>(C4 bb (off+k*4) m[k] sa sc W)∧(C4 b2 (vK+i*4) L[i] ta tc W)) (fun _=>false) (by kernel_rfl) ⟨uL,mN⟩ (fun hS=>?_)
   clear hS
   generalize W1.drew=LR at *
   refine zAB 0 ?_ rfl ?_ ⟨uL,mN⟩ ?_;rotate_left
   ·intro w zD;obtain⟨f1,f2⟩:=zD;have x0:=f1.c0;have x1:=f1.c1;have x2:=f1.c2;have x3:=f1.c3;have mt:=f1.lt;have u0:=f2.c0;have u1:=f2.c1;have u2:=f2.c2;have u3:=f2.c3;have sG:=f2.lt;clear f1 f2;go_simp;rfl
   try simp only[tn]
   refine zAB 1 ?_ rfl ?_ ⟨uL,mN⟩ ?_;rotate_left
   ·intro w zD;obtain⟨f1,f2⟩:=zD;have x0:=f1.c0;have x1:=f1.c1;have x2:=f1.c2;have x3:=f1.c3;have mt:=f1.lt;have u0:=f2.c0;have u1:=f2.c1;have u2:=f2.c2;have u3:=f2.c3;have sG:=f2.lt;clear f1 f2;go_simp;rfl
   try simp only[tn]
   refine zAB 2 ?_ rfl ?_ ⟨uL,mN⟩ ?_;rotate_left
   ·intro w zD;obtain⟨f1,f2⟩:=zD;have x0:=f1.c0;have x1:=f1.c1;have x2:=f1.c2;have x3:=f1.c3;have mt:=f1.lt;have u0:=f2.c0;have u1:=f2.c1;have u2:=f2.c2;have u3:=f2.c3;have sG:=f2.lt;clear f1 f2;go_simp;rfl
   try simp only[tn]
   refine zAB 3 ?_ rfl ?_ ⟨uL,mN⟩ ?_;rotate_left
   ·intro w zD;obtain⟨f1,f2⟩:=zD;have x0:=f1.c0;have x1:=f1.c1;have x2:=f1.c2;have x3:=f1.c3;have mt:=f1.lt;have u0:=f2.c0;have u1:=f2.c1;have u2:=f2.c2;have u3:=f2.c3;have sG:=f2.lt;clear f1 f2;go_simp;rfl
   try simp only[tn]
   refine zAB 4 ?_ rfl ?_ ⟨uL,mN⟩ ?_;rotate_left
   ·intro w zD;obtain⟨f1,f2⟩:=zD;have x0:=f1.c0;have x1:=f1.c1;have x2:=f1.c2;have x3:=f1.c3;have mt:=f1.lt;have u0:=f2.c0;have u1:=f2.c1;have u2:=f2.c2;have u3:=f2.c3;have sG:=f2.lt;clear f1 f2;go_simp;rfl
   try simp only[tn]
   refine zAB 7 ?_ rfl ?_ ⟨uL,mN⟩ ?_;rotate_left
   ·intro w zD;obtain⟨f1,f2⟩:=zD;have x0:=f1.c0;have x1:=f1.c1;have x2:=f1.c2;have x3:=f1.c3;have mt:=f1.lt;have u0:=f2.c0;have u1:=f2.c1;have u2:=f2.c2;have u3:=f2.c3;have sG:=f2.lt;clear f1 f2;go_simp;rfl
   try simp only[tn]
   refine zAB 8 ?_ rfl ?_ ⟨uL,mN⟩ ?_;rotate_left
   ·intro w zD;obtain⟨f1,f2⟩:=zD;have x0:=f1.c0;have x1:=f1.c1;have x2:=f1.c2;have x3:=f1.c3;have mt:=f1.lt;have u0:=f2.c0;have u1:=f2.c1;have u2:=f2.c2;have u3:=f2.c3;have sG:=f2.lt;clear f1 f2;go_simp;rfl
   try simp only[tn]
   refine zAB 5 ?_ rfl ?_ ⟨uL,mN⟩ ?_;rotate_left
   ·intro w zD;obtain⟨f1,f2⟩:=zD;have x0:=f1.c0;have x1:=f1.c1;have x2:=f1.c2;have x3:=f1.c3;have mt:=f1.lt;have u0:=f2.c0;have u1:=f2.c1;have u2:=f2.c2;have u3:=f2.c3;have sG:=f2.lt;clear f1 f2;go_simp;rfl
   try simp only[tn]
   refine zAB 9 ?_ rfl ?_ ⟨uL,mN⟩ ?_;rotate_left
   ·intro w zD;obtain⟨f1,f2⟩:=zD;have x0:=f1.c0;have x1:=f1.c1;have x2:=f1.c2;have x3:=f1.c3;have mt:=f1.lt;have u0:=f2.c0;have u1:=f2.c1;have u2:=f2.c2;have u3:=f2.c3;have sG:=f2.lt;clear f1 f2;go_simp;rfl
   try simp only[tn]
   refine zAB 6 ?_ rfl ?_ ⟨uL,mN⟩ ?_;rotate_left
   ·intro w zD;obtain⟨f1,f2⟩:=zD;have x0:=f1.c0;have x1:=f1.c1;have x2:=f1.c2;have x3:=f1.c3;have mt:=f1.lt;have u0:=f2.c0;have u1:=f2.c1;have u2:=f2.c2;have u3:=f2.c3;have sG:=f2.lt;clear f1 f2;go_simp;rfl
   try simp only[tn]
   refine zAB 10 ?_ rfl ?_ ⟨uL,mN⟩ ?_;rotate_left
   ·intro w zD;obtain⟨f1,f2⟩:=zD;have x0:=f1.c0;have x1:=f1.c1;have x2:=f1.c2;have x3:=f1.c3;have mt:=f1.lt;have u0:=f2.c0;have u1:=f2.c1;have u2:=f2.c2;have u3:=f2.c3;have sG:=f2.lt;clear f1 f2;go_simp;rfl
   try simp only[tn]
   refine zAC 11 rfl fun K hK=>?_
   have mz:=ry L[i].id L[i].kind ta tc L[i].links L[i].text m[k].id m[k].kind sa sc m[k].links m[k].text LR mN.holds uL.holds HLI.out
   go_simp
   refine mz.mono ?_
   clear mz
   rintro e gv ⟨rfl,h⟩
   have EA:=zL dz h
   clear dz
   have fX:=bt cP h
   have Ua:=uL.below h
   have TD:=mN.below h
   have GV:=h.size
   clear uL mN h cP
   refine hK _ _ (fun _=>⟨Ua,TD⟩) ?_
   clear hK K
   try simp only[tn]
   refine zAB 12 ?_ rfl ?_ ⟨Ua,TD⟩ ?_;rotate_left
   ·intro w zD;obtain⟨f1,f2⟩:=zD;have x0:=f1.c0;have x1:=f1.c1;have x2:=f1.c2;have x3:=f1.c3;have mt:=f1.lt;have u0:=f2.c0;have u1:=f2.c1;have u2:=f2.c2;have u3:=f2.c3;have sG:=f2.lt;clear f1 f2;go_simp;rfl
   try simp only[tn]
   refine zAB 13 ?_ rfl ?_ ⟨Ua,TD⟩ ?_;rotate_left
   ·intro w zD;obtain⟨f1,f2⟩:=zD;have x0:=f1.c0;have x1:=f1.c1;have x2:=f1.c2;have x3:=f1.c3;have mt:=f1.lt;have u0:=f2.c0;have u1:=f2.c1;have u2:=f2.c2;have u3:=f2.c3;have sG:=f2.lt;clear f1 f2;go_simp;rfl
   try simp only[tn]
   refine zAE ?_
   cases hs:xi L[i].id L[i].kind L[i].links L[i].text m[k].id m[k].kind m[k].links m[k].text with
   |true=>
    have HTN:Hid (zw l m=zw (rs.map Pl.x) (m.drop (k+1))∧zH l m=zH (rs.map Pl.x) (m.drop (k+1))):=by
     have:=Yd zN HT.out (by rw[SC.out,hs];rfl)
     rw[HTL.out,←Ml.out]at this
     exact this
    have HRR:Hid (xm (rs.map Pl.x)):=by rw[Ml.out];exact HR.out
    clear hs HT SC HTL HR
    go_wp2
    go_roundw
    case rel=>exact⟨k+1,_,rs,rfl,by go_num,by omega,HRR,HTN,by omega,EA,HL,fX⟩
    case measure=>simp[intOf];omega
   |false=>
    have HF:Hid (PO (.returned (.tuple #[.slice none 0 0,.int .i64 6])) gv):=by
     unfold Hid
     rw[xY.out]
     have ht:xW L m[k]=6:=by rw[SC.out,hs];rfl
     have he:=P9 zN HT.out (by rw[ht];decide)
     rw[ht]at he
     refine kj.bad ?_ (by decide) fX
     unfold tf;rw[if_pos (by rw[he];decide),he]
    clear hs HT SC HTL HR
    go_wp2
    exact HF.out
def Th(P:Nat→Prop)(l m:List Ob)(w:World)(e:Ending)(w':World):Prop:=
 Below w.heap.size w w'∧((xD l m≠0∧e= .returned (.tuple #[.slice none 0 0,.int .i64 (xD l m)]))∨
  (xD l m=0∧∃aM cM,e= .returned (.tuple #[.slice aM (zH l m).length cM,.int .i64 0])∧ym P w' aM (zH l m)∧(zH l m).length≤cM))
theorem PA(P:Nat→Prop)(a1:Option Addr)(c1:Nat)(l:List Ob)(a2:Option Addr)(c2:Nat)(m:List Ob)(w:World)(hP: ∀k,P k→k<w.heap.size)(h1:ym P w a1 l)(h2:ym P w a2 m)(hs:zK l=0)(bV:l.length≤c1)(hm:m.length≤9223372036854775807):
  Calls Tryz.prog 244 #[.slice a1 l.length c1,.slice a2 m.length c2] w (Th P l m w):=by
 obtain⟨PO,xY⟩: ∃PP:Ending→World→Prop,Hid (PP=Th P l m w):=⟨_,rfl⟩
 rw[←xY.out]
 have HS:Hid (zK l=0):=hs
 have HZ:Hid (tK l=0):=(gM (zh.1 hs).2.2).trans hs
 have L8:Hid (l.length≤40):=(yF hs).1
 have EQ:=L8.out
 clear hs
 have eQ:Hid (∀k,P k→k<w.heap.size):=hP
 clear hP
 have nL:=rD a1 c1 l w h1.plain (by omega) bV
 rw[HZ.out]at nL
 go_enter Tryz.func244,Tryz.ntmps244
 go_wp2_with fail
 refine nL.mono ?_
 clear nL
 rintro e W1 ⟨rfl,zM⟩
 have ue:=h1.below zM
 have hM1:=h2.below zM
 clear h1 h2
 by_cases h12:12<m.length
 case pos=>
  have HE:Hid (xD l m=2):=by unfold Hid;rw[ZC HS.out,if_pos h12]
  have NL:(12:Int)<(m.length:Int):=by omega
  have h0m:(0:Int)<(m.length:Int):=by omega
  clear h12 ue hM1
  go_wp2_with fail
  go_loopw [6,7] (fun e i wr=>e= .int .i64 2∧i= .int .i64 0∧wr=W1) (fun _ i _=>m.length-(intOf i).toNat)
  case atStart=>exact⟨rfl,rfl,rfl⟩
  case round=>
   obtain⟨rfl,rfl,rfl⟩:=hrel
   have HF:Hid (PO (.returned (.tuple #[.slice none 0 0,.int .i64 2])) wr):=by
    unfold Hid
    rw[xY.out]
    exact⟨zM,.inl ⟨by rw[HE.out];decide,by rw[HE.out]⟩⟩
   clear zM HE
   go_wp2
   exact HF.out
 have NL: ¬(12:Int)<(m.length:Int):=by omega
 have HE:Hid (xD l m=if yL m≠0 then yL m else tf l m):=by unfold Hid;rw[ZC HS.out,if_neg h12]
 have K0:Hid (m.length≤12):=by unfold Hid;omega
 clear h12 hm
 go_wp2_with fail
 go_loopw [6,7] (fun e i wr=>∃(k:Nat) (r:Int),e= .int .i64 r∧i= .int .i64 k∧k≤m.length∧Hid ((r=0∧yL m=yL (m.drop k))∨(r≠0∧yL m=r))∧Below W1.heap.size W1 wr) (fun e i _=>m.length-(intOf i).toNat)
 case atStart=>exact⟨0,0,rfl,rfl,Nat.zero_le _,.inl ⟨rfl,rfl⟩,Below.refl _ _⟩
 case round=>
  clear NL
  obtain⟨k,r,rfl,rfl,hk,HT,hB⟩:=hrel
  have qM:=bt zM hB
  by_cases hr:r=0
  case neg=>
   have f1:(r==0)=false:=by simpa using hr
   have f2:(r != 0)=true:=by simpa using hr
   have HF:Hid (PO (.returned (.tuple #[.slice none 0 0,.int .i64 r])) wr):=by
    have he:yL m=r:=by
     rcases HT.out with c|c
     ·exact absurd c.1 hr
     ·exact c.2
    unfold Hid
    rw[xY.out]
    have ha:xD l m=r:=by rw[HE.out,he,if_pos hr]
    exact⟨qM,.inl ⟨by rw[ha];exact hr,by rw[ha]⟩⟩
   clear HT HE hB hr qM
   by_cases zN:k<m.length
   ·have vg:(k:Int)<(m.length:Int):=by omega
    go_wp2
    exact HF.out
   ·have vg: ¬(k:Int)<(m.length:Int):=by omega
    go_wp2
    exact HF.out
  have Lg:Hid (yL m=yL (m.drop k)):=by
   rcases HT.out with c|c
   ·exact c.2
   ·exact absurd hr c.1
  subst hr
  clear HT
  by_cases zN:k<m.length
  case neg=>
   have vg: ¬(k:Int)<(m.length:Int):=by omega
   have HA:Hid (xD l m=tf l m):=by
    unfold Hid
    rw[HE.out,Lg.out,List.drop_of_length_le (by omega),if_neg]
    exact fun e=>e rfl
   have hc:=eh P a1 c1 l a2 c2 m wr (fun k q=>by have:=eQ.out k q;have:=qM.size;omega) (ue.below hB) (hM1.below hB) (zh.1 HS.out).2.2 L8.out (by have:=K0.out;omega)
   have HP:Hid (∀e W',kj P l m wr e W'→PO e W'):=fun e W' h=>by
    rw[xY.out]
    obtain⟨hb,hq⟩:=h
    unfold Th
    rw[HA.out]
    exact⟨(bt qM hb),hq⟩
   clear Lg HE hB qM ue hM1
   go_wp2_with fail
   refine hc.mono ?_
   clear hc
   intro e W2 hW
   have HF:=HP.out e W2 hW
   rcases hW with⟨_,⟨_,rfl⟩|⟨_,aM,cM,rfl,_,_⟩⟩
   ·clear HP
    go_wp2
    exact HF
   ·clear HP
    go_wp2
    exact HF
  have vg:(k:Int)<(m.length:Int):=by omega
  have Ke:(k:Int)+1≤9223372036854775807:=by have:=K0.out;omega
  obtain⟨bb,off,ea,hb,hc⟩:=(hM1.below hB).plain k zN
  obtain⟨sa,sc,x0,x1,x2,x3,x4,x5⟩:=hc k zN
  have Li:=sO m[k].id m[k].kind sa sc m[k].links m[k].text wr x4 x5
  have HC:Hid (xC m[k].id m[k].kind m[k].links m[k].text.size=m[k].err):=rfl
  have HN:=(show Hid (_=_) from cQ zN)
  clear hc x4 x5
  rw[HC.out]at Li
  subst ea
  go_wp2_with fail
  refine Li.mono ?_
  clear Li x0 x1 x2 x3
  rintro e w2 ⟨rfl,zZ⟩
  have zj:=bt hB zZ
  clear zZ
  have SC:Hid ((m[k].err=0∧yL m=yL (m.drop (k+1)))∨(m[k].err≠0∧yL m=m[k].err)):=by
   by_cases e0:m[k].err=0
   ·exact .inl ⟨e0,by rw[Lg.out,HN.out,if_neg (fun e=>e e0)]⟩
   ·exact .inr ⟨e0,by rw[Lg.out,HN.out,if_pos e0]⟩
  clear Lg HN
  generalize m[k].err=z at *
  go_wp2
  go_roundw
  case rel=>exact⟨k+1,z,rfl,by go_num,by omega,SC,zj⟩
  case measure=>simp[intOf];omega
def Nk(P:Nat→Prop)(s:List Ob)(l:List Rf)(m:List Ob)(us:List Up)(f:Bool)(w:World)(e:Ending)(w':World):Prop:=
 Below w.heap.size w w'∧((xX s l m us f≠0∧∃r,r≠0∧R7 r∧e= .returned (.tuple #[.slice none 0 0,.slice none 0 0,.int .i64 r]))∨
  (xX s l m us f=0∧∃a c a' c',e= .returned (.tuple #[.slice a (zH s m).length c,.slice a' (yK l us).length c',.int .i64 0])∧ym P w' a (zH s m)∧(zH s m).length≤c∧xx P w' a' (yK l us)))
theorem ZF(P:Nat→Prop)(q:Rq)(am:Option Addr)(cm:Nat)(m:List Ob)(au:Option Addr)(cu:Nat)(us:List Up)(f:Bool)(w:World)(hP: ∀k,P k→k<w.heap.size)(hq:q.HP P w)(hm:ym P w am m)(hml:m.length≤9223372036854775807)(hu:zx w au us)(hul:us.length≤9223372036854775807)(hs:zK q.r.s=0)(hp:zr m us=0):
  Calls Tryz.prog 202 #[q.val,uw am m.length cm au us.length cu f] w (Nk P q.r.s q.r.l m us f w):=by
 obtain⟨PO,xY⟩: ∃PP:Ending→World→Prop,Hid (PP=Nk P q.r.s q.r.l m us f w):=⟨_,rfl⟩
 rw[←xY.out]
 have EK:=hq.cap
 have eQ:Hid (∀k,P k→k<w.heap.size):=hP
 clear hP
 have HS:Hid (zK q.r.s=0):=hs
 have Tw:Hid (xX q.r.s q.r.l m us f=if xD q.r.s m≠0 then xD q.r.s m else xI q.r.l (zH q.r.s m) us f):=by unfold Hid xX;rw[if_neg (fun e=>e hp)]
 have hA:=zV w q.blk (.cells #[.slice am m.length cm,.slice au us.length cu,.bool f] 28)
 obtain⟨k1,k2⟩:=ye w q.blk (.cells #[.slice am m.length cm,.slice au us.length cu,.bool f] 28)
 have ng:=hq.hs.below hA
 have ac:=hq.hl.below hA
 have hqn:=hq.nl
 have ec:=hm.below hA
 have eM:=hu.below hA
 clear hs hp hq hm hu
 go_enter Tryz.func202,Tryz.ntmps202
 go_upto_region 1 with fail
 obtain⟨p1,qu⟩: ∃p,p=w.heap.size:=⟨_,rfl⟩
 obtain⟨p2,Y6⟩: ∃p,p=w.heap.size+1:=⟨_,rfl⟩
 rw[←qu]at k1
 rw[←Y6]at k2
 rw[←Y6,←qu]
 clear qu Y6
 generalize (w.alloc q.blk).alloc (.cells #[.slice am m.length cm,.slice au us.length cu,.bool f] 28)=W1 at *
 obtain⟨y0,y1,y2,y3,y4,y5,y6⟩:=zI k1
 obtain⟨z0,z1,z2⟩:=zQ k2
 have hc:=PA P q.aS q.cs q.r.s am cm m W1 (fun k q=>by have:=eQ.out k q;have:=hA.size;omega) ng ec HS.out EK hml
 go_wp2_with fail
 refine hc.mono ?_
 clear hc y0 y1 y2 y3 y4 y5 y6 z0 z1 z2
 rintro e W2 ⟨zZ,Gm⟩
 have zj:=bt hA zZ
 have j1:=zA5 zZ k1
 have j2:=zA5 zZ k2
 have EE:=ac.below zZ
 have Tk:=eM.below zZ
 clear hA k1 k2 ng ac ec eM
 rcases Gm with⟨yM,rfl⟩|⟨h0,aM,cM,rfl,hSM,KF⟩
 ·have HF:Hid (PO (.returned (.tuple #[.slice none 0 0,.slice none 0 0,.int .i64 (xD q.r.s m)])) W2):=by
   unfold Hid
   rw[xY.out]
   exact⟨zj,.inl ⟨by rw[Tw.out,if_pos yM];exact yM,_,yM,NI _ _,rfl⟩⟩
  have f1:(xD q.r.s m != 0)=true:=by simpa using yM
  clear yM j1 j2 EE Tk Tw
  generalize xD q.r.s m=z at *
  go_wp2
  refine bodyPost_ret (v:=.tuple #[_,_,_]) (by simp[results,Tryz.results202,go_sem];exact⟨rfl,rfl,rfl⟩) rfl ?_
  exact HF.out
 have Gx:Hid (zK (zH q.r.s m)=0):=(pH h0).2.2.2.2
 have Kl:Hid (xX q.r.s q.r.l m us f=xI q.r.l (zH q.r.s m) us f):=by unfold Hid;rw[Tw.out,if_neg (fun e=>e h0)]
 clear Tw h0 zZ
 obtain⟨y0,y1,y2,y3,y4,y5,y6⟩:=zI j1
 obtain⟨z0,z1,z2⟩:=zQ j2
 have hc:=WX P q.al q.cl q.r.l aM cM (zH q.r.s m) au cu us f W2 (fun k q=>by have:=eQ.out k q;have:=zj.size;omega) EE hqn hSM.plain Tk hul Gx.out KF
 have E9:Hid ((zH q.r.s m).length≤cM):=KF
 clear KF
 go_wp2_with fail
 refine hc.mono ?_
 clear hc y0 y1 y2 y3 y4 y5 y6 z0 z1 z2
 rintro e W3 ⟨yT,hq3⟩
 have xL:=bt zj yT
 have tV:=hSM.below yT
 clear zj j1 j2 EE Tk hSM yT
 rcases hq3 with⟨yM,r,hr0,dW,rfl⟩|⟨h0,aR,cR,rfl,Kb⟩
 ·have HF:Hid (PO (.returned (.tuple #[.slice none 0 0,.slice none 0 0,.int .i64 r])) W3):=by
   unfold Hid
   rw[xY.out]
   exact⟨xL,.inl ⟨by rw[Kl.out];exact yM,_,hr0,dW,rfl⟩⟩
  have f1:(r != 0)=true:=by simpa using hr0
  clear yM hr0 dW tV Kl
  go_wp2
  refine bodyPost_ret (v:=.tuple #[_,_,_]) (by simp[results,Tryz.results202,go_sem];exact⟨rfl,rfl,rfl⟩) rfl ?_
  exact HF.out
 ·have HF:Hid (PO (.returned (.tuple #[.slice aM (zH q.r.s m).length cM,.slice aR (yK q.r.l us).length cR,.int .i64 0])) W3):=by
   unfold Hid
   rw[xY.out]
   exact⟨xL,.inr ⟨by rw[Kl.out];exact h0,aM,cM,aR,cR,rfl,tV,E9.out,Kb⟩⟩
  clear h0 tV Kb Kl
  go_wp2
  refine bodyPost_ret (v:=.tuple #[_,_,_]) (by simp[results,Tryz.results202,go_sem];exact⟨rfl,rfl,rfl⟩) rfl ?_
  exact HF.out
theorem zx.toP{P:Nat→Prop}{w:World}{a:Option Addr}{l:List Up}(h:zx w a l)(hp: ∀k,k<w.heap.size→¬P k):tt P w a l:=fun i hi=>by
 obtain⟨b,off,e,hb,hc⟩:=h i hi;exact⟨b,off,e,hb,hp b hb,hc⟩
theorem Rq.H.toP{P:Nat→Prop}{w:World}{q:Rq}(h:q.H w)(hc:q.r.s.length≤q.cs)(hp: ∀k,k<w.heap.size→¬P k):q.HP P w:=
 ⟨h.hs.toP hp,h.hl.toP hp,h.hm.toP hp,h.hu.toP hp,h.ns,h.nl,h.nm,h.nu,hc⟩
theorem G3(J:ByteArray):pr (R4++J)=false:=by
 unfold pr Lib.hasPrefix
 have:(R4++J).data.toList=110::(111::32::J.data.toList):=by
  rw[ByteArray.data_append,Array.toList_append];rfl
 rw[this];rfl
def Ph(q:Rq)(m:List Ob)(us:List Up)(f:Bool)(w:World)(e:Ending)(w':World):Prop:=
 ∃v,e= .returned (.string v)∧uq v (yY q.r.s q.r.l q.r.g m us f)∧Below w.heap.size w w'
theorem Uz(q:Rq)(am:Option Addr)(cm:Nat)(m:List Ob)(au:Option Addr)(cu:Nat)(us:List Up)(f:Bool)(w:World)(hq:q.H w)(hm:zP w am m)(hml:m.length≤9223372036854775807)(hu:zx w au us)(hul:us.length≤9223372036854775807)(he:q.r.err=0)(EK:q.r.s.length≤q.cs)(hp:zr m us=0):
  Calls Tryz.prog 200 #[q.val,uw am m.length cm au us.length cu f] w (Ph q m us f w):=by
 obtain⟨PO,xY⟩: ∃P:Ending→World→Prop,Hid (P=Ph q m us f w):=⟨_,rfl⟩
 rw[←xY.out]
 have HS:Hid (zK q.r.s=0):=sC he
 have HVE:Hid (t7 q.r.g m us=0):=vy he hp
 have HUS:Hid (yd us=0):=(sL.1 hp).2.2
 obtain⟨hg0,P6⟩:=rV he
 have hA:=zV w q.blk (.cells #[.slice am m.length cm,.slice au us.length cu,.bool f] 28)
 obtain⟨k1,k2⟩:=ye w q.blk (.cells #[.slice am m.length cm,.slice au us.length cu,.bool f] 28)
 have BX:q.HP (fun _=>False) ((w.alloc q.blk).alloc (.cells #[.slice am m.length cm,.slice au us.length cu,.bool f] 28)):=(hq.toP EK (fun _ _ h=>h)).below hA
 have ec:ym (fun _=>False) ((w.alloc q.blk).alloc (.cells #[.slice am m.length cm,.slice au us.length cu,.bool f] 28)) am m:=(hm.toP (fun _ _ h=>h)).below hA
 have eM:=hu.below hA
 have Ro:Hid (zr m us=0):=hp
 clear he hp hq hm hu
 go_enter Tryz.func200,Tryz.ntmps200
 go_upto_region 1 with fail
 obtain⟨p1,qu⟩: ∃p,p=w.heap.size:=⟨_,rfl⟩
 obtain⟨p2,Y6⟩: ∃p,p=w.heap.size+1:=⟨_,rfl⟩
 rw[←qu]at k1
 rw[←Y6]at k2
 rw[←Y6,←qu]
 clear qu Y6
 generalize (w.alloc q.blk).alloc (.cells #[.slice am m.length cm,.slice au us.length cu,.bool f] 28)=W1 at *
 obtain⟨y0,y1,y2,y3,y4,y5,y6⟩:=zI k1
 obtain⟨z0,z1,z2⟩:=zQ k2
 have hc:=ZF (fun _=>False) q am cm m au cu us f W1 (fun _ h=>h.elim) BX ec hml eM hul HS.out Ro.out
 go_wp2_with fail
 refine hc.mono ?_
 clear hc y0 y1 y2 y3 y4 y5 y6 z0 z1 z2
 rintro e W2 ⟨zZ,Gm⟩
 have zj:=bt hA zZ
 have j1:=zA5 zZ k1
 have j2:=zA5 zZ k2
 have Tk:=eM.below zZ
 clear hA k1 k2 BX ec eM zZ
 rcases Gm with⟨yM,r,hr0,dW,rfl⟩|⟨h0,aM,cM,aR,cR,rfl,-,-,-⟩
 ·have f1:(r != 0)=true:=by simpa using hr0
  have CL:=fun W=>qS r dW.1 (by have:=dW.2;omega) W
  have hz:=x9 r.toNat (by have:=dW.2;have:=dW.1;omega)
  rw[show((r.toNat:Nat):Int)=r by have:=dW.1;omega]at hz
  have pP:Hid (pr (yY q.r.s q.r.l q.r.g m us f)=false):=VA HVE.out yM
  obtain⟨J,hJ⟩: ∃J,J=zz r:=⟨_,rfl⟩
  rw[←hJ]at CL hz
  have s1:(3:Int)+(J.size:Int)≤9223372036854775807:=by omega
  have s2: ¬9223372036854775807<3+J.size:=by omega
  clear hJ yM hr0 dW j1 j2 Tk
  go_wp2_with fail
  refine(CL W2).mono ?_
  rintro e W3 ⟨rfl,yT⟩
  have xL:=bt zj yT
  have HF:Hid (PO (.returned (.string (R4++J))) W3):=by
   unfold Hid
   rw[xY.out]
   exact⟨_,rfl,.inr ⟨G3 J,pP.out⟩,xL⟩
  clear zj yT CL xL
  go_wp2
  exact HF.out
 have HY:Hid (yY q.r.s q.r.l q.r.g m us f=qF++(zz q.r.g++Ym++tQ us)):=Xe HVE.out h0
 have CL:=fun W=>qS q.r.g hg0 P6 W
 have hz:=x9 q.r.g.toNat (by omega)
 rw[show((q.r.g.toNat:Nat):Int)=q.r.g by omega]at hz
 have hts:=cd us
 obtain⟨J,hJ⟩: ∃J,J=zz q.r.g:=⟨_,rfl⟩
 obtain⟨T,hT⟩: ∃T,T=tQ us:=⟨_,rfl⟩
 rw[←hJ]at CL hz HY
 rw[←hT]at hts HY
 have HTT:Hid (tQ us=T):=hT.symm
 have HYY:Hid (((qF++J)++Ym)++T=qF++(J++Ym++T)):=by unfold Hid;simp[ByteArray.append_assoc]
 have s1: ¬9223372036854775807<4+J.size:=by omega
 have s2: ¬9223372036854775807<4+J.size+1:=by omega
 have s3: ¬9223372036854775807<4+J.size+1+T.size:=by omega
 clear hJ hT h0
 go_upto_region 4 with fail
 have zk:=zU W2
 have zX:=bt zj zk
 have DO:=zA5 zk j1
 have FT:=zA5 zk j2
 have mN:=Tk.below zk
 have KN:=zk.size
 clear j1 j2 Tk zk zj
 refine zS (fun W=>(W.heap[p1]? =some (q.blk))∧(W.heap[p2]? =some (.cells #[.slice am m.length cm,.slice au us.length cu,.bool f] 28))) (fun _=>false) (by kernel_rfl) ⟨DO,FT⟩ (fun hS=>?_)
 clear hS
 generalize W2.drew=LR at *
 refine zAB 0 ?_ rfl ?_ ⟨DO,FT⟩ ?_;rotate_left
 ·intro w zD;obtain⟨g1,g2⟩:=zD;obtain⟨y0,y1,y2,y3,y4,y5,y6⟩:=zI g1;obtain⟨z0,z1,z2⟩:=zQ g2;clear g1 g2;have s1:=s1;have s2:=s2;have s3:=s3;go_simp;rfl
 try simp only[tn]
 refine zAB 5 ?_ rfl ?_ ⟨DO,FT⟩ ?_;rotate_left
 ·intro w zD;obtain⟨g1,g2⟩:=zD;obtain⟨y0,y1,y2,y3,y4,y5,y6⟩:=zI g1;obtain⟨z0,z1,z2⟩:=zQ g2;clear g1 g2;have s1:=s1;have s2:=s2;have s3:=s3;go_simp;rfl
 try simp only[tn]
 refine zAB 1 ?_ rfl ?_ ⟨DO,FT⟩ ?_;rotate_left
 ·intro w zD;obtain⟨g1,g2⟩:=zD;obtain⟨y0,y1,y2,y3,y4,y5,y6⟩:=zI g1;obtain⟨z0,z1,z2⟩:=zQ g2;clear g1 g2;have s1:=s1;have s2:=s2;have s3:=s3;go_simp;rfl
 try simp only[tn]
 refine zAB 6 ?_ rfl ?_ ⟨DO,FT⟩ ?_;rotate_left
 ·intro w zD;obtain⟨g1,g2⟩:=zD;obtain⟨y0,y1,y2,y3,y4,y5,y6⟩:=zI g1;obtain⟨z0,z1,z2⟩:=zQ g2;clear g1 g2;have s1:=s1;have s2:=s2;have s3:=s3;go_simp;rfl
 try simp only[tn]
 refine zAC 2 rfl fun K hK=>?_
 have AR:=CL LR
 go_simp
 refine AR.mono ?_
 clear AR
 rintro e BM ⟨rfl,h⟩
 have fX:=bt zX h
 have NG:=zA5 h DO
 have M4:=zA5 h FT
 have Ek:=mN.below h
 have zO7:=h.size
 clear DO FT mN h zX
 refine hK _ _ (fun _=>⟨NG,M4⟩) ?_
 clear hK K
 try simp only[tn]
 refine zAB 3 ?_ rfl ?_ ⟨NG,M4⟩ ?_;rotate_left
 ·intro w zD;obtain⟨g1,g2⟩:=zD;obtain⟨y0,y1,y2,y3,y4,y5,y6⟩:=zI g1;obtain⟨z0,z1,z2⟩:=zQ g2;clear g1 g2;have s1:=s1;have s2:=s2;have s3:=s3;go_simp;rfl
 try simp only[tn]
 refine zAB 4 ?_ rfl ?_ ⟨NG,M4⟩ ?_;rotate_left
 ·intro w zD;obtain⟨g1,g2⟩:=zD;obtain⟨y0,y1,y2,y3,y4,y5,y6⟩:=zI g1;obtain⟨z0,z1,z2⟩:=zQ g2;clear g1 g2;have s1:=s1;have s2:=s2;have s3:=s3;go_simp;rfl
 try simp only[tn]
 refine zAC 7 rfl fun K hK=>?_
 have CR:=Wu au cu us BM Ek HUS.out
 rw[HTT.out]at CR
 go_simp
 refine CR.mono ?_
 clear CR
 rintro e Yr ⟨rfl,h⟩
 have Za:=bt fX h
 have DS:=zA5 h NG
 have Ev:=zA5 h M4
 have zTA:=Ek.below h
 have zOG:=h.size
 clear NG M4 Ek h fX
 refine hK _ _ (fun _=>⟨DS,Ev⟩) ?_
 clear hK K
 try simp only[tn]
 refine zAB 8 ?_ rfl ?_ ⟨DS,Ev⟩ ?_;rotate_left
 ·intro w zD;obtain⟨g1,g2⟩:=zD;obtain⟨y0,y1,y2,y3,y4,y5,y6⟩:=zI g1;obtain⟨z0,z1,z2⟩:=zQ g2;clear g1 g2;have s1:=s1;have s2:=s2;have s3:=s3;go_simp;rfl
 try simp only[tn]
 refine zAC 9 rfl fun K hK=>?_
 go_simp
 refine hK _ _ (fun _=>⟨DS,Ev⟩) ?_
 clear hK K
 try simp only[tn]
 refine zAE ?_
 have HF:Hid (PO (.returned (.string (((qF++J)++Ym)++T))) Yr):=by
  unfold Hid
  rw[xY.out]
  exact⟨_,rfl,.inl (by rw[HYY.out,HY.out]),Za⟩
 clear HY HYY
 go_wp2
 exact HF.out
def Z8(P:Nat→Prop)(n r:Rq)(w:World)(e:Ending)(w':World):Prop:=
 Below w.heap.size w w'∧((rA n.r r.r≠0∧e= .returned (.tuple #[yx,.int .i64 (rA n.r r.r)]))∨
  (rA n.r r.r=0∧∃q:Rq,e= .returned (.tuple #[q.val,.int .i64 0])∧q.r=uW n.r r.r∧q.HP P w'))
theorem rk{P:Nat→Prop}{w:World}:ym P w none []:=fun i hi=>absurd hi (Nat.not_lt_zero i)
theorem qa{P:Nat→Prop}{w:World}:tt P w none []:=fun i hi=>absurd hi (Nat.not_lt_zero i)
theorem p6(P:Nat→Prop)(n r:Rq)(w:World)(hP: ∀k,P k→k<w.heap.size)(hn:n.HP P w)(hr:r.HP P w)(en:n.r.err=0)(er:r.r.err=0):
  Calls Tryz.prog 150 #[n.val,r.val] w (Z8 P n r w):=by
 obtain⟨PO,xY⟩: ∃PP:Ending→World→Prop,Hid (PP=Z8 P n r w):=⟨_,rfl⟩
 rw[←xY.out]
 have HEN:Hid (n.r.err=0):=en
 have Lj:Hid (r.r.err=0):=er
 have HCN:Hid (zK n.r.s=0):=sC en
 have HCR:Hid (zK r.r.s=0):=sC er
 have HR:Hid (rA n.r r.r=if n.r.g<r.r.g then 4 else if vc r.r.s n.r.s≠0 then vc r.r.s n.r.s else tf r.r.s (yH n.r.s r.r.s)):=rfl
 obtain⟨k1,k2,k3,hB⟩:=xN w n.blk r.blk zo
 obtain⟨P',AJ⟩: ∃P':Nat→Prop,P'=fun k=>P k∨k=w.heap.size+2:=⟨_,rfl⟩
 have hPm: ∀k,k<w.heap.size→P' k→P k:=fun k hk q=>by
  rw[AJ]at q
  rcases q with q|q
  ·exact q
  ·omega
 have PQ:=(hn.more hPm).below hB
 have bg:=(hr.more hPm).below hB
 have HPl:Hid (∀k,P' k→k<(((w.alloc n.blk).alloc r.blk).alloc zo).heap.size):=fun k q=>by
  rw[AJ]at q
  have h3:=zG k3
  rcases q with q|q
  ·have:=hP k q;have:=hB.size;omega
  ·omega
 have HPR:Hid (∀k,¬P' k→k≠w.heap.size+2):=fun k q e=>q (by rw[AJ];exact .inr e)
 have D9:Hid (∀k,P k→P' k):=fun k q=>by rw[AJ];exact .inl q
 clear AJ hPm hn hr en er hP
 go_enter Tryz.func150,Tryz.ntmps150
 go_upto_region 1 with fail
 obtain⟨p1,qu⟩: ∃p,p=w.heap.size:=⟨_,rfl⟩
 obtain⟨p2,Y6⟩: ∃p,p=w.heap.size+1:=⟨_,rfl⟩
 obtain⟨R,hR⟩: ∃p,p=w.heap.size+2:=⟨_,rfl⟩
 rw[←qu]at k1
 rw[←Y6]at k2
 rw[←hR]at k3 HPR
 rw[←hR,←Y6,←qu]
 have UD:w.heap.size≤R:=by omega
 clear qu Y6 hR
 generalize ((w.alloc n.blk).alloc r.blk).alloc zo=W0 at *
 obtain⟨y0,y1,y2,y3,y4,y5,y6⟩:=zI k1
 obtain⟨x0,x1,x2,x3,x4,x5,x6⟩:=zI k2
 have vF:Hid (∀E,rA n.r r.r=E→E≠0→∀W',Below w.heap.size w W'→PO (.returned (.tuple #[yx,.int .i64 E])) W'):=fun E h1 h2 W' hb=>by
  rw[xY.out]
  exact⟨hb,.inl ⟨by rw[h1];exact h2,by rw[h1]⟩⟩
 by_cases hg:n.r.g<r.r.g
 case pos=>
  have HE:Hid (∀W',Below w.heap.size w W'→PO (.returned (.tuple #[yx,.int .i64 4])) W'):=vF.out 4 (by rw[HR.out,if_pos hg]) (by decide)
  have xQ:=y9 W0 R 36 (.slice none 0 0) (.slice none 0 0) (.int .i64 0) (.int .i64 0) (.slice none 0 0) (.slice none 0 0) (.bool false) k3
  obtain⟨o0,o1,o2,o3,o4,o5,o6⟩:=zI k3
  have pi:=zF (o:=0) k3
  have nG:=zF (o:=1) k3
  have pX:=zF (o:=2) k3
  have pc:=zF (o:=3) k3
  have pg:=zF (o:=4) k3
  have pp:=zF (o:=5) k3
  have nF:=zF (o:=6) k3
  obtain⟨i0,i1,i2,i3,i4,i5,i6⟩:=zI ((zA5 xQ k3))
  have HB:Hid (Below w.heap.size w _):=bt hB xQ
  clear k3 hB xQ
  go_wp2
  refine bodyPost_ret (v:=.tuple #[yx,.int .i64 4]) (by simp[results,Tryz.results150,go_sem,i0,i1,i2,i3,i4,i5,i6]) rfl ?_
  exact HE.out _ HB.out
 have HR1:Hid (rA n.r r.r=if vc r.r.s n.r.s≠0 then vc r.r.s n.r.s else tf r.r.s (yH n.r.s r.r.s)):=by unfold Hid;rw[HR.out,if_neg hg]
 have hc:=Xo P' n.aS n.cs n.r.s r.aS r.cs r.r.s W0 HPl.out PQ.hs bg.hs.plain HCN.out HCR.out
 clear HR
 go_wp2_with fail
 refine hc.mono ?_
 clear hc y0 y1 y2 y3 y4 y5 y6 x0 x1 x2 x3 x4 x5 x6
 rintro e W1 ⟨zM,Hd⟩
 have zT:=bt hB zM
 have j1:=zA5 zM k1
 have j2:=zA5 zM k2
 have j3:=zA5 zM k3
 have GT:=PQ.below zM
 have qZ:=bg.below zM
 have Ab:Hid (∀k,P' k→k<W1.heap.size):=fun k q=>by have:=HPl.out k q;have:=zM.size;omega
 clear k1 k2 k3 PQ bg HPl zM hB
 rcases Hd with⟨yM,rfl⟩|⟨h0,aM,cM,rfl,hM,KF⟩
 ·have HE:Hid (∀W',Below w.heap.size w W'→PO (.returned (.tuple #[yx, .int .i64 (vc r.r.s n.r.s)])) W'):=vF.out _ (by rw[HR1.out,if_pos yM]) yM
  have f1:(vc r.r.s n.r.s != 0)=true:=by simpa using yM
  clear yM vF HR1
  generalize vc r.r.s n.r.s=E at *
  have xQ:=y9 W1 R 36 (.slice none 0 0) (.slice none 0 0) (.int .i64 0) (.int .i64 0) (.slice none 0 0) (.slice none 0 0) (.bool false) j3
  obtain⟨o0,o1,o2,o3,o4,o5,o6⟩:=zI j3
  have pi:=zF (o:=0) j3
  have nG:=zF (o:=1) j3
  have pX:=zF (o:=2) j3
  have pc:=zF (o:=3) j3
  have pg:=zF (o:=4) j3
  have pp:=zF (o:=5) j3
  have nF:=zF (o:=6) j3
  obtain⟨i0,i1,i2,i3,i4,i5,i6⟩:=zI ((zA5 xQ j3))
  have HB:Hid (Below w.heap.size w _):=bt zT xQ
  clear j3 zT xQ
  go_wp2
  refine bodyPost_ret (v:=.tuple #[yx,.int .i64 E]) (by simp[results,Tryz.results150,go_sem,i0,i1,i2,i3,i4,i5,i6]) rfl ?_
  exact HE.out _ HB.out
 have PR:Hid (rA n.r r.r=tf r.r.s (yH n.r.s r.r.s)):=by unfold Hid;rw[HR1.out,if_neg (fun e=>e h0)]
 have hml:=th n.r.s r.r.s
 have h40:=(yF HCN.out).1
 have hc:=eh P' r.aS r.cs r.r.s aM cM (yH n.r.s r.r.s) W1 Ab.out qZ.hs hM (zh.1 HCR.out).2.2 (yF HCR.out).1 (by omega)
 obtain⟨x0,x1,x2,x3,x4,x5,x6⟩:=zI j2
 clear HR1 hM hml h40 h0 KF
 go_wp2_with fail
 refine hc.mono ?_
 clear hc x0 x1 x2 x3 x4 x5 x6
 rintro e W2 ⟨zZ,Gm⟩
 have zj:=bt zT zZ
 have w1:=zA5 zZ j1
 have w3:=zA5 zZ j3
 have XF:=GT.below zZ
 clear j1 j2 j3 GT qZ Ab zZ zT
 rcases Gm with⟨yM,rfl⟩|⟨h0,aW,cW,rfl,hW,hcW⟩
 ·have HE:Hid (∀W',Below w.heap.size w W'→PO (.returned (.tuple #[yx, .int .i64 (tf r.r.s (yH n.r.s r.r.s))])) W'):=vF.out _ PR.out yM
  have f1:(tf r.r.s (yH n.r.s r.r.s) != 0)=true:=by simpa using yM
  clear yM vF PR
  generalize tf r.r.s (yH n.r.s r.r.s)=E at *
  have xQ:=y9 W2 R 36 (.slice none 0 0) (.slice none 0 0) (.int .i64 0) (.int .i64 0) (.slice none 0 0) (.slice none 0 0) (.bool false) w3
  obtain⟨o0,o1,o2,o3,o4,o5,o6⟩:=zI w3
  have pi:=zF (o:=0) w3
  have nG:=zF (o:=1) w3
  have pX:=zF (o:=2) w3
  have pc:=zF (o:=3) w3
  have pg:=zF (o:=4) w3
  have pp:=zF (o:=5) w3
  have nF:=zF (o:=6) w3
  obtain⟨i0,i1,i2,i3,i4,i5,i6⟩:=zI ((zA5 xQ w3))
  have HB:Hid (Below w.heap.size w _):=bt zj xQ
  clear w3 zj xQ
  go_wp2
  refine bodyPost_ret (v:=.tuple #[yx,.int .i64 E]) (by simp[results,Tryz.results150,go_sem,i0,i1,i2,i3,i4,i5,i6]) rfl ?_
  exact HE.out _ HB.out
 have G1:Hid (rA n.r r.r=0):=PR.out.trans h0
 obtain⟨S,hS⟩: ∃S,S=zH r.r.s (yH n.r.s r.r.s):=⟨_,rfl⟩
 rw[←hS]at hW hcW⊢
 have HS:Hid (S=zH r.r.s (yH n.r.s r.r.s)):=hS
 have Le:S.length≤80:=by
  have h1:=vi (yH n.r.s r.r.s) r.r.s
  have h2:=th n.r.s r.r.s
  have h3:=(yF HCN.out).1
  have h4:=(yF HCR.out).1
  rw[hS];omega
 obtain⟨s1,s2,s3⟩:=yQ W2 R 36 (.slice aW S.length cW) (.slice n.al n.r.l.length n.cl) (.int .i64 n.r.g) (.int .i64 0) (.slice none 0 0) (.slice none 0 0) (.bool false) w3
 have hq:(⟨⟨S,n.r.l,n.r.g,0,[],[],false⟩,aW,cW,n.al,n.cl,none,0,none,0⟩:Rq).HP P' W2:=⟨hW,XF.hl,rk,qa,by show S.length≤_;omega,XF.nl,Nat.zero_le _,Nat.zero_le _,hcW⟩
 have HF:Hid (PO (.returned (.tuple #[(⟨⟨S,n.r.l,n.r.g,0,[],[],false⟩,aW,cW,n.al,n.cl,none,0,none,0⟩:Rq).val,.int .i64 0])) (((((((W2.setCell ⟨R,0,none⟩ (.slice aW S.length cW)).setCell ⟨R,1,none⟩ (.slice n.al n.r.l.length n.cl)).setCell ⟨R,2,none⟩ (.int .i64 n.r.g)).setCell ⟨R,3,none⟩ (.int .i64 0)).setCell ⟨R,4,none⟩ (.slice none 0 0)).setCell ⟨R,5,none⟩ (.slice none 0 0)).setCell ⟨R,6,none⟩ (.bool false))):=by
  unfold Hid
  rw[xY.out]
  refine⟨zj.trans (s2.mono (by omega)),.inr ⟨G1.out,_,rfl,by rw[HS.out];rfl,?_⟩⟩
  exact(hq.put ⟨s2.size,fun k _ hk=>s3 k (HPR.out k hk)⟩).more (fun k _ q=>D9.out k q)
 obtain⟨y0,y1,y2,y3,y4,y5,y6⟩:=zI w1
 obtain⟨o0,o1,o2,o3,o4,o5,o6⟩:=zI w3
 have pi:=zF (o:=0) w3
 have nG:=zF (o:=1) w3
 have pX:=zF (o:=2) w3
 have pc:=zF (o:=3) w3
 have pg:=zF (o:=4) w3
 have pp:=zF (o:=5) w3
 have nF:=zF (o:=6) w3
 obtain⟨i0,i1',i2,i3',i4,i5,i6⟩:=zI s1
 clear hW hS hq s1 s2 s3 w1 w3 XF zj vF PR h0 hcW
 go_wp2
 refine bodyPost_ret (v:=.tuple #[(⟨⟨S,n.r.l,n.r.g,0,[],[],false⟩,aW,cW,n.al,n.cl,none,0,none,0⟩:Rq).val,.int .i64 0]) (by simp[results,Tryz.results150,go_sem,i0,i1',i2,i3',i4,i5,i6]) rfl ?_
 exact HF.out
theorem MK(A:List Rq): ∀v∈tb A,v.oneCell'=true:=by
 induction A with
 |nil=>intro v hv;cases hv
 |cons q A ih=>
  intro v hv
  rcases List.mem_append.1 hv with h|h
  ·simp only[Rq.cells,List.mem_cons,List.not_mem_nil,or_false]at h
   rcases h with rfl|rfl|rfl|rfl|rfl|rfl|rfl<;>rfl
  ·exact ih v h
theorem JR{w:World}{b off:Nat}{l:List Rq}(h:zy w (some ⟨b,off,none⟩) l): ∀j u,(tb l)[j]? =some u→w.cell? ((⟨b,off,none⟩:Addr).add j)=some u:=fun j u hj=>by
 have vd:(⟨b,off,none⟩:Addr).add j=⟨b,off+j,none⟩:=by unfold Addr.add;split<;>simp_all
 rw[vd]
 have hl:j<l.length*7:=by
  rcases Nat.lt_or_ge j (l.length*7)with c|c
  ·exact c
  ·rw[List.getElem?_eq_none (by rw[qR];exact c)]at hj;cases hj
 obtain⟨q,i,hi,rfl⟩: ∃q i,i<7∧j=q*7+i:=⟨j/7,j%7,by omega,by omega⟩
 have hq:q<l.length:=by omega
 rw[pK _ _ _ hq hi]at hj
 obtain⟨x0,x1,x2,x3,x4,x5,x6⟩:=(h.at hq).1
 rw[show off+(q*7+i)=off+q*7+i by omega]
 match i,hi with
 |0,_=>exact x0.trans hj
 |1,_=>exact x1.trans hj
 |2,_=>exact x2.trans hj
 |3,_=>exact x3.trans hj
 |4,_=>exact x4.trans hj
 |5,_=>exact x5.trans hj
 |6,_=>exact x6.trans hj
theorem WS(w:World)(a:Option Addr)(c:Nat)(l:List Rq)(h:zy w a l)(h0:0<l.length)(hl:l.length≤1000):
  ∃B cap w',(Builtin.append_ #[22,22] 22 #[.slice (some ⟨w.heap.size,0,none⟩) 0 0,.slice a l.length c]).run Tryz.prog (w.alloc (.cells #[] 36))= .ok (.slice (some ⟨B,0,none⟩) l.length cap) w'∧w'.ownsRow w.heap.size 36 7 (.slice (some ⟨B,0,none⟩) l.length cap) l.length (tb l)∧Below w.heap.size w w':=by
 obtain⟨i0,sN,sW,xQ,pS⟩:=info_parts Tryz.info36
 have sP:=zB w (.cells #[] 36)
 have o0:(w.alloc (.cells #[] 36)).ownsRow w.heap.size 36 7 (.slice (some ⟨w.heap.size,0,none⟩) 0 0) 0 []:=World.ownsRow_made w #[] 0 (Nat.le_refl _) (by unfold maxLen;omega) rfl
 obtain⟨b,off,rfl⟩:=h.some h0
 obtain⟨v',w',hr,q1,q2,_⟩:=run_append_own (P:=Tryz.prog) (w.alloc (.cells #[] 36)) w.heap.size 22 22 36 i0 _ 7 120 Tryz.underlying22 sN sW xQ pS rfl (by omega) _ 0 [] o0 ⟨b,off,none⟩ l.length c (tb l) (by rw[qR]) (JR (h.below sP)) (MK l) (by unfold maxLen;omega) (by omega) sP.size
 rw[Nat.zero_add,List.nil_append]at q1
 have zM:=sP.trans (uj o0 q2 sP.size)
 obtain⟨g,cap,rfl⟩:=cr q1 h0
 exact⟨g,cap,w',hr,q1,zM⟩
def U8(cur:Array Value)(o:Nat)(v0 v1 v2 v3 v4 v5 v6:Value):Array Value:=((((((cur.setIfInBounds o v0).setIfInBounds (o+1) v1).setIfInBounds (o+2) v2).setIfInBounds (o+3) v3).setIfInBounds (o+4) v4).setIfInBounds (o+5) v5).setIfInBounds (o+6) v6
theorem Q9(cur:Array Value)(o:Nat)(v0 v1 v2 v3 v4 v5 v6:Value):(U8 cur o v0 v1 v2 v3 v4 v5 v6).size=cur.size:=by simp[U8]
theorem K6{cur:Array Value}{o k:Nat}{v0 v1 v2 v3 v4 v5 v6:Value}(hs:o+7≤cur.size):(U8 cur o v0 v1 v2 v3 v4 v5 v6)[k]? =if o≤k∧k<o+7 then [v0,v1,v2,v3,v4,v5,v6][k-o]? else cur[k]?:=by
 unfold U8
 simp only[Array.getElem?_setIfInBounds,Array.size_setIfInBounds]
 by_cases h6:o+6=k
 ·subst h6;rw[if_pos rfl,if_pos (by omega),if_pos (by omega)];simp
 rw[if_neg h6]
 by_cases h5:o+5=k
 ·subst h5;rw[if_pos rfl,if_pos (by omega),if_pos (by omega)];simp
 rw[if_neg h5]
 by_cases h4:o+4=k
 ·subst h4;rw[if_pos rfl,if_pos (by omega),if_pos (by omega)];simp
 rw[if_neg h4]
 by_cases h3:o+3=k
 ·subst h3;rw[if_pos rfl,if_pos (by omega),if_pos (by omega)];simp
 rw[if_neg h3]
 by_cases h2:o+2=k
 ·subst h2;rw[if_pos rfl,if_pos (by omega),if_pos (by omega)];simp
 rw[if_neg h2]
 by_cases h1:o+1=k
 ·subst h1;rw[if_pos rfl,if_pos (by omega),if_pos (by omega)];simp
 rw[if_neg h1]
 by_cases h0:o=k
 ·subst h0;rw[if_pos rfl,if_pos (by omega),if_pos (by omega)];simp
 rw[if_neg h0,if_neg (by omega)]
theorem Nq{cur:Array Value}{qs:List Rq}{i:Nat}(x:Rq)(ht:cur.toList.take (qs.length*7)=tb qs)(hs:qs.length*7≤cur.size)(hi:i<qs.length):
  (U8 cur (i*7) (.slice x.aS x.r.s.length x.cs) (.slice x.al x.r.l.length x.cl) (.int .i64 x.r.g) (.int .i64 x.r.ph) (.slice x.a1 x.r.m.length x.c1) (.slice x.a2 x.r.us.length x.c2) (.bool x.r.f)).toList.take (qs.length*7)=tb (qs.set i x):=by
 have hlen:(qs.set i x).length=qs.length:=List.length_set
 apply List.ext_getElem?
 intro k
 by_cases hk:k<qs.length*7
 ·obtain⟨q,j,hj,rfl⟩: ∃q j,j<7∧k=q*7+j:=⟨k/7,k%7,by omega,by omega⟩
  have hq:q<qs.length:=by omega
  rw[List.getElem?_take,if_pos hk,pK _ _ _ (by rw[hlen];exact hq) hj,List.getElem_set,Array.getElem?_toList,K6 (by omega)]
  by_cases TS:i=q
  ·subst TS
   rw[if_pos (by omega),if_pos rfl]
   have:i*7+j-i*7=j:=by omega
   rw[this];rfl
  ·rw[if_neg (by omega),if_neg TS,←pK _ _ _ hq hj,←ht,List.getElem?_take,if_pos hk,Array.getElem?_toList]
 ·rw[List.getElem?_eq_none (by rw[List.length_take];omega),List.getElem?_eq_none (by rw[qR,hlen];omega)]
abbrev T5(W:World)(g o:Nat)(v0 v1 v2 v3 v4 v5 v6:Value):World:=((((((W.setCell ⟨g,o,none⟩ v0).setCell ⟨g,o+1,none⟩ v1).setCell ⟨g,o+2,none⟩ v2).setCell ⟨g,o+3,none⟩ v3).setCell ⟨g,o+4,none⟩ v4).setCell ⟨g,o+5,none⟩ v5).setCell ⟨g,o+6,none⟩ v6
theorem RX{W:World}{g o:Nat}{cur:Array Value}{t:TypeId}(v0 v1 v2 v3 v4 v5 v6:Value)(h:W.heap[g]? =some (.cells cur t)):(T5 W g o v0 v1 v2 v3 v4 v5 v6).heap[g]? =some (.cells (U8 cur o v0 v1 v2 v3 v4 v5 v6) t):=by
 unfold U8
 exact heap_setCell_same _ _ _ _ _ _ (heap_setCell_same _ _ _ _ _ _ (heap_setCell_same _ _ _ _ _ _ (heap_setCell_same _ _ _ _ _ _ (heap_setCell_same _ _ _ _ _ _ (heap_setCell_same _ _ _ _ _ _ (heap_setCell_same _ _ _ _ _ _ h))))))
theorem Yf{W:World}{base g cap n i:Nat}{qs:List Rq}(x:Rq)(hi:i<qs.length)(h:W.ownsRow base 36 7 (.slice (some ⟨g,0,none⟩) n cap) qs.length (tb qs)):
  (T5 W g (i*7) (.slice x.aS x.r.s.length x.cs) (.slice x.al x.r.l.length x.cl) (.int .i64 x.r.g) (.int .i64 x.r.ph) (.slice x.a1 x.r.m.length x.c1) (.slice x.a2 x.r.us.length x.c2) (.bool x.r.f)).ownsRow base 36 7 (.slice (some ⟨g,0,none⟩) n cap) (qs.set i x).length (tb (qs.set i x))∧
  (∀k,k≠g→(T5 W g (i*7) (.slice x.aS x.r.s.length x.cs) (.slice x.al x.r.l.length x.cl) (.int .i64 x.r.g) (.int .i64 x.r.ph) (.slice x.a1 x.r.m.length x.c1) (.slice x.a2 x.r.us.length x.c2) (.bool x.r.f)).heap[k]? =W.heap[k]?)∧
  ∀w,Below base w W→Below base w (T5 W g (i*7) (.slice x.aS x.r.s.length x.cs) (.slice x.al x.r.l.length x.cl) (.int .i64 x.r.g) (.int .i64 x.r.ph) (.slice x.a1 x.r.m.length x.c1) (.slice x.a2 x.r.us.length x.c2) (.bool x.r.f)):=by
 obtain⟨_,⟨e,_⟩|⟨g',ux,cur,e,hb,hg,hn,hc,hs,ht⟩⟩:=h
 ·cases e
 cases e
 refine⟨?_,fun k hk=>?_,fun w hw=>((((((hw.setCell hb _).setCell hb _).setCell hb _).setCell hb _).setCell hb _).setCell hb _).setCell hb _⟩
 ·have k1:=RX (o:=i*7) (.slice x.aS x.r.s.length x.cs) (.slice x.al x.r.l.length x.cl) (.int .i64 x.r.g) (.int .i64 x.r.ph) (.slice x.a1 x.r.m.length x.c1) (.slice x.a2 x.r.us.length x.c2) (.bool x.r.f) hg
  have hl:(qs.set i x).length=qs.length:=List.length_set
  have t1:=Nq x ht (by omega) hi
  refine⟨qR _,.inr ⟨g,cap,_,by rw[hl],hb,k1,by rw[hl];exact hn,hc,(Q9 _ _ _ _ _ _ _ _ _).trans hs,?_⟩⟩
  rw[hl];exact t1
 ·exact(heap_setCell_other _ _ _ _ hk).trans ((heap_setCell_other _ _ _ _ hk).trans ((heap_setCell_other _ _ _ _ hk).trans ((heap_setCell_other _ _ _ _ hk).trans ((heap_setCell_other _ _ _ _ hk).trans ((heap_setCell_other _ _ _ _ hk).trans (heap_setCell_other _ _ _ _ hk))))))
theorem qG{P:Nat→Prop}{w:World}{base g n cap:Nat}{qs:List Rq}(h:w.ownsRow base 36 7 (.slice (some ⟨g,0,none⟩) n cap) qs.length (tb qs))(hp: ∀k,P k→k<base)(hh: ∀q∈qs,q.HP P w):
  xO P w (some ⟨g,0,none⟩) qs∧qs.length≤cap∧cap≤9223372036854775807∧base≤g∧∃cur,w.heap[g]? =some (.cells cur 36):=by
 obtain⟨_,⟨e,_⟩|⟨g',ux,cur,e,hb,hg,hn,hc,hs,ht⟩⟩:=h
 ·cases e
 cases e
 refine⟨fun i hi=>⟨g,0,rfl,zG hg,fun q=>by have:=hp g q;omega,fun k hk=>⟨?_,hh _ (List.getElem_mem hk)⟩⟩,hn,by unfold maxLen at hc;omega,hb,cur,hg⟩
 have xf: ∀j,j<7→w.cell? ⟨g,0+k*7+j,none⟩=(qs[k].cells)[j]?:=fun j hj=>by
  rw[Nat.zero_add,cell_of_row w g _ _ _ _ hg,←pK qs k j hk hj,←ht,List.getElem?_take,if_pos (by omega)]
  simp
 exact⟨xf 0 (by omega),xf 1 (by omega),xf 2 (by omega),xf 3 (by omega),xf 4 (by omega),xf 5 (by omega),xf 6 (by omega)⟩
end Go.Proofs.YtehmlpkapjdhkaaGreatDoor
