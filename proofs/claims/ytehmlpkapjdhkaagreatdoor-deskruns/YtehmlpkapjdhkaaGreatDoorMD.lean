import Derived.Test.YtehmlpkapjdhkaaGreatDoorMA
namespace Go.Proofs.YtehmlpkapjdhkaaGreatDoor
set_option maxHeartbeats 16000000
open Go.RowKit
set_option maxRecDepth 100000
structure Ob where
 id:Int
 kind:Int
 links:List Int
 text:ByteArray
abbrev Ob.val(x:Ob)(sa:Option Addr)(sc:Nat):Value:=.agg #[.int .i64 x.id,.int .i64 x.kind,.slice sa x.links.length sc,.string x.text]
def Rt(w:World)(b o:Nat)(x:Ob):Prop:=
 ∃sa sc,w.cell? ⟨b,o,none⟩=some (.int .i64 x.id)∧w.cell? ⟨b,o+1,none⟩=some (.int .i64 x.kind)∧w.cell? ⟨b,o+2,none⟩=some (.slice sa x.links.length sc)∧w.cell? ⟨b,o+3,none⟩=some (.string x.text)∧yD w sa x.links∧x.links.length≤9223372036854775807
def zP(w:World)(a:Option Addr)(l:List Ob):Prop:=
 ∀i,i<l.length→∃b off,a=some ⟨b,off,none⟩∧b<w.heap.size∧∀i (h:i<l.length),Rt w b (off+i*4) l[i]
theorem Rt.below{w w':World}{b o:Nat}{x:Ob}(h:Rt w b o x)(hb:Below w.heap.size w w')(zN:b<w.heap.size):Rt w' b o x:=by
 obtain⟨sa,sc,h0,h1,h2,h3,h4,h5⟩:=h
 exact⟨sa,sc,(hb.cell (p:=⟨b,o,none⟩) zN).trans h0,(hb.cell (p:=⟨b,o+1,none⟩) zN).trans h1,(hb.cell (p:=⟨b,o+2,none⟩) zN).trans h2,(hb.cell (p:=⟨b,o+3,none⟩) zN).trans h3,h4.below hb,h5⟩
theorem zP.below{w w':World}{a:Option Addr}{l:List Ob}(h:zP w a l)(hb:Below w.heap.size w w'):zP w' a l:=by
 intro i hi
 obtain⟨b,off,e,zN,hc⟩:=h i hi
 exact⟨b,off,e,Nat.lt_of_lt_of_le zN hb.size,fun j hj=>(hc j hj).below hb zN⟩
theorem Uj(x:Ob)(sa:Option Addr)(sc:Nat)(id:Int)(p:Nat)(w:World)(hp:w.cell? ⟨p,0,none⟩=some (.int .i64 id))(zN:p<w.heap.size):
  Calls Tryz.prog 140 #[x.val sa sc,.pointer (some ⟨p,0,none⟩)] w fun e w'=>e= .returned (.bool (x.id==id))∧Below w.heap.size w w':=by
 go_enter Tryz.func140,Tryz.ntmps140
 go_wp2
 go_ret
 exact⟨rfl,zB _ _⟩
def zW(l:List Ob)(id:Int):Int:=match l.findIdx? (fun x=>x.id==id)with|some i=>(i:Int)|none=>-1
theorem sg{l:List Ob}{id:Int}{k:Nat}(hk:k<l.length)(pQ: ∀j (h:j<l.length),j<k→(l[j].id==id)=false)(h:(l[k].id==id)=true):zW l id=k:=by
 have:l.findIdx? (fun x=>x.id==id)=some k:=by
  rw[List.findIdx?_eq_some_iff_getElem]
  exact⟨hk,h,fun j hj=>by simpa using pQ j (by omega) hj⟩
 simp[zW,this]
theorem pm{l:List Ob}{id:Int}(pQ: ∀j (h:j<l.length),(l[j].id==id)=false):zW l id= -1:=by
 have:l.findIdx? (fun x=>x.id==id)=none:=by
  rw[List.findIdx?_eq_none_iff]
  intro x hx
  obtain⟨j,hj,rfl⟩:=List.getElem_of_mem hx
  exact pQ j hj
 simp[zW,this]
theorem aJ(a:Option Addr)(c:Nat)(l:List Ob)(id:Int)(p:Nat)(w:World)(h:zP w a l)(hl:l.length≤9223372036854775807)(hp:w.cell? ⟨p,0,none⟩=some (.int .i64 id))(zN:p<w.heap.size):
  Calls Tryz.prog 139 #[.slice a l.length c,.func (.func 140) #[] #[.pointer (some ⟨p,0,none⟩)]] w fun e w'=>e= .returned (.int .i64 (zW l id))∧Below w.heap.size w w':=by
 go_enter Tryz.func139,Tryz.ntmps139
 go_wp2
 go_loopw [8] (fun i wr=>∃k:Nat,i= .int .i64 k∧k≤l.length∧Below w.heap.size w wr∧Hid (∀j (hj:j<l.length),j<k→(l[j].id==id)=false)) (fun i _=>l.length-(intOf i).toNat)
 case atStart=>exact⟨0,rfl,Nat.zero_le _,Below.refl _ _,fun j _ h=>absurd h (Nat.not_lt_zero j)⟩
 case round=>
  obtain⟨k,rfl,hk,hB,H⟩:=hrel
  by_cases xl:k<l.length
  ·obtain⟨b,off,rfl,hb,hc⟩:=(h.below hB) k xl
   obtain⟨sa,sc,x0,x1,x2,x3,x4,x5⟩:=hc k xl
   have mP:wr.cell? ⟨p,0,none⟩=some (.int .i64 id):=(hB.cell (p:=⟨p,0,none⟩) zN).trans hp
   clear hc
   go_wp2_with fail
   refine(Uj l[k] sa sc id p _ mP (Nat.lt_of_lt_of_le zN hB.size)).mono ?_
   rintro e w1 ⟨rfl,zM⟩
   have zT:=bt hB zM
   clear zM x0 x1 x2 x3 x4 mP
   by_cases hq:(l[k].id==id)=true
   ·have HR:Hid (zW l id=k):=sg xl H.out hq
    rw[hq]
    clear hq
    go_wp2
    go_ret
    exact⟨zE HR.out.symm,zT⟩
   ·have rU:(l[k].id==id)=false:=by simpa using hq
    have HN:Hid (∀j (hj:j<l.length),j<k+1→(l[j].id==id)=false):=fun j hj hjk=>by
     rcases Nat.lt_or_ge j k with h1|h1
     ·exact H.out j hj h1
     ·have:j=k:=by omega
      subst this
      exact rU
    rw[rU]
    clear hq rU
    go_wp2
    go_roundw
    case rel=>exact⟨k+1,by go_num,by omega,zT,HN⟩
    case measure=>simp[intOf];omega
  ·have HR:Hid (zW l id= -1):=pm (fun j hj=>H.out j hj (by omega))
   go_wp2
   go_ret
   exact⟨zE HR.out.symm,hB⟩
theorem qw(a:Option Addr)(c:Nat)(l:List Ob)(id:Int)(w:World)(h:zP w a l)(hl:l.length≤9223372036854775807):
  Calls Tryz.prog 81 #[.slice a l.length c,.int .i64 id] w fun e w'=>e= .returned (.int .i64 (zW l id))∧Below w.heap.size w w':=by
 have Uk: ∀(fn:Fn) (first cap:Array Value) (w:World),(Instr.makeFunc fn first cap).run Tryz.prog w= .ok (.func fn first cap) w:=fun _ _ _ _=>rfl
 have hp:(w.alloc (.cells #[.int .i64 id] 3)).cell? ⟨w.heap.size,0,none⟩=some (.int .i64 id):=by rw[World.cell?_alloc_at _ _ _ _ rfl];rfl
 go_enter Tryz.func81,Tryz.ntmps81
 go_wp2_with fail
 refine(aJ a c l id w.heap.size _ (h.below (zB _ _)) hl hp (by simp)).mono ?_
 rintro e w1 ⟨rfl,hb⟩
 have hB:=(zB _ _).trans (hb.mono (by simp))
 go_wp2
 go_ret
 exact⟨rfl,hB⟩
def gn(kind:Int)(i:Int)(toQ:Int):Bool:=
 if kind=2 then(toQ==1||toQ==2)else if kind=3∧i=0 then toQ==2 else if kind=3 then toQ==3 else false
theorem fI(kind i toQ:Int)(w:World):
  Calls Tryz.prog 192 #[.int .i64 kind,.int .i64 i,.int .i64 toQ] w fun e w'=>e= .returned (.bool (gn kind i toQ))∧w'=w:=by
 go_enter Tryz.func192,Tryz.ntmps192
 go_wp2
 all_goals go_ret
 all_goals refine⟨yI ?_,rfl⟩
 all_goals simp_all [gn]
def tJ(l:List Ob)(x:Int):Int:=match l[(zW l x).toNat]? with|some o=>o.kind|none=>0
def vZ(l:List Ob)(kind:Int):Nat→List Int→Int
 |_,[]=>0
 |i,x::xs=>if zW l x<0 then 5 else if gn kind i (tJ l x)=false then 7 else vZ l kind (i+1) xs
theorem xG(l:List Ob)(x:Int):zW l x= -1∨∃i:Nat,zW l x=i∧i<l.length:=by
 unfold zW
 cases h:l.findIdx? (fun o=>o.id==x)with
 |none=>exact Or.inl rfl
 |some i=>
  right
  rw[List.findIdx?_eq_some_iff_getElem]at h
  obtain⟨hi,_⟩:=h
  exact⟨i,rfl,hi⟩
theorem Kv{l:List Ob}{kind:Int}{L:List Int}{k:Nat}{r:Int}(zN:k<L.length)(H:r=vZ l kind k (L.drop k))(h:zW l L[k]<0):r=5:=by
 rw[H,qW zN,vZ,if_pos h]
theorem KG{l:List Ob}{kind:Int}{L:List Int}{k:Nat}{r:Int}(zN:k<L.length)(H:r=vZ l kind k (L.drop k))(h: ¬zW l L[k]<0)(h2:gn kind k (tJ l L[k])=false):r=7:=by
 rw[H,qW zN,vZ,if_neg h,if_pos h2]
theorem Lx{l:List Ob}{kind:Int}{L:List Int}{k:Nat}{r:Int}(zN:k<L.length)(H:r=vZ l kind k (L.drop k))(h: ¬zW l L[k]<0)(h2:gn kind k (tJ l L[k])=true):r=vZ l kind (k+1) (L.drop (k+1)):=by
 rw[H,qW zN,vZ,if_neg h,if_neg (by simp[h2])]
theorem FF{l:List Ob}{kind:Int}{L:List Int}{k:Nat}{r:Int}(zN: ¬k<L.length)(H:r=vZ l kind k (L.drop k)):r=0:=by
 rw[H,List.drop_of_length_le (by omega)];rfl
theorem eH(a:Option Addr)(c:Nat)(l:List Ob)(x:Ob)(sa:Option Addr)(sc:Nat)(w:World)(h:zP w a l)(hl:l.length≤9223372036854775807)(hx:yD w sa x.links)(Vg:x.links.length≤9223372036854775807):
  Calls Tryz.prog 138 #[.slice a l.length c,x.val sa sc] w fun e w'=>e= .returned (.int .i64 (vZ l x.kind 0 x.links))∧Below w.heap.size w w':=by
 have C:=xH.new w (.int .i64 x.id) (.int .i64 x.kind) (.slice sa x.links.length sc) (.string x.text) 58
 have Vo:=zB w (.cells #[.int .i64 x.id,.int .i64 x.kind,.slice sa x.links.length sc,.string x.text] 58)
 go_enter Tryz.func138,Tryz.ntmps138
 go_wp2
 generalize w.alloc (.cells #[.int .i64 x.id,.int .i64 x.kind,.slice sa x.links.length sc,.string x.text] 58)=W at *
 go_loopw [11] (fun i wr=>∃k:Nat,i= .int .i64 k∧k≤x.links.length∧Below W.heap.size W wr∧Hid (vZ l x.kind 0 x.links=vZ l x.kind k (x.links.drop k))) (fun i _=>x.links.length-(intOf i).toNat)
 case atStart=>exact⟨0,rfl,Nat.zero_le _,Below.refl _ _,rfl⟩
 case round=>
  obtain⟨k,rfl,hk,hB,H⟩:=hrel
  have qM:=bt Vo hB
  by_cases zN:k<x.links.length
  ·obtain⟨b1,o1,rfl,zM,bV⟩:=(hx.below qM) k zN
   have xa:wr.cell? ⟨b1,o1+k,none⟩=some (.int .i64 x.links[k]):=by have:=bV k zN;simpa[zN]using this
   clear bV
   go_wp2_with fail
   refine(qw a c l x.links[k] _ (h.below qM) hl).mono ?_
   rintro e w1 ⟨rfl,hb⟩
   have zT:=bt hB hb
   have kJ:=bt qM hb
   have q1:w1.cell? ⟨w.heap.size,1,none⟩=some (.int .i64 x.kind):=(zT.cell (p:=⟨w.heap.size,1,none⟩) C.lt).trans C.c1
   clear hb xa zM
   rcases xG l x.links[k]with hp|⟨i,hp,hi⟩
   ·have HR:Hid (vZ l x.kind 0 x.links=5):=Kv zN H.out (by omega)
    rw[hp]
    clear hp
    go_wp2
    go_ret
    exact⟨zE HR.out.symm,kJ⟩
   ·have HP:Hid (zW l x.links[k]=i):=hp
    obtain⟨b2,o2,rfl,zZ,nT⟩:=(h.below kJ) i hi
    obtain⟨ta,tc,y0,y1,y2,y3,y4,y5⟩:=nT i hi
    have hka:tJ l x.links[k]=l[i].kind:=by unfold tJ;rw[hp];simp[hi]
    have HK:Hid (tJ l x.links[k]=l[i].kind):=hka
    have Y5:(i:Int)<(l.length:Int):=by omega
    rw[hp]
    clear hp nT hka
    by_cases hm:gn x.kind k l[i].kind=true
    ·have HN:Hid (vZ l x.kind 0 x.links=vZ l x.kind (k+1) (x.links.drop (k+1))):=Lx zN H.out (by have:=HP.out;omega) (by rw[HK.out];exact hm)
     go_wp2
     go_quiet ((go_at_call 192;exact Calls.quiet_of_same (fI _ _ _ _)))
     go_wp2
     go_roundw
     case rel=>exact⟨k+1,by go_num,by omega,yB zT _,HN⟩
     case measure=>simp[intOf];omega
    ·have LT:gn x.kind k l[i].kind=false:=by simpa using hm
     have HR:Hid (vZ l x.kind 0 x.links=7):=KG zN H.out (by have:=HP.out;omega) (by rw[HK.out];exact LT)
     clear hm
     go_wp2
     go_quiet ((go_at_call 192;exact Calls.quiet_of_same (fI _ _ _ _)))
     go_wp2
     go_ret
     exact⟨zE HR.out.symm,yB kJ _⟩
  ·have HR:Hid (vZ l x.kind 0 x.links=0):=FF zN H.out
   go_wp2
   go_ret
   exact⟨zE HR.out.symm,qM⟩
abbrev Ob.err(x:Ob):Int:=xC x.id x.kind x.links x.text.size
def rO(l:List Ob)(last:Int)(x:Ob):Int:=if x.err≠0 then x.err else if x.id≤last then 4 else vZ l x.kind 0 x.links
def sQ(x:Ob)(last:Int):Int:=if x.err=0∧last<x.id then x.id else last
def vn(l:List Ob):Int→List Ob→Int
 |_,[]=>0
 |last,x::xs=>if rO l last x≠0 then rO l last x else vn l x.id xs
def zK(l:List Ob):Int:=if 40<l.length then 2 else vn l 0 l
theorem vL.cell{p:Nat}{w w':World}(h:vL p none w w'){q o:Nat}(hq:q<w.heap.size)(yM:q≠p):w'.cell? ⟨q,o,none⟩=w.cell? ⟨q,o,none⟩:=
 World.cell?_of_block (a:=⟨q,o,none⟩) (h.block q hq yM (by simp))
theorem vL.of_below{p:Nat}{w w':World}(h:Below w.heap.size w w'):vL p none w w':=⟨h.os,h.tape,h.output,h.size,fun k hk _ _=>h.block k hk⟩
theorem TL(a:Option Addr)(c:Nat)(l:List Ob)(x:Ob)(sa:Option Addr)(sc:Nat)(last:Int)(p q:Nat)(w0 w:World)
  (h:zP w0 a l) (hl:l.length≤9223372036854775807) (hx:yD w0 sa x.links) (Vg:x.links.length≤9223372036854775807) (hB:Below w0.heap.size w0 w)
  (ka:w0.heap.size≤p) (hp:p<w.heap.size) (Vl:w.cell? ⟨p,0,none⟩=some (.int .i64 last)) (hpf:w.frozen? ⟨p,0,none⟩=false)
  (hq:q<w.heap.size) (TK:q≠p) (EK:w.cell? ⟨q,0,none⟩=some (.slice a l.length c)):
  Calls Tryz.prog 137 #[x.val sa sc,.pointer (some ⟨p,0,none⟩),.pointer (some ⟨q,0,none⟩)] w fun e w'=>e= .returned (.int .i64 (rO l last x))∧vL p none w w'∧w'.frozen? ⟨p,0,none⟩=false∧
   w'.cell? ⟨p,0,none⟩=some (.int .i64 (sQ x last)):=by
 have C:=xH.new w (.int .i64 x.id) (.int .i64 x.kind) (.slice sa x.links.length sc) (.string x.text) 58
 have Vo:=zB w (.cells #[.int .i64 x.id,.int .i64 x.kind,.slice sa x.links.length sc,.string x.text] 58)
 go_enter Tryz.func137,Tryz.ntmps137
 go_wp2_with fail
 generalize w.alloc (.cells #[.int .i64 x.id,.int .i64 x.kind,.slice sa x.links.length sc,.string x.text] 58)=W at *
 refine(mS x.id x.kind sa sc x.links x.text _ (hx.below ((bt hB Vo))) Vg).mono ?_
 rintro e w1 ⟨rfl,zM⟩
 have ue:vL p none w w1:=vL.of_below ((bt Vo zM))
 have qu:w1.cell? ⟨p,0,none⟩=some (.int .i64 last):=(zM.cell (p:=⟨p,0,none⟩) (Nat.lt_of_lt_of_le hp Vo.size)).trans ((Vo.cell (p:=⟨p,0,none⟩) hp).trans Vl)
 have FJ:w1.frozen? ⟨p,0,none⟩=false:=(zM.frozen (p:=⟨p,0,none⟩) (Nat.lt_of_lt_of_le hp Vo.size)).trans ((Vo.frozen (p:=⟨p,0,none⟩) hp).trans hpf)
 have Hd:w1.cell? ⟨q,0,none⟩=some (.slice a l.length c):=(ue.cell hq TK).trans EK
 have C1:=C.below zM C.lt
 have kJ:Below w0.heap.size w0 w1:=hB.trans (((bt Vo zM)).mono hB.size)
 have zIW:p<w1.heap.size:=Nat.lt_of_lt_of_le hp ue.size
 clear zM Vo C
 by_cases he:x.err=0
 ·rw[show xC x.id x.kind x.links x.text.size=0 from he]
  obtain⟨c0,c1,c2,c3,_,_,_,_,cl⟩:=C1
  have HE:Hid (x.err=0):=he
  clear he
  by_cases hle:x.id≤last
  ·have HR:Hid (rO l last x=4∧(sQ x last)=last):=⟨by rw[rO,if_neg (by rw[HE.out];simp),if_pos hle],by rw[sQ,if_neg (by omega)]⟩
   go_wp2
   go_ret
   exact⟨zE HR.out.1.symm,ue,FJ,by rw[HR.out.2];exact qu⟩
  ·have zN:last<x.id:=by omega
   have HR:Hid (rO l last x=vZ l x.kind 0 x.links∧(sQ x last)=x.id):=⟨by rw[rO,if_neg (by rw[HE.out];simp),if_neg hle],by rw[sQ,if_pos ⟨HE.out,zN⟩]⟩
   have r8:=ue.setCell 0 (.int .i64 x.id)
   have zj:Below w0.heap.size w0 (w1.setCell ⟨p,0,none⟩ (.int .i64 x.id)):=kJ.setCell (p:=⟨p,0,none⟩) ka _
   have nT:(w1.setCell ⟨p,0,none⟩ (.int .i64 x.id)).cell? ⟨p,0,none⟩=some (.int .i64 x.id):=World.cell?_setCell_same _ _ _ qu
   have CK:(w1.setCell ⟨p,0,none⟩ (.int .i64 x.id)).frozen? ⟨p,0,none⟩=false:=(World.frozen?_setCell _ _ _ _).trans FJ
   have Ms: ¬w.heap.size=p:=by omega
   have KD: ¬p=w.heap.size:=by omega
   have QE: ¬q=p:=TK
   have zTF: ¬p=q:=fun e=>TK e.symm
   go_wp2_with fail
   refine(eH a c l x sa sc _ (h.below zj) hl (hx.below zj) Vg).mono ?_
   rintro e w2 ⟨rfl,zZ⟩
   have Gi:p<(w1.setCell ⟨p,0,none⟩ (.int .i64 x.id)).heap.size:=by simpa[World.setCell]using zIW
   have tV:=r8.trans (vL.of_below zZ)
   have hc3:=(zZ.cell (p:=⟨p,0,none⟩) Gi).trans nT
   have Ex:=(zZ.frozen (p:=⟨p,0,none⟩) Gi).trans CK
   clear zZ nT CK r8 zj Gi Vl hpf qu FJ
   go_wp2
   go_ret
   exact⟨zE HR.out.1.symm,tV,Ex,by rw[HR.out.2];exact hc3⟩
 ·have GF:(xC x.id x.kind x.links x.text.size != 0)=true:=by simpa using he
  have HR:Hid (rO l last x=x.err∧(sQ x last)=last):=⟨by rw[rO,if_pos he],by rw[sQ,if_neg (fun e=>he e.1)]⟩
  go_wp2
  go_ret
  exact⟨zE HR.out.1.symm,ue,FJ,by rw[HR.out.2];exact qu⟩
theorem EY{l:List Ob}{m:List Ob}{k:Nat}{last r:Int}(hk:k<m.length)(H:r=vn l last (m.drop k))(h:rO l last m[k]≠0):r=rO l last m[k]:=by
 rw[H,List.drop_eq_getElem_cons hk,vn,if_pos h]
theorem Zh{l:List Ob}{last:Int}{x:Ob}(h:rO l last x=0):x.err=0∧last<x.id∧vZ l x.kind 0 x.links=0:=by
 unfold rO at h
 split at h
 ·omega
 ·split at h
  ·omega
  ·exact⟨by omega,by omega,h⟩
theorem Kt{l:List Ob}{m:List Ob}{k:Nat}{last r:Int}(hk:k<m.length)(H:r=vn l last (m.drop k))(h:rO l last m[k]=0):r=vn l (sQ m[k] last) (m.drop (k+1)):=by
 obtain⟨h1,h2,_⟩:=Zh h
 rw[H,List.drop_eq_getElem_cons hk,vn,if_neg (by omega),sQ,if_pos ⟨h1,h2⟩]
theorem EM{l:List Ob}{m:List Ob}{k:Nat}{last r:Int}(hk: ¬k<m.length)(H:r=vn l last (m.drop k)):r=0:=by
 rw[H,List.drop_of_length_le (by omega)];rfl
theorem Tj(a:Option Addr)(c:Nat)(l:List Ob)(p q:Nat)(w0 w:World)
  (h:zP w0 a l) (hl:l.length≤9223372036854775807) (hB:Below w0.heap.size w0 w)
  (ka:w0.heap.size≤p) (hp:p<w.heap.size) (Vl:w.cell? ⟨p,0,none⟩=some (.int .i64 0)) (hpf:w.frozen? ⟨p,0,none⟩=false)
  (hq:q<w.heap.size) (TK:q≠p) (EK:w.cell? ⟨q,0,none⟩=some (.slice a l.length c)):
  Calls Tryz.prog 133 #[.slice a l.length c,.func (.func 137) #[] #[.pointer (some ⟨p,0,none⟩),.pointer (some ⟨q,0,none⟩)]] w fun e w'=>e= .returned (.int .i64 (vn l 0 l))∧Below w0.heap.size w0 w':=by
 go_enter Tryz.func133,Tryz.ntmps133
 go_wp2
 go_loopw [10] (fun i wr=>∃(k:Nat) (last:Int),i= .int .i64 k∧k≤l.length∧vL p none w wr∧wr.cell? ⟨p,0,none⟩=some (.int .i64 last)∧wr.frozen? ⟨p,0,none⟩=false∧Hid (vn l 0 l=vn l last (l.drop k))) (fun i _=>l.length-(intOf i).toNat)
 case atStart=>exact⟨0,0,rfl,Nat.zero_le _,vL.refl _ _ _,Vl,hpf,rfl⟩
 case round=>
  obtain⟨k,last,rfl,hk,hS,rg,hfl,H⟩:=hrel
  have vH:Below w0.heap.size w0 wr:=hB.trans (hS.below hB.size ka (by simp))
  have Vm:wr.cell? ⟨q,0,none⟩=some (.slice a l.length c):=(hS.cell hq TK).trans EK
  by_cases zN:k<l.length
  ·obtain⟨b,off,rfl,hb,hc⟩:=h k zN
   have hO:=hc k zN
   obtain⟨sa,sc,x0,x1,x2,x3,x4,x5⟩:=hO
   have y0:=(vH.cell (p:=⟨b,off+k*4,none⟩) hb).trans x0
   have y1:=(vH.cell (p:=⟨b,off+k*4+1,none⟩) hb).trans x1
   have y2:=(vH.cell (p:=⟨b,off+k*4+2,none⟩) hb).trans x2
   have y3:=(vH.cell (p:=⟨b,off+k*4+3,none⟩) hb).trans x3
   clear hc x0 x1 x2 x3
   have hA:=zB wr (.cells #[.int .i64 l[k].id,.int .i64 l[k].kind,.slice sa l[k].links.length sc,.string l[k].text] 58)
   go_wp2_with fail
   refine(TL _ c l l[k] sa sc last p q w0 _ h hl x4 x5 ((bt vH hA)) ka ?k1 ?k2 ?k3 ?k4 TK ?k5).mono ?_
   case k1=>exact Nat.lt_of_lt_of_le hp (Nat.le_trans hS.size hA.size)
   case k2=>exact(hA.cell (p:=⟨p,0,none⟩) (Nat.lt_of_lt_of_le hp hS.size)).trans rg
   case k3=>exact(hA.frozen (p:=⟨p,0,none⟩) (Nat.lt_of_lt_of_le hp hS.size)).trans hfl
   case k4=>exact Nat.lt_of_lt_of_le hq (Nat.le_trans hS.size hA.size)
   case k5=>exact(hA.cell (p:=⟨q,0,none⟩) (Nat.lt_of_lt_of_le hq hS.size)).trans Vm
   rintro e w1 ⟨rfl,ue,FJ,bV⟩
   have r8:=(hS.trans (vL.of_below hA)).trans ue
   clear ue hA y0 y1 y2 y3 Vm rg hfl
   by_cases hz:rO l last l[k]=0
   ·have HN:Hid (vn l 0 l=vn l (sQ l[k] last) (l.drop (k+1))):=Kt zN H.out hz
    rw[hz]
    clear hz
    go_wp2
    go_roundw
    case rel=>exact⟨k+1,_,by go_num,by omega,r8,bV,FJ,HN⟩
    case measure=>simp[intOf];omega
   ·have HR:Hid (vn l 0 l=rO l last l[k]):=EY zN H.out hz
    have CW:(rO l last l[k] != 0)=true:=by simpa using hz
    clear hz
    go_wp2
    go_ret
    exact⟨zE HR.out.symm,hB.trans (r8.below hB.size ka (by simp))⟩
  ·have HR:Hid (vn l 0 l=0):=EM zN H.out
   go_wp2
   go_ret
   exact⟨zE HR.out.symm,vH⟩
theorem vD(a:Option Addr)(c:Nat)(l:List Ob)(w:World)(h:zP w a l)(hl:l.length≤9223372036854775807):
  Calls Tryz.prog 78 #[.slice a l.length c] w fun e w'=>e= .returned (.int .i64 (zK l))∧Below w.heap.size w w':=by
 have Uk: ∀(fn:Fn) (first cap:Array Value) (w:World),(Instr.makeFunc fn first cap).run Tryz.prog w= .ok (.func fn first cap) w:=fun _ _ _ _=>rfl
 have zj:=zV w (.cells #[.slice a l.length c] 25) (.cells #[.int .i64 0] 3)
 by_cases hm:(40:Int)<(l.length:Int)
 ·go_enter Tryz.func78,Tryz.ntmps78
  go_wp2
  go_ret
  exact⟨zE (by rw[zK,if_pos (by omega)]),zB _ _⟩
 ·have HR:Hid (zK l=vn l 0 l):=by unfold Hid;rw[zK,if_neg (by omega)]
  go_enter Tryz.func78,Tryz.ntmps78
  go_wp2_with fail
  refine(Tj a c l (w.heap.size+1) w.heap.size w _ h hl zj (Nat.le_succ _) ?k1 ?k2 ?k3 ?k4 (by omega) ?k5).mono ?_
  case k1=>simp
  case k2=>simp[go_sem]
  case k3=>simp[go_sem]
  case k4=>simp;omega
  case k5=>simp[go_sem]
  rintro e w1 ⟨rfl,hb⟩
  go_wp2
  go_ret
  exact⟨zE HR.out.symm,hb⟩
theorem kF{ops:Array Oper}{rest:List Oper}{o:Oper}{a:Act}{Q:Exit→Act→World→Prop}(w:World)(cG:o.guard=none)(s x:Operand)
  (ho:o.op= .call {callee:=.builtin .append,args:=#[s,x],argTypes:=#[45,45]})
  (base n:Nat) (v:Value) (xs:List Int) (hs:a.eval s=v) (yj:w.ownsRow base 3 1 v n (xs.map (Value.int .i64)))
  (ad:Option Addr) (m c:Nat) (L:List Int) (hm:L.length=m) (hx:a.eval x= .slice ad m c) (hh:yD w ad L) (hn:n+m≤1000) (xq:base≤w.heap.size)
  (h: ∀g' N ux w',N=n+m→w'.ownsRow base 3 1 (.slice g' N ux) N ((xs++L).map (Value.int .i64))→w.grownBy w' v.ownBlock→wpList Tryz.prog ops Q rest (a.put o.dst (.slice g' N ux)) w'):
  wpList Tryz.prog ops Q (o::rest) a w:=by
 refine wpList_plain cG fun K hK=>?_
 obtain⟨g',N,ux,w',hN,hr,h1,h2⟩:=fy w o.type base n v xs yj ad m c L hm hh hn xq
 unfold Oper.wp execOp
 simp only[ho,resolve,invoke,builtin,Sem.run_bind,Sem.run_pure,Result.andThen_ok,List.map_toArray,List.map_cons,List.map_nil,hs,hx,hr]
 exact hK _ _ (h g' N ux w' hN h1 h2)
theorem xH.two(w:World)(o:Obj)(x0 x1 x2 x3:Value)(e:Nat):xH (w.heap.size+1) x0 x1 x2 x3 ((w.alloc o).alloc (.cells #[x0,x1,x2,x3] e)):=by
 have:=xH.new (w.alloc o) x0 x1 x2 x3 e
 simpa using this
theorem Ku{w:World}{base n cap:Nat}{g:Option Addr}{xs:List Value}(h:w.ownsRow base 3 1 (.slice g n cap) n xs):n≤cap:=by
 rcases h.2 with⟨e,rfl⟩|⟨g',ux,cur,e,_,_,hn,_⟩
 ·omega
 ·cases e;exact hn
theorem pn(x:Ob)(sa:Option Addr)(sc:Nat)(w:World)(hx:yD w sa x.links)(hl:x.links.length≤1000):
  Calls Tryz.prog 82 #[x.val sa sc] w fun e w'=>∃ta tc,e= .returned (x.val ta tc)∧yD w' ta x.links∧Below w.heap.size w w'∧(∀b off,ta=some ⟨b,off,none⟩→w.heap.size≤b)∧x.links.length≤tc:=by
 have zj:=zV w (.cells #[.int .i64 x.id,.int .i64 x.kind,.slice sa x.links.length sc,.string x.text] 58) (.cells #[.int .i64 0,.int .i64 0,.slice none 0 0,.string {data:=#[]}] 58)
 have hx2:=hx.below zj
 have C1:=(xH.new w (.int .i64 x.id) (.int .i64 x.kind) (.slice sa x.links.length sc) (.string x.text) 58).below (zB _ (.cells #[.int .i64 0,.int .i64 0,.slice none 0 0,.string {data:=#[]}] 58)) (by simp)
 have C2:=xH.two w (.cells #[.int .i64 x.id,.int .i64 x.kind,.slice sa x.links.length sc,.string x.text] 58) (.int .i64 0) (.int .i64 0) (.slice none 0 0) (.string {data:=#[]}) 58
 have gB:w.heap.size+2≤((w.alloc (.cells #[.int .i64 x.id,.int .i64 x.kind,.slice sa x.links.length sc,.string x.text] 58)).alloc (.cells #[.int .i64 0,.int .i64 0,.slice none 0 0,.string {data:=#[]}] 58)).heap.size:=by simp
 go_enter Tryz.func82,Tryz.ntmps82
 go_wp2_with (at_builtin;refine kF _ rfl (.const (.slice none 0 0)) (.tmp 4) rfl (w.heap.size+2) 0 (.slice none 0 0) [] rfl (World.ownsRow_nil _ _ _ _) sa x.links.length sc x.links rfl rfl hx2 (by omega) gB ?_)
 intro g N cap w1 hN ho hg
 generalize (w.alloc (.cells #[.int .i64 x.id,.int .i64 x.kind,.slice sa x.links.length sc,.string x.text] 58)).alloc (.cells #[.int .i64 0,.int .i64 0,.slice none 0 0,.string {data:=#[]}] 58)=W at *
 have hN':N=x.links.length:=by omega
 subst hN'
 have hBW:Below W.heap.size W w1:=⟨hg.os,hg.tape,hg.output,hg.size,fun k hk=>hg.block k hk (by simp[Value.ownBlock])⟩
 have D1:=C1.below hBW C1.lt
 have D2:=C2.below hBW C2.lt
 have zT:=bt zj hBW
 have uO:=Ku ho
 obtain⟨g',ux,e',hh,FY⟩:=R9 (L:=[]++x.links) ho (by simp)
 cases e'
 rw[List.nil_append]at hh
 obtain⟨c0,c1,c2,c3,f0,f1,f2,f3,cl⟩:=D1
 obtain⟨d0,d1,d2,d3,e0,e1,e2,e3,dl⟩:=D2
 clear ho hg hBW C1 C2 hN
 have bT: ∀b off,g=some ⟨b,off,none⟩→w.heap.size+2≤b:=FY
 have hH:=ej (B:=w.heap.size+1) (x0:=.int .i64 x.id) (x1:=.int .i64 x.kind) (x2:=.slice g x.links.length cap) (x3:=.string x.text) (hh.set (B:=w.heap.size) (i:=2) (fun b off e=>by have:=bT b off e;omega) (.slice g x.links.length cap)) (fun b off e _=>by have:=bT b off e;omega)
 have Yt:=pj (B:=w.heap.size+1) (x0:=.int .i64 x.id) (x1:=.int .i64 x.kind) (x2:=.slice g x.links.length cap) (x3:=.string x.text) (zT.setCell (p:=⟨w.heap.size,2,none⟩) (Nat.le_refl _) (.slice g x.links.length cap)) (Nat.le_succ _)
 have HH:Hid (_∧_∧∀b off,g=some ⟨b,off,none⟩→w.heap.size≤b):=⟨hH,Yt,fun b off e=>by have:=bT b off e;omega⟩
 clear hH Yt bT FY hh zT
 go_wp2
 refine bodyPost_ret (v:=x.val g cap) (by simp[results,Tryz.results82,go_sem,d0,d1,d2,d3]) rfl ?_
 exact⟨g,cap,rfl,HH.out.1,HH.out.2.1,HH.out.2.2,uO⟩
theorem ai{l:List Ob}: ∀(m:List Ob) (last:Int),vn l last m=0→∀x∈m,x.err=0∧last<x.id∧vZ l x.kind 0 x.links=0:=by
 intro m
 induction m with
 |nil=>intro _ _ x hx;cases hx
 |cons y ys ih=>
  intro last h x hx
  rw[vn]at h
  split at h
  ·omega
  ·rename_i h0
   have h1:=Zh (Decidable.not_not.1 h0)
   rcases List.mem_cons.1 hx with rfl|hx
   ·exact h1
   ·have h2:=ih _ h x hx
    exact⟨h2.1,by omega,h2.2.2⟩
theorem yF{l:List Ob}(h:zK l=0):l.length≤40∧vn l 0 l=0:=by
 unfold zK at h
 split at h
 ·omega
 ·exact⟨by omega,h⟩
theorem vE{l:List Ob}(h:zK l=0): ∀x∈l,x.err=0:=fun x hx=>(ai l 0 (yF h).2 x hx).1
theorem Zm(a:Option Addr)(c:Nat)(l:List Ob)(id:Int)(w:World)(h:zP w a l)(he:zK l=0)(hp:zW l id= -1):
  Calls Tryz.prog 29 #[.slice a l.length c,.int .i64 id] w fun e w'=>e= .returned (.tuple #[Ty,.int .i64 5])∧Below w.heap.size w w':=by
 have hl:l.length≤9223372036854775807:=by have:=(yF he).1;omega
 have HE:Hid (zK l=0):=he
 have HP:Hid (zW l id= -1):=hp
 have C:=xH.new w (.int .i64 0) (.int .i64 0) (.slice none 0 0) (.string {data:=#[]}) 58
 have hB:=zB w (.cells #[.int .i64 0,.int .i64 0,.slice none 0 0,.string {data:=#[]}] 58)
 clear he hp
 go_enter Tryz.func29,Tryz.ntmps29
 go_wp2_with fail
 refine(vD a c l _ (h.below hB) hl).mono ?_
 rintro e w1 ⟨rfl,hb⟩
 rw[HE.out]
 have C1:=C.below hb C.lt
 have zT:=bt hB hb
 clear hb C hB
 go_wp2_with fail
 refine(qw a c l id _ (h.below zT) hl).mono ?_
 rintro e w2 ⟨rfl,hb⟩
 rw[HP.out]
 have C2:=C1.below hb C1.lt
 have zj:=pj (B:=w.heap.size) (x0:=.int .i64 0) (x1:=.int .i64 0) (x2:=.slice none 0 0) (x3:=.string {data:=#[]}) ((bt zT hb)) (Nat.le_refl _)
 obtain⟨c0,c1,c2,c3,f0,f1,f2,f3,cl⟩:=C2
 clear hb C1 zT
 go_wp2
 refine bodyPost_ret (v:=.tuple #[Ty,.int .i64 5]) (by simp[results,Tryz.results29,go_sem,c0,c1,c2,c3]) rfl ?_
 exact⟨rfl,zj⟩
theorem Sj(a:Option Addr)(c:Nat)(l:List Ob)(id:Int)(i:Nat)(w:World)(h:zP w a l)(he:zK l=0)(hp:zW l id=i)(hi:i<l.length):
  Calls Tryz.prog 29 #[.slice a l.length c,.int .i64 id] w fun e w'=>∃ta tc,e= .returned (.tuple #[l[i].val ta tc,.int .i64 0])∧yD w' ta l[i].links∧Below w.heap.size w w':=by
 have hl:l.length≤9223372036854775807:=by have:=(yF he).1;omega
 have hl4:l[i].links.length≤4:=(xg (vE he l[i] (List.getElem_mem hi))).2.2.1
 have HE:Hid (zK l=0):=he
 have HP:Hid (zW l id=i):=hp
 have C:=xH.new w (.int .i64 0) (.int .i64 0) (.slice none 0 0) (.string {data:=#[]}) 58
 have hB:=zB w (.cells #[.int .i64 0,.int .i64 0,.slice none 0 0,.string {data:=#[]}] 58)
 clear he hp
 go_enter Tryz.func29,Tryz.ntmps29
 go_wp2_with fail
 refine(vD a c l _ (h.below hB) hl).mono ?_
 rintro e w1 ⟨rfl,hb⟩
 rw[HE.out]
 have C1:=C.below hb C.lt
 have zT:=bt hB hb
 clear hb C hB
 go_wp2_with fail
 refine(qw a c l id _ (h.below zT) hl).mono ?_
 rintro e w2 ⟨rfl,hb⟩
 rw[HP.out]
 have C2:=C1.below hb C1.lt
 have zj:=bt zT hb
 clear hb C1 zT
 obtain⟨b,off,rfl,aY,hc⟩:=(h.below zj) i hi
 obtain⟨sa,sc,x0,x1,x2,x3,x4,x5⟩:=hc i hi
 have Y5:(i:Int)<(l.length:Int):=by omega
 clear hc
 go_wp2_with fail
 refine(pn l[i] sa sc _ x4 (by omega)).mono ?_
 rintro e w3 ⟨ta,tc,rfl,hh,hb,bT,_⟩
 have C3:=C2.below hb C2.lt
 have cl2:=C2.lt
 have xL:=pj (B:=w.heap.size) (x0:=.int .i64 l[i].id) (x1:=.int .i64 l[i].kind) (x2:=.slice ta l[i].links.length tc) (x3:=.string l[i].text) ((bt zj hb)) (Nat.le_refl _)
 have hH3:=ej (B:=w.heap.size) (x0:=.int .i64 l[i].id) (x1:=.int .i64 l[i].kind) (x2:=.slice ta l[i].links.length tc) (x3:=.string l[i].text) hh (fun b' kQ e _=>by have:=bT b' kQ e;omega)
 obtain⟨c0,c1,c2,c3,f0,f1,f2,f3,cl⟩:=C3
 have HH:Hid (_∧_):=⟨hH3,xL⟩
 clear hb C2 zj xL hH3 hh x0 x1 x2 x3 x4 bT
 go_wp2
 refine bodyPost_ret (v:=.tuple #[l[i].val ta tc,.int .i64 0]) (by simp[results,Tryz.results29,go_sem,c0,c1,c2,c3]) rfl ?_
 exact⟨ta,tc,rfl,HH.out.1,HH.out.2⟩
theorem RM(a1:Option Addr)(c1:Nat)(A:List Int)(a2:Option Addr)(c2:Nat)(B:List Int)(w:World)
  (hA:yD w a1 A) (hB:yD w a2 B) (lA:A.length≤9223372036854775807):
  Calls Tryz.prog 236 #[.slice a1 A.length c1,.slice a2 B.length c2] w fun e w'=>e= .returned (.bool (nK A B))∧∃n,w'=w.drewN n:=by
 by_cases hl:A.length=B.length
 ·have hd:((A.length:Int) != (B.length:Int))=false:=by simp[hl]
  have HL:Hid (A.length=B.length):=hl
  clear hl
  go_enter Tryz.func236,Tryz.ntmps236
  go_wp2
  go_loopw [13] (fun i wr=>∃k:Nat,i= .int .i64 k∧k≤A.length∧A.take k=B.take k∧∃n,wr=w.drewN n) (fun i _=>A.length-(intOf i).toNat)
  case atStart=>exact⟨0,rfl,Nat.zero_le _,rfl,0,rfl⟩
  case round=>
   obtain⟨k,rfl,hk,Db,n,rfl⟩:=hrel
   by_cases zN:k<A.length
   ·obtain⟨b1,o1,rfl,zM,bV⟩:=hA k zN
    obtain⟨b2,o2,rfl,zZ,nT⟩:=hB k (by rw[←HL.out];exact zN)
    have sZ:(k:Int)<(B.length:Int):=by have:=HL.out;omega
    have xa:=bV k zN
    have xy:=nT k (by omega)
    have HT:Hid (A.take k=B.take k):=Db
    clear Db bV nT
    have zIR: ∀m,(w.drewN m).cell? ⟨b1,o1+k,none⟩=some (.int .i64 A[k]):=fun m=>by simpa[zN]using xa
    have zH3: ∀m,(w.drewN m).cell? ⟨b2,o2+k,none⟩=some (.int .i64 (B.getD k 0)):=fun m=>by simpa using xy
    clear xa xy
    go_wp2
    go_quiet (fail)
    go_wp2
    ·go_ret
     exact⟨yI (WR ‹_›).symm,n+nq,by simp⟩
    ·go_roundw
     case rel=>exact⟨k+1,by go_num,by omega,es HL.out HT.out zN ‹_›,_,rfl⟩
     case measure=>simp[intOf];omega
   ·go_wp2
    go_ret
    exact⟨yI (aw hk zN HL.out Db).symm,_,rfl⟩
 ·have hd:((A.length:Int) != (B.length:Int))=true:=by simp;omega
  go_enter Tryz.func236,Tryz.ntmps236
  go_wp2
  go_ret
  exact⟨by have: ¬A=B:=fun h=>hl (by rw[h]);simp[nK,this],0,rfl⟩
theorem LC(x y:Ob)(a1:Option Addr)(c1:Nat)(a2:Option Addr)(c2:Nat)(w:World)
  (h1:yD w a1 x.links) (h2:yD w a2 y.links) (l1:x.links.length≤9223372036854775807):
  Calls Tryz.prog 189 #[x.val a1 c1,y.val a2 c2] w
   fun e w'=>e= .returned (.bool (xi x.id x.kind x.links x.text y.id y.kind y.links y.text))∧Below w.heap.size w w':=by
 obtain⟨i1,k1,L1,t1⟩:=x
 obtain⟨i2,k2,L2,t2⟩:=y
 dsimp only[Ob.val]at *
 go_enter Tryz.func189,Tryz.ntmps189
 go_wp2_with fail
 ·refine(RM a1 c1 L1 a2 c2 L2 _ (h1.below (zV _ _ _)) (h2.below (zV _ _ _)) l1).mono ?_
  rintro e w' ⟨rfl,n,rfl⟩
  go_wp2
  go_ret
  exact⟨yI (by simp[xi, *]),yB (zV _ _ _) n⟩
 all_goals go_ret
 all_goals exact⟨yI (by simp[xi, *]),zV _ _ _⟩
def yV(l:List Ob)(id:Int):Nat:=(l.filter (fun x=>decide (x.id<id))).length
theorem Wk{l:List Ob}{id:Int}{k:Nat}(hk:k<l.length):yV (l.take (k+1)) id=yV (l.take k) id+if l[k].id<id then 1 else 0:=by
 unfold yV
 rw[List.take_succ_eq_append_getElem hk,List.filter_append,List.length_append]
 by_cases h:l[k].id<id<;>simp[h]
theorem rd(l:List Ob)(id:Int):yV l id≤l.length:=List.length_filter_le _ _
theorem dR(a:Option Addr)(c:Nat)(l:List Ob)(id:Int)(w:World)(h:zP w a l)(hl:l.length≤1000):
  Calls Tryz.prog 191 #[.slice a l.length c,.int .i64 id] w fun e w'=>e= .returned (.int .i64 (yV l id))∧Below w.heap.size w w':=by
 go_enter Tryz.func191,Tryz.ntmps191
 go_wp2
 go_loopw [5,10] (fun n i wr=>∃k:Nat,i= .int .i64 k∧k≤l.length∧n= .int .i64 (yV (l.take k) id)∧Below w.heap.size w wr) (fun _ i _=>l.length-(intOf i).toNat)
 case atStart=>exact⟨0,rfl,Nat.zero_le _,by simp[yV],Below.refl _ _⟩
 case round=>
  obtain⟨k,rfl,hk,rfl,hB⟩:=hrel
  by_cases zN:k<l.length
  ·obtain⟨b,off,rfl,hb,hc⟩:=(h.below hB) k zN
   obtain⟨sa,sc,x0,x1,x2,x3,x4,x5⟩:=hc k zN
   have HS:Hid (yV (l.take (k+1)) id=yV (l.take k) id+if l[k].id<id then 1 else 0):=Wk zN
   have hbd:yV (l.take k) id≤1000:=by have:=rd (l.take k) id;rw[List.length_take]at this;omega
   clear hc
   go_wp2
   ·go_roundw
    case rel=>exact⟨k+1,by go_num,by omega,by rw[HS.out,if_pos ‹_›];go_num,hB.alloc hB.size _⟩
    case measure=>simp[intOf];omega
   ·go_roundw
    case rel=>exact⟨k+1,by go_num,by omega,by rw[HS.out,if_neg (by omega)];go_num,hB.alloc hB.size _⟩
    case measure=>simp[intOf];omega
  ·have xl:k=l.length:=by omega
   subst xl
   rw[List.take_length]
   go_wp2
   go_ret
   exact⟨rfl,hB⟩
theorem Tryz.info58:(Tryz.prog.info? 58).map (fun i=>(i.zero,i.size,i.bytes))=some (some (.agg #[.int .i64 0,.int .i64 0,.slice none 0 0,.string {data:=#[]}]),4,56):=by kernel_rfl
theorem mV(w:World)(ty:TypeId)(g o dLen dCap:Nat)(a:Addr)(sLen sCap:Nat)(cur:Array Value)(t:TypeId)(cs:List Value)
  (hg:w.heap[g]? =some (.cells cur t (0,0))) (hn:cs.length=Nat.min sLen dLen*4)
  (hsrc: ∀j v,cs[j]? =some v→w.cell? (a.add j)=some v) (DD:o+cs.length≤cur.size) (h1: ∀v∈cs,v.oneCell'=true):
  (Builtin.copy_ #[25,25] ty #[.slice (some ⟨g,o,none⟩) dLen dCap,.slice (some a) sLen sCap]).run Tryz.prog w=
   .ok (goInt (Nat.min sLen dLen)) (w.setRow g (cur.toList.take o++cs++cur.toList.drop (o+cs.length)).toArray):=by
 obtain⟨i0,hi,sW,YG,ky⟩:=info_parts Tryz.info58
 have hl:=run_loadCells_list (P:=Tryz.prog) w a cs hsrc
 have nO:=run_storeCells_at Tryz.prog g o t cs 0 cur w hg (by simpa using DD) h1
 simp[Builtin.copy_,run_underlying Tryz.underlying25,Builtin.lenOf,Builtin.firstCells,sizeOf,typeInfo,hi,YG,←hn,hl,nO]
theorem Tv{X:List Value}{i n:Nat}{v:Value}(hi:i<n)(h:v∈(X.drop (i*4)).take ((n-i)*4)):v∈X.take (n*4):=by
 rw[List.take_drop,show i*4+(n-i)*4=n*4 by omega]at h
 exact List.mem_of_mem_drop h
theorem M2(X Y:List Value)(i n:Nat)(hX:(n+1)*4≤X.length)(hi:i<n)(hY:Y.length=4):
  let C1:=X.take ((i+1)*4)++(X.drop (i*4)).take ((n-i)*4)++X.drop ((i+1)*4+((X.drop (i*4)).take ((n-i)*4)).length)
  (C1.take (i*4)++Y++C1.drop (i*4+Y.length)).take ((n+1)*4)=X.take (i*4)++Y++(X.drop (i*4)).take ((n-i)*4)∧(C1.take (i*4)++Y++C1.drop (i*4+Y.length)).length=X.length:=by
 intro C1
 have hM:((X.drop (i*4)).take ((n-i)*4)).length=(n-i)*4:=by rw[List.length_take,List.length_drop];omega
 have hA:(X.take ((i+1)*4)).length=(i+1)*4:=by rw[List.length_take];omega
 have e1:C1.take (i*4)=X.take (i*4):=by
  show(X.take ((i+1)*4)++_++_).take (i*4)=_
  rw[List.append_assoc,List.take_append_of_le_length (by omega),List.take_take]
  congr 1;omega
 have e2:C1.drop (i*4+Y.length)=(X.drop (i*4)).take ((n-i)*4)++X.drop ((i+1)*4+((X.drop (i*4)).take ((n-i)*4)).length):=by
  show(X.take ((i+1)*4)++_++_).drop (i*4+Y.length)=_
  rw[List.append_assoc,hY,show i*4+4=(X.take ((i+1)*4)).length by omega,List.drop_left]
 rw[e1,e2]
 have hT:(X.take (i*4)).length=i*4:=by rw[List.length_take];omega
 constructor
 ·rw[←List.append_assoc,show(n+1)*4=(X.take (i*4)++Y++(X.drop (i*4)).take ((n-i)*4)).length by simp only[List.length_append];omega,List.take_left]
 ·simp only[List.length_append,List.length_drop];omega
theorem mu{ops:Array Oper}{o:Oper}{a:Act}{w:World}{K:Act→World→Prop}{Q:Exit→Act→World→Prop}{E:Prop}(cG:o.guard=none)(d s:Operand)
  (ho:o.op= .call {callee:=.builtin .copy,args:=#[d,s],argTypes:=#[25,25]}) (v u:Value) (hd:a.eval d=v) (hs:a.eval s=u) {v':Value} {w':World}
  (hr:(Builtin.copy_ #[25,25] o.type #[v,u]).run Tryz.prog w= .ok v' w') (h:K (a.put o.dst v') w'):if Region.wanted o (yielded ops a.tmps)=true then Oper.wp Tryz.prog o a w K Q else E:=by
 have hw:Region.wanted o (yielded ops a.tmps)=true:=by simp[Region.wanted,cG]
 rw[if_pos hw]
 unfold Oper.wp execOp
 simp only[ho,resolve,invoke,builtin,Sem.run_bind,Sem.run_pure,Result.andThen_ok,List.map_toArray,List.map_cons,List.map_nil,hd,hs,hr]
 exact h
theorem X9(w:World)(g vb o lb cb:Nat)(cur ys:Array Value)(hg:w.heap[g]? =some (.cells cur 58 (0,0)))(hv:w.heap[vb]? =some (.cells ys 58))(yM:vb≠g)(hc:cur.size≠0):
  (callFunc 237 #[.slice (some ⟨vb,0,none⟩) 1 1,.slice (some ⟨g,o,none⟩) lb cb]).run Tryz.prog w= .ok (.value (.bool false)) w:=by
 obtain⟨i0,hi,sW,YG,ky⟩:=info_parts Tryz.info58
 have hz: ∀w,(Go.sizeOf 58).run Tryz.prog w= .ok 4 w:=fun w=>by simp[sizeOf,typeInfo,hi,YG]
 have bc: ∀k,w.frozen? ⟨vb,k,none⟩=false:=fun k=>by simp[World.frozen?,hv]
 rw[run_callFunc_extern Tryz.func237 (by kernel_rfl) (by kernel_rfl) (by kernel_rfl) (e:=Extern.SlicesOverlaps.overlaps #[25,25] #[4]) (by kernel_rfl),
  Lib.run_overlaps_apart w 25 4 58 Tryz.underlying25 4 hz ⟨vb,0,none⟩ ⟨g,o,none⟩ 1 1 lb cb yM 58 58 ys.size cur.size (by simp[World.shape?,hv]) (by simp[World.shape?,hg]) hc (bc 0) (bc _)]
 rfl
set_option maxRecDepth 100000 in
theorem VK(g n cap i vb:Nat)(cur:Array Value)(ys:Array Value)(w:World)(hi:i<n)(hroom:n+1≤cap)(uO:cap≤9223372036854775807)(hn:n≤1000)
  (hg:w.heap[g]? =some (.cells cur 58 (0,0))) (mz:cur.size=cap*4) (hv:w.heap[vb]? =some (.cells ys 58)) (fF:ys.size=4) (yM:vb≠g)
  (h1: ∀v∈cur.toList.take (n*4),v.oneCell'=true) (h2: ∀v∈ys.toList,v.oneCell'=true):
  Calls Tryz.prog 190 #[.slice (some ⟨g,0,none⟩) n cap,.int .i64 i,.slice (some ⟨vb,0,none⟩) 1 1] w fun e w'=>
   e= .returned (.slice (some ⟨g,0,none⟩) (n+1) cap)∧w.grownBy w' (some g)∧∃sw,w'.heap[g]? =some (.cells sw 58 (0,0))∧sw.size=cap*4∧sw.toList.take ((n+1)*4)=cur.toList.take (i*4)++ys.toList++(cur.toList.drop (i*4)).take ((n-i)*4):=by
 have hi1:(i:Int)≤(n:Int):=by omega
 have ky:((i:Int)==(n:Int))=false:=by simp;omega
 have NA: ¬((cap:Int)<(n:Int)+1):=by omega
 have zM:(i:Int)+1≤(n:Int)+1:=by omega
 have ri:IntKind.i64.wrap ((i:Int)+1)=(i:Int)+1:=by simp[IntKind.wrap,IntKind.bits,IntKind.signed];omega
 have hw0:(0:Int)≤(i:Int)+1:=by omega
 have htn:((i:Int)+1).toNat=i+1:=by omega
 have bV: ¬cap=i+1:=by omega
 have hc0: ¬cap=i:=by omega
 have yT:(i:Int)≤(n:Int)+1:=by omega
 have hov:=X9 w g vb ((i+1)*4) (n-i) (cap-(i+1)) cur ys hg hv yM (by omega)
 have HC1:Hid (∀ty,(Builtin.copy_ #[25,25] ty #[.slice (some ⟨g,(i+1)*4,none⟩) (n-i) (cap-(i+1)),.slice (some ⟨g,i*4,none⟩) (n+1-i) (cap-i)]).run Tryz.prog w.drew= .ok (goInt (Nat.min (n+1-i) (n-i))) (w.drew.setRow g (cur.toList.take ((i+1)*4)++(cur.toList.drop (i*4)).take ((n-i)*4)++cur.toList.drop ((i+1)*4+((cur.toList.drop (i*4)).take ((n-i)*4)).length)).toArray)):=fun ty=>by
  refine mV w.drew ty g ((i+1)*4) (n-i) (cap-(i+1)) ⟨g,i*4,none⟩ (n+1-i) (cap-i) cur 58 _ hg ?_ ?_ ?_ ?_
  ·have:Nat.min (n+1-i) (n-i)=n-i:=by simp only[Nat.min_def];split<;>omega
   rw[this,List.length_take,List.length_drop,Array.length_toList];omega
  ·intro j v hj
   have vd:(⟨g,i*4,none⟩:Addr).add j=⟨g,i*4+j,none⟩:=by unfold Addr.add;split<;>simp_all
   rw[vd,cell_of_row w.drew g _ _ _ _ hg]
   rw[List.getElem?_take]at hj
   split at hj
   ·rw[List.getElem?_drop]at hj;simpa using hj
   ·cases hj
  ·rw[List.length_take,List.length_drop,Array.length_toList];omega
  ·intro v hv';exact h1 v (Tv hi hv')
 have HG:Hid (w.heap[g]? =some (.cells cur 58 (0,0))∧w.heap[vb]? =some (.cells ys 58)∧cur.size=cap*4∧ys.size=4∧(∀v∈cur.toList.take (n*4),v.oneCell'=true)∧(∀v∈ys.toList,v.oneCell'=true)):=⟨hg,hv,mz,fF,h1,h2⟩
 clear hg hv mz fF h1 h2
 go_enter Tryz.func190,Tryz.ntmps190
 go_wp2_with fail
 refine wp_region_any (by kernel_rfl) ?_
 change wpAny _ _ _ _ _ _ _ (World.drew _)
 refine wpAny_take (i:=0) (v:=?_) rfl (by kernel_rfl) (by kernel_rfl) (by kernel_rfl) (fun _ _ _ h=>h) (Or.inl ⟨by rfl,?_⟩) ?_
 rotate_left
 ·intro w;go_simp;rfl
 try simp only[tn]
 refine wpAny_take (i:=1) (v:=?_) rfl (by kernel_rfl) (by kernel_rfl) (by kernel_rfl) (fun _ _ _ h=>h) (Or.inl ⟨by rfl,?_⟩) ?_
 rotate_left
 ·intro w;go_simp;rfl
 try simp only[tn]
 refine wpAny_take (i:=2) (v:=?_) rfl (by kernel_rfl) (by kernel_rfl) (by kernel_rfl) (fun _ _ _ h=>h) (Or.inl ⟨by rfl,?_⟩) ?_
 rotate_left
 ·intro w;go_simp;rfl
 try simp only[tn]
 refine wpAny_take (i:=3) (v:=?_) rfl (by kernel_rfl) (by kernel_rfl) (by kernel_rfl) (fun _ _ _ h=>h) (Or.inl ⟨by rfl,?_⟩) ?_
 rotate_left
 ·intro w;go_simp;rfl
 try simp only[tn]
 refine wpAny_take (i:=4) (v:=?_) rfl (by kernel_rfl) (by kernel_rfl) (by kernel_rfl) (fun _ _ _ h=>h) (Or.inl ⟨by rfl,?_⟩) ?_
 rotate_left
 ·intro w;go_simp;rfl
 try simp only[tn]
 refine wpAny_take (i:=5) (v:=?_) rfl (by kernel_rfl) (by kernel_rfl) (by kernel_rfl) (fun _ _ _ h=>h) (Or.inl ⟨by rfl,?_⟩) ?_
 rotate_left
 ·intro w;go_simp;rfl
 try simp only[tn]
 refine wpAny_take (i:=6) (v:=?_) rfl (by kernel_rfl) (by kernel_rfl) (by kernel_rfl) (fun _ _ _ h=>h) (Or.inl ⟨by rfl,?_⟩) ?_
 rotate_left
 ·intro w;go_simp;rfl
 try simp only[tn]
 refine wpAny_take (i:=7) (v:=?_) rfl (by kernel_rfl) (by kernel_rfl) (by kernel_rfl) (fun _ _ _ h=>h) (Or.inl ⟨by rfl,?_⟩) ?_
 rotate_left
 ·intro w;go_simp;rfl
 try simp only[tn]
 refine wpAny_ready (rs:=[8]) (by kernel_rfl) (by simp) ?_
 refine AllReady.cons rfl (fun K hK=>?_) AllReady.nil
 refine mu (by rfl) (.tmp 73) (.tmp 76) (by rfl) _ _ (by rfl) (by rfl) (HC1.out _) ?_
 refine hK _ _ ?_
 clear hK K
 try simp only[tn]
 refine wpAny_done (by kernel_rfl) ?_ _
 obtain⟨hg,hv,mz,fF,h1,h2⟩:=HG.out
 obtain⟨C1,hC1⟩: ∃C1:List Value,C1=cur.toList.take ((i+1)*4)++(cur.toList.drop (i*4)).take ((n-i)*4)++cur.toList.drop ((i+1)*4+((cur.toList.drop (i*4)).take ((n-i)*4)).length):=⟨_,rfl⟩
 rw[←hC1]
 have Tm:(w.drew.setRow g C1.toArray).heap[g]? =some (.cells C1.toArray 58 (0,0)):=setRow_heap w.drew g _ _ 58 _ hg
 have hV1:(w.drew.setRow g C1.toArray).heap[vb]? =some (.cells ys 58):=(setRow_other w.drew g vb _ yM).trans hv
 have hG1:w.grownBy (w.drew.setRow g C1.toArray) (some g):=⟨rfl,rfl,rfl,by simp[World.setRow],fun k _ hk=>setRow_other w.drew g k _ (fun e=>hk (by rw[e]))⟩
 have Vi:C1.length=cap*4:=by rw[hC1];simp only[List.length_append,List.length_take,List.length_drop,Array.length_toList];omega
 have fA:=M2 cur.toList ys.toList i n (by rw[Array.length_toList];omega) (by omega) (by rw[Array.length_toList];exact fF)
 rw[←hC1]at fA
 have HL:Hid (_∧w.grownBy (w.drew.setRow g C1.toArray) (some g)∧_∧cur.size=cap*4):=⟨fA,hG1,Tm,mz⟩
 have Qz:Hid (∀ty,(Builtin.copy_ #[25,25] ty #[.slice (some ⟨g,i*4,none⟩) (n+1-i) (cap-i),.slice (some ⟨vb,0,none⟩) 1 1]).run Tryz.prog (w.drew.setRow g C1.toArray)= .ok (goInt (Nat.min 1 (n+1-i))) ((w.drew.setRow g C1.toArray).setRow g (C1.toArray.toList.take (i*4)++ys.toList++C1.toArray.toList.drop (i*4+ys.toList.length)).toArray)):=fun ty=>by
  refine mV _ ty g (i*4) (n+1-i) (cap-i) ⟨vb,0,none⟩ 1 1 C1.toArray 58 ys.toList Tm ?_ ?_ ?_ h2
  ·have:Nat.min 1 (n+1-i)=1:=by simp only[Nat.min_def];split<;>omega
   rw[this,Array.length_toList,fF]
  ·exact World.news_of_block hV1
  ·simp only[List.size_toArray,Array.length_toList];omega
 clear HC1 HG hg hv mz fF h1 h2 hC1 Tm hV1 hG1 Vi fA hov
 generalize w.drew.setRow g C1.toArray=W1 at *
 have zIP:=Qz.out 3
 clear Qz
 obtain⟨C2,Ez⟩: ∃C2,C2=C1.toArray.toList.take (i*4)++ys.toList++C1.toArray.toList.drop (i*4+ys.toList.length):=⟨_,rfl⟩
 rw[←Ez]at zIP
 have Qz:Hid (C2=C1.toArray.toList.take (i*4)++ys.toList++C1.toArray.toList.drop (i*4+ys.toList.length)):=Ez
 clear Ez
 go_wp2
 go_ret
 obtain⟨q1,q2,q3,q4⟩:=HL.out
 refine⟨rfl,?_,_,setRow_heap W1 g _ _ 58 _ q3,?_,?_⟩
 ·exact⟨q2.os,q2.tape,q2.output,by have:=q2.size;simpa[World.setRow]using this,fun k hk hr=>(setRow_other W1 g k _ (fun e=>hr (by rw[e]))).trans (q2.block k hk hr)⟩
 ·have e:=q1.2;rw[Array.length_toList]at e;rw[List.size_toArray,Qz.out];exact e.trans q4
 ·have e:=q1.1;rw[Qz.out];simpa using e
theorem wpList_append_run{ops:Array Oper}{rest:List Oper}{o:Oper}{a:Act}{w:World}{Q:Exit→Act→World→Prop}(cG:o.guard=none)(d s:Operand)
  (ho:o.op= .call {callee:=.builtin .append,args:=#[d,s],argTypes:=#[25,3]}) (v u:Value) (hd:a.eval d=v) (hs:a.eval s=u) {v':Value} {w':World}
  (hr:(Builtin.append_ #[25,3] o.type #[v,u]).run Tryz.prog w= .ok v' w') (h:wpList Tryz.prog ops Q rest (a.put o.dst v') w'):wpList Tryz.prog ops Q (o::rest) a w:=by
 refine wpList_plain cG fun K hK=>?_
 unfold Oper.wp execOp
 simp only[ho,resolve,invoke,builtin,Sem.run_bind,Sem.run_pure,Result.andThen_ok,List.map_toArray,List.map_cons,List.map_nil,hd,hs,hr]
 exact hK _ _ h
theorem RZ(X Y R0:List Value)(i n:Nat)(hX:n*4≤X.length)(hi:i<n)(hY:Y.length=4)(hR:(n+1)*4≤R0.length)(Dy:R0.take (i*4)=X.take (i*4)):
  let Z:=(X.drop (i*4)).take ((n-i)*4)
  let R1:=R0.take (i*4)++Y++R0.drop (i*4+Y.length)
  let R2:=R1.take ((i+1)*4)++Z++R1.drop ((i+1)*4+Z.length)
  R2.take ((n+1)*4)=X.take (i*4)++Y++Z∧R2.length=R0.length∧R1.length=R0.length:=by
 intro Z R1 R2
 have hZ:Z.length=(n-i)*4:=by show((X.drop (i*4)).take ((n-i)*4)).length=_;rw[List.length_take,List.length_drop];omega
 have hT:(X.take (i*4)).length=i*4:=by rw[List.length_take];omega
 have h1:R1.length=R0.length:=by
  show(R0.take (i*4)++Y++R0.drop (i*4+Y.length)).length=_
  simp only[List.length_append,List.length_take,List.length_drop];omega
 have e1:R1.take ((i+1)*4)=X.take (i*4)++Y:=by
  show(R0.take (i*4)++Y++R0.drop (i*4+Y.length)).take ((i+1)*4)=_
  rw[Dy,show(i+1)*4=(X.take (i*4)++Y).length by rw[List.length_append];omega,List.take_left]
 refine⟨?_,?_,h1⟩
 ·show(R1.take ((i+1)*4)++Z++R1.drop ((i+1)*4+Z.length)).take ((n+1)*4)=_
  rw[e1,show(n+1)*4=(X.take (i*4)++Y++Z).length by simp only[List.length_append];omega,List.take_left]
 ·show(R1.take ((i+1)*4)++Z++R1.drop ((i+1)*4+Z.length)).length=_
  rw[e1]
  simp only[List.length_append,List.length_drop];omega
set_option maxRecDepth 100000 in
theorem VW(g n cap i vb:Nat)(cur:Array Value)(ys:Array Value)(w:World)(hi:i<n)(SK:n≤cap)(hroom:cap<n+1)(hn:n≤1000)
  (hg:w.heap[g]? =some (.cells cur 58 (0,0))) (mz:cur.size=cap*4) (hv:w.heap[vb]? =some (.cells ys 58)) (fF:ys.size=4)
  (h1: ∀v∈cur.toList.take (n*4),v.oneCell'=true) (h2: ∀v∈ys.toList,v.oneCell'=true):
  Calls Tryz.prog 190 #[.slice (some ⟨g,0,none⟩) n cap,.int .i64 i,.slice (some ⟨vb,0,none⟩) 1 1] w fun e w'=>∃H G,
   e= .returned (.slice (some ⟨H,0,none⟩) (n+1) G)∧w.grownBy w' none∧w.heap.size≤H∧n+1≤G∧G≤maxLen∧∃sw,w'.heap[H]? =some (.cells sw 58 (0,0))∧sw.size=G*4∧sw.toList.take ((n+1)*4)=cur.toList.take (i*4)++ys.toList++(cur.toList.drop (i*4)).take ((n-i)*4):=by
 obtain⟨i0,sN,sW,xQ,pS⟩:=info_parts Tryz.info58
 have hgw:g<w.heap.size:=by
  rcases Nat.lt_or_ge g w.heap.size with h|h
  ·exact h
  ·rw[Array.getElem?_eq_none h]at hg;cases hg
 have hvw:vb<w.heap.size:=by
  rcases Nat.lt_or_ge vb w.heap.size with h|h
  ·exact h
  ·rw[Array.getElem?_eq_none h]at hv;cases hv
 have hold:(Builtin.firstCells i0.size i (.slice (some ⟨g,0,none⟩) i cap)).run Tryz.prog w.drew= .ok (cur.toList.take (i*4)).toArray w.drew:=by
  rw[xQ]
  exact run_firstCells_some w.drew 4 i ⟨g,0,none⟩ i cap (cur.toList.take (i*4)) (by rw[List.length_take,Array.length_toList];omega) (fun j v hj=>by
   have vd:(⟨g,0,none⟩:Addr).add j=⟨g,0+j,none⟩:=by unfold Addr.add;split<;>simp_all
   rw[vd,cell_of_row w.drew g _ _ _ _ hg,Nat.zero_add]
   rw[List.getElem?_take]at hj
   split at hj
   ·simpa using hj
   ·cases hj)
 have eB:i+(n+1-i)=n+1:=by omega
 have CE: ∀ty,(Builtin.append_ #[25,3] ty #[.slice (some ⟨g,0,none⟩) i cap,.int .i64 ((n:Int)+1-(i:Int))]).run Tryz.prog w=
   .ok (.slice (some ⟨w.heap.size,0,none⟩) (n+1) (grownCap w (n+1) cap 58)) (w.drew.alloc (.cells ((cur.toList.take (i*4)).toArray++Builtin.zeroCells (.agg #[.int .i64 0,.int .i64 0,.slice none 0 0,.string {data:=#[]}]:Value).cells (n+1-i)++Builtin.zeroCells (.agg #[.int .i64 0,.int .i64 0,.slice none 0 0,.string {data:=#[]}]:Value).cells (grownCap w (n+1) cap 58-(n+1))) 58)):=fun ty=>by
  have h:=Lib.run_append_grow_zeros w 25 3 ty 58 i0 _ .i64 .i64 Tryz.underlying25 Tryz.underlying3 sN sW (some ⟨g,0,none⟩) i cap (cur.toList.take (i*4)) hold (n+1-i) (by omega) (by omega) (by omega) (by omega) (by rw[pS];omega) (by rw[pS,eB];exact growslice_fits hroom (by omega))
  rw[eB]at h
  rw[show(n:Int)+1-(i:Int)=((n+1-i:Nat):Int) by omega]
  exact h
 obtain⟨G,hG⟩: ∃G,G=grownCap w (n+1) cap 58:=⟨_,rfl⟩
 have hG1:n+1≤G:=by rw[hG];exact grownCap_ge w _ _ _
 have hG2:G≤maxLen:=by rw[hG];exact grownCap_le_maxLen w (n+1) cap 58 (by unfold maxLen;omega)
 rw[←hG]at CE
 clear hG
 obtain⟨R0,Dy⟩: ∃R0:Array Value,R0=(cur.toList.take (i*4)).toArray++Builtin.zeroCells (.agg #[.int .i64 0,.int .i64 0,.slice none 0 0,.string {data:=#[]}]:Value).cells (n+1-i)++Builtin.zeroCells (.agg #[.int .i64 0,.int .i64 0,.slice none 0 0,.string {data:=#[]}]:Value).cells (G-(n+1)):=⟨_,rfl⟩
 rw[←Dy]at CE
 have hTl:(cur.toList.take (i*4)).length=i*4:=by rw[List.length_take,Array.length_toList];omega
 have AA:((.agg #[.int .i64 0,.int .i64 0,.slice none 0 0,.string {data:=#[]}]:Value).cells).size=4:=rfl
 have hRs:R0.size=G*4:=by
  rw[Dy]
  simp only[Array.size_append,List.size_toArray,hTl,size_zeroCells,AA];omega
 have hRt:R0.toList.take (i*4)=cur.toList.take (i*4):=by
  rw[Dy]
  simp only[Array.toList_append,List.append_assoc]
  rw[List.take_append_of_le_length (by omega),List.take_take];congr 1;omega
 obtain⟨W1,Tm⟩: ∃W1,W1=w.drew.alloc (.cells R0 58):=⟨_,rfl⟩
 rw[←Tm]at CE
 have Lc:W1.heap[w.heap.size]? =some (.cells R0 58 (0,0)):=by rw[Tm];exact heap_alloc_new w.drew _
 have YH:W1.heap[g]? =some (.cells cur 58 (0,0)):=by rw[Tm];exact(heap_alloc_old w.drew _ hgw).trans hg
 have hv1:W1.heap[vb]? =some (.cells ys 58):=by rw[Tm];exact(heap_alloc_old w.drew _ hvw).trans hv
 have R8:w.grownBy W1 none:=by
  rw[Tm];exact⟨rfl,rfl,rfl,by simp[World.alloc],fun k hk _=>heap_alloc_old w.drew _ hk⟩
 obtain⟨H,hH⟩: ∃H,H=w.heap.size:=⟨_,rfl⟩
 rw[←hH]at CE Lc hgw hvw
 clear Tm Dy hold eB
 have Gv:(Builtin.copy_ #[25,25] 3 #[.slice (some ⟨H,i*4,none⟩) (n+1-i) (G-i),.slice (some ⟨vb,0,none⟩) 1 1]).run Tryz.prog W1= .ok (goInt (Nat.min 1 (n+1-i))) (W1.setRow H (R0.toList.take (i*4)++ys.toList++R0.toList.drop (i*4+ys.toList.length)).toArray):=by
  refine mV _ 3 H (i*4) (n+1-i) (G-i) ⟨vb,0,none⟩ 1 1 R0 58 ys.toList Lc ?_ ?_ ?_ h2
  ·have:Nat.min 1 (n+1-i)=1:=by simp only[Nat.min_def];split<;>omega
   rw[this,Array.length_toList,fF]
  ·exact World.news_of_block hv1
  ·simp only[Array.length_toList];omega
 obtain⟨R1,FL⟩: ∃R1,R1=R0.toList.take (i*4)++ys.toList++R0.toList.drop (i*4+ys.toList.length):=⟨_,rfl⟩
 rw[←FL]at Gv
 have fA:=RZ cur.toList ys.toList R0.toList i n (by rw[Array.length_toList];omega) hi (by rw[Array.length_toList];exact fF) (by rw[Array.length_toList];omega) hRt
 rw[←FL]at fA
 obtain⟨W2,XC⟩: ∃W2,W2=W1.setRow H R1.toArray:=⟨_,rfl⟩
 rw[←XC]at Gv
 have PU:W2.heap[H]? =some (.cells R1.toArray 58 (0,0)):=by rw[XC];exact setRow_heap W1 H _ _ 58 _ Lc
 have hg2:W2.heap[g]? =some (.cells cur 58 (0,0)):=by rw[XC];exact(setRow_other W1 H g _ (by omega)).trans YH
 have zAL:R1.length=G*4:=by have:=fA.2.2;have e:=Array.length_toList (xs:=R0);omega
 have HC:Hid (∀ty,(Builtin.copy_ #[25,25] ty #[.slice (some ⟨H,(i+1)*4,none⟩) (n-i) (G-(i+1)),.slice (some ⟨g,i*4,none⟩) (n-i) (cap-i)]).run Tryz.prog W2.drew= .ok (goInt (Nat.min (n-i) (n-i))) (W2.drew.setRow H (R1.toArray.toList.take ((i+1)*4)++(cur.toList.drop (i*4)).take ((n-i)*4)++R1.toArray.toList.drop ((i+1)*4+((cur.toList.drop (i*4)).take ((n-i)*4)).length)).toArray)):=fun ty=>by
  refine mV W2.drew ty H ((i+1)*4) (n-i) (G-(i+1)) ⟨g,i*4,none⟩ (n-i) (cap-i) R1.toArray 58 _ PU ?_ ?_ ?_ ?_
  ·have:Nat.min (n-i) (n-i)=n-i:=by simp only[Nat.min_def];split<;>omega
   rw[this,List.length_take,List.length_drop,Array.length_toList];omega
  ·intro j v hj
   have vd:(⟨g,i*4,none⟩:Addr).add j=⟨g,i*4+j,none⟩:=by unfold Addr.add;split<;>simp_all
   rw[vd,cell_of_row W2.drew g _ _ _ _ hg2]
   rw[List.getElem?_take]at hj
   split at hj
   ·rw[List.getElem?_drop]at hj;simpa using hj
   ·cases hj
  ·simp only[List.length_take,List.length_drop,Array.length_toList,List.size_toArray];omega
  ·intro v hv';exact h1 v (Tv hi hv')
 have Ap:w.grownBy W2.drew none:=by
  rw[XC]
  exact⟨R8.os,R8.tape,R8.output,by have:=R8.size;simpa[World.setRow]using this,fun k hk hr=>(setRow_other W1 H k _ (by omega)).trans (R8.block k hk hr)⟩
 have HL:Hid (_∧w.grownBy W2.drew none∧W2.drew.heap[H]? =some (.cells R1.toArray 58 (0,0))∧R1.length=G*4∧R0.size=G*4∧w.heap.size≤H):=⟨fA,Ap,PU,zAL,hRs,by omega⟩
 clear fA Ap R8 PU zAL hRs XC FL hg2 YH hv1 Lc hRt h1 h2 hg hv fF mz hTl hH
 have hi1:(i:Int)≤(n:Int):=by omega
 have ky:((i:Int)==(n:Int))=false:=by simp;omega
 have NA:(cap:Int)<(n:Int)+1:=by omega
 have ri:IntKind.i64.wrap ((i:Int)+1)=(i:Int)+1:=by simp[IntKind.wrap,IntKind.bits,IntKind.signed];omega
 have hw2:IntKind.i64.wrap ((n:Int)+1)=(n:Int)+1:=by simp[IntKind.wrap,IntKind.bits,IntKind.signed];omega
 have hw3:IntKind.i64.wrap ((n:Int)+1-(i:Int))=(n:Int)+1-(i:Int):=by simp[IntKind.wrap,IntKind.bits,IntKind.signed];omega
 have hw0:(0:Int)≤(i:Int)+1:=by omega
 have htn:((i:Int)+1).toNat=i+1:=by omega
 have zM:(i:Int)+1≤(n:Int)+1:=by omega
 have yT:(i:Int)≤(n:Int)+1:=by omega
 have zRF:G≤9223372036854775807:=by unfold maxLen at hG2;omega
 have hic:(i:Int)≤(cap:Int):=by omega
 have hGi: ¬G=i:=by omega
 have zPO: ¬G=i+1:=by omega
 have hci: ¬cap=i:=by omega
 go_enter Tryz.func190,Tryz.ntmps190
 go_wp2_with (first
  |(refine wpList_append_run rfl (.tmp 34) (.tmp 39) rfl _ _ (by rfl) (by rfl) (CE _) ?_))
 refine wp_region_any (by kernel_rfl) ?_
 change wpAny _ _ _ _ _ _ _ (World.drew _)
 refine wpAny_take (i:=0) (v:=?_) rfl (by kernel_rfl) (by kernel_rfl) (by kernel_rfl) (fun _ _ _ h=>h) (Or.inl ⟨by rfl,?_⟩) ?_
 rotate_left
 ·intro w;go_simp;rfl
 try simp only[tn]
 refine wpAny_take (i:=1) (v:=?_) rfl (by kernel_rfl) (by kernel_rfl) (by kernel_rfl) (fun _ _ _ h=>h) (Or.inl ⟨by rfl,?_⟩) ?_
 rotate_left
 ·intro w;go_simp;rfl
 try simp only[tn]
 refine wpAny_take (i:=2) (v:=?_) rfl (by kernel_rfl) (by kernel_rfl) (by kernel_rfl) (fun _ _ _ h=>h) (Or.inl ⟨by rfl,?_⟩) ?_
 rotate_left
 ·intro w;go_simp;rfl
 try simp only[tn]
 refine wpAny_take (i:=3) (v:=?_) rfl (by kernel_rfl) (by kernel_rfl) (by kernel_rfl) (fun _ _ _ h=>h) (Or.inl ⟨by rfl,?_⟩) ?_
 rotate_left
 ·intro w;go_simp;rfl
 try simp only[tn]
 refine wpAny_take (i:=4) (v:=?_) rfl (by kernel_rfl) (by kernel_rfl) (by kernel_rfl) (fun _ _ _ h=>h) (Or.inl ⟨by rfl,?_⟩) ?_
 rotate_left
 ·intro w;go_simp;rfl
 try simp only[tn]
 refine wpAny_take (i:=5) (v:=?_) rfl (by kernel_rfl) (by kernel_rfl) (by kernel_rfl) (fun _ _ _ h=>h) (Or.inl ⟨by rfl,?_⟩) ?_
 rotate_left
 ·intro w;go_simp;rfl
 try simp only[tn]
 refine wpAny_take (i:=6) (v:=?_) rfl (by kernel_rfl) (by kernel_rfl) (by kernel_rfl) (fun _ _ _ h=>h) (Or.inl ⟨by rfl,?_⟩) ?_
 rotate_left
 ·intro w;go_simp;rfl
 try simp only[tn]
 refine wpAny_take (i:=7) (v:=?_) rfl (by kernel_rfl) (by kernel_rfl) (by kernel_rfl) (fun _ _ _ h=>h) (Or.inl ⟨by rfl,?_⟩) ?_
 rotate_left
 ·intro w;go_simp;rfl
 try simp only[tn]
 refine wpAny_ready (rs:=[8]) (by kernel_rfl) (by simp) ?_
 refine AllReady.cons rfl (fun K hK=>?_) AllReady.nil
 refine mu (by rfl) (.tmp 50) (.tmp 53) (by rfl) _ _ (by rfl) (by rfl) (HC.out _) ?_
 refine hK _ _ ?_
 clear hK K
 try simp only[tn]
 refine wpAny_done (by kernel_rfl) ?_ _
 clear Gv CE
 obtain⟨C2,Ez⟩: ∃C2,C2=R1.toArray.toList.take ((i+1)*4)++(cur.toList.drop (i*4)).take ((n-i)*4)++R1.toArray.toList.drop ((i+1)*4+((cur.toList.drop (i*4)).take ((n-i)*4)).length):=⟨_,rfl⟩
 rw[←Ez]
 have Qz:Hid (C2=_):=Ez
 clear Ez HC
 generalize W2.drew=W3 at *
 go_wp2
 go_ret
 obtain⟨q1,q2,q3,q4,q5,q6⟩:=HL.out
 refine⟨_,_,rfl,?_,q6,hG1,hG2,_,setRow_heap W3 H _ _ 58 _ q3,?_,?_⟩
 ·exact⟨q2.os,q2.tape,q2.output,by have:=q2.size;simpa[World.setRow]using this,fun k hk hr=>(setRow_other W3 H k _ (by omega)).trans (q2.block k hk hr)⟩
 ·have e:=q1.2.1;rw[Array.length_toList]at e;rw[List.size_toArray,Qz.out];exact e.trans q5
 ·have e:=q1.1;rw[Qz.out];simpa using e
theorem rv{ops:Array Oper}{rest:List Oper}{o:Oper}{a:Act}{w:World}{Q:Exit→Act→World→Prop}(cG:o.guard=none)(d s:Operand)
  (ho:o.op= .call {callee:=.builtin .append,args:=#[d,s],argTypes:=#[25,25]}) (v u:Value) (hd:a.eval d=v) (hs:a.eval s=u) {v':Value} {w':World}
  (hr:(Builtin.append_ #[25,25] o.type #[v,u]).run Tryz.prog w= .ok v' w') (h:wpList Tryz.prog ops Q rest (a.put o.dst v') w'):wpList Tryz.prog ops Q (o::rest) a w:=by
 refine wpList_plain cG fun K hK=>?_
 unfold Oper.wp execOp
 simp only[ho,resolve,invoke,builtin,Sem.run_bind,Sem.run_pure,Result.andThen_ok,List.map_toArray,List.map_cons,List.map_nil,hd,hs,hr]
 exact hK _ _ h
theorem js(w:World)(base:Nat)(ty:TypeId)(v:Value)(n:Nat)(xs:List Value)(yj:w.ownsRow base 58 4 v n xs)(vb:Nat)(ys:Array Value)(hv:w.heap[vb]? =some (.cells ys 58))(fF:ys.size=4)
  (h2: ∀v∈ys.toList,v.oneCell'=true) (hn:n≤1000) (xq:base≤w.heap.size):
  ∃v' w',(Builtin.append_ #[25,25] ty #[v,.slice (some ⟨vb,0,none⟩) 1 1]).run Tryz.prog w= .ok v' w'∧w'.ownsRow base 58 4 v' (n+1) (xs++ys.toList)∧w.grownBy w' v.ownBlock∧∀k,v'.ownBlock=some k→v.ownBlock=some k∨w.heap.size≤k:=by
 obtain⟨i0,sN,sW,xQ,pS⟩:=info_parts Tryz.info58
 have hl:ys.toList.length=1*4:=by rw[Array.length_toList,fF]
 have tA:=World.news_of_block hv
 obtain⟨v',w',hr,q1,q2,_⟩:=run_append_own (P:=Tryz.prog) w base 25 ty 58 i0 _ 4 56 Tryz.underlying25 sN sW xQ pS rfl (by omega) v n xs yj ⟨vb,0,none⟩ 1 1 ys.toList hl tA h2 (by unfold maxLen;omega) (by omega) xq
 refine⟨v',w',hr,q1,q2,?_⟩
 rcases yj.2 with⟨rfl,rfl⟩|⟨g,cap,cur,rfl,hbg,hg,SK,qt,mz,htake⟩
 ·obtain⟨v2,w2,qZ,p1,_,_⟩:=run_append_own (P:=Tryz.prog) w w.heap.size 25 ty 58 i0 _ 4 56 Tryz.underlying25 sN sW xQ pS rfl (by omega) _ 0 [] (World.ownsRow_nil _ _ _ _) ⟨vb,0,none⟩ 1 1 ys.toList hl tA h2 (by unfold maxLen;omega) (by omega) (Nat.le_refl _)
  rw[hr]at qZ
  cases qZ
  exact fun k hk=>.inr (p1.lt k hk).1
 ·by_cases hroom:n+1≤cap
  ·have qZ:=run_append_room (P:=Tryz.prog) w 25 ty 58 i0 Tryz.underlying25 sN g n cap cur hg ⟨vb,0,none⟩ 1 1 ys.toList (by rw[xQ];exact hl) tA h2 hroom (by rw[xQ,hl];omega)
   rw[hr]at qZ
   cases qZ
   exact fun k hk=>.inl hk
  ·have qZ:=run_append_grow (P:=Tryz.prog) w 25 ty 58 i0 _ Tryz.underlying25 sN sW ⟨g,0,none⟩ n cap xs (by rw[xQ];exact yj.1) (yj.cells (g:=g) rfl) ⟨vb,0,none⟩ 1 1 ys.toList (by rw[xQ];exact hl) tA (by omega) (by omega) (by rw[pS];exact growslice_fits (by omega) (by omega))
   rw[hr]at qZ
   cases qZ
   exact fun k hk=>.inr (by simp[Value.ownBlock]at hk;omega)
set_option maxRecDepth 100000 in
theorem TE(base n vb:Nat)(v:Value)(xs:List Value)(ys:Array Value)(w:World)(hn:n≤1000)(yj:w.ownsRow base 58 4 v n xs)
  (hv:w.heap[vb]? =some (.cells ys 58)) (fF:ys.size=4) (h2: ∀v∈ys.toList,v.oneCell'=true) (xq:base≤w.heap.size):
  Calls Tryz.prog 190 #[v,.int .i64 n,.slice (some ⟨vb,0,none⟩) 1 1] w fun e w'=>∃v',e= .returned v'∧w'.ownsRow base 58 4 v' (n+1) (xs++ys.toList)∧w.grownBy w' v.ownBlock∧∀k,v'.ownBlock=some k→v.ownBlock=some k∨w.heap.size≤k:=by
 obtain⟨v',w',hr,q1,q2,q3⟩:=js w base 25 v n xs yj vb ys hv fF h2 hn xq
 have HQ:Hid (w'.ownsRow base 58 4 v' (n+1) (xs++ys.toList)∧w.grownBy w' v.ownBlock∧∀k,v'.ownBlock=some k→v.ownBlock=some k∨w.heap.size≤k):=⟨q1,q2,q3⟩
 clear q1 q2 q3
 rcases yj.2 with⟨rfl,rfl⟩|⟨g,cap,cur,rfl,hbg,hg,SK,qt,mz,htake⟩
 ·clear yj hv fF h2
  go_enter Tryz.func190,Tryz.ntmps190
  go_wp2_with (refine rv rfl (.tmp 23) (.tmp 24) rfl _ _ (by rfl) (by rfl) hr ?_)
  go_ret
  exact⟨_,rfl,HQ.out⟩
 ·have zQ3:(n:Int)≤(cap:Int):=by omega
  have zQQ:cap≤9223372036854775807:=by unfold maxLen at qt;omega
  clear yj hv fF h2 hg htake mz
  go_enter Tryz.func190,Tryz.ntmps190
  go_wp2_with (refine rv rfl (.tmp 23) (.tmp 24) rfl _ _ (by rfl) (by rfl) hr ?_)
  all_goals (go_ret;exact⟨_,rfl,HQ.out⟩)
theorem UQ(base n i vb:Nat)(v:Value)(xs:List Value)(ys:Array Value)(w:World)(hi:i≤n)(hn:n≤1000)(yj:w.ownsRow base 58 4 v n xs)
  (hv:w.heap[vb]? =some (.cells ys 58)) (fF:ys.size=4) (yM:v.ownBlock≠some vb) (h1: ∀v∈xs,v.oneCell'=true) (h2: ∀v∈ys.toList,v.oneCell'=true) (xq:base≤w.heap.size):
  Calls Tryz.prog 190 #[v,.int .i64 i,.slice (some ⟨vb,0,none⟩) 1 1] w fun e w'=>∃v',e= .returned v'∧w'.ownsRow base 58 4 v' (n+1) (xs.take (i*4)++ys.toList++xs.drop (i*4))∧w.grownBy w' v.ownBlock∧∀k,v'.ownBlock=some k→v.ownBlock=some k∨w.heap.size≤k:=by
 rcases Nat.lt_or_ge i n with zN|bT
 ·rcases yj.2 with⟨rfl,rfl⟩|⟨g,cap,cur,rfl,hbg,hg,SK,qt,mz,htake⟩
  ·omega
  have Vg:=yj.1
  have hx1:cur.toList.take (i*4)=xs.take (i*4):=by
   rw[←htake,List.take_take];congr 1;omega
  have hx2:(cur.toList.drop (i*4)).take ((n-i)*4)=xs.drop (i*4):=by
   rw[←htake,List.take_drop];congr 2;omega
  have AU:(xs.take (i*4)++ys.toList++xs.drop (i*4)).length=(n+1)*4:=by
   simp only[List.length_append,List.length_take,List.length_drop,Array.length_toList];omega
  rcases Nat.lt_or_ge cap (n+1)with hc|hc
  ·refine(VW g n cap i vb cur ys w zN SK hc hn hg mz hv fF (by rw[htake];exact h1) h2).mono ?_
   rintro e w' ⟨H,G,rfl,fk,hH,hG,hGm,sw,Vd,hs',ht'⟩
   refine⟨_,rfl,⟨AU,.inr ⟨H,G,sw,rfl,by omega,Vd,hG,hGm,hs',?_⟩⟩,?_,?_⟩
   ·rw[ht',hx1,hx2]
   ·exact⟨fk.os,fk.tape,fk.output,fk.size,fun k hk _=>fk.block k hk (by simp)⟩
   ·intro k hk;cases hk;exact .inr hH
  ·refine(VK g n cap i vb cur ys w zN hc (by unfold maxLen at qt;omega) hn hg mz hv fF (fun e=>yM (by rw[e];rfl)) (by rw[htake];exact h1) h2).mono ?_
   rintro e w' ⟨rfl,fk,sw,Vd,hs',ht'⟩
   refine⟨_,rfl,⟨AU,.inr ⟨g,cap,sw,rfl,hbg,Vd,hc,qt,hs',?_⟩⟩,fk,fun k hk=>.inl hk⟩
   rw[ht',hx1,hx2]
 ·have fT:i=n:=by omega
  subst fT
  have Vg:=yj.1
  refine(TE base i vb v xs ys w hn yj hv fF h2 xq).mono ?_
  rintro e w' ⟨v',rfl,ho,fk,bc⟩
  refine⟨v',rfl,?_,fk,bc⟩
  rw[←Vg,List.take_length,List.drop_length,List.append_nil]
  exact ho
section
section
variable {P:Program} {ops:Array Oper} {Q:Exit→Act→World→Prop} {md:Region.Mode} {S:World→Prop} {ex:Nat→Bool}
def wpAnyE(P:Program)(md:Region.Mode)(ops:Array Oper)(Q:Exit→Act→World→Prop)(S:World→Prop)(ex:Nat→Bool):Nat→Array Bool→Act→World→Prop
 |0,l,a,w=>Region.ready md ops l=[]∧Q .normal a w
 |n+1,l,a,w=>(Region.ready md ops l=[]→Q .normal a w)∧
   ∀k∈Region.ready md ops l,wpOp P ops Q k (fun a' w'=>(ex k=false→S w')∧wpAnyE P md ops Q S ex n (l.setIfInBounds k true) a' w') a w
theorem wpAnyE.plain: ∀{n:Nat} {l:Array Bool} {a:Act} {w:World},wpAnyE P md ops Q S ex n l a w→wpAny P md ops Q n l a w
 |0,_,_,_,h=>h
 |_+1,_,_,_,h=>⟨h.1,fun k hk=>wpOp_mono (fun _ _ h'=>h'.2.plain) (h.2 k hk)⟩
def Su(md:Region.Mode)(ops:Array Oper)(ex:Nat→Bool)(i:Nat)(oi:Oper)(l:Array Bool):Prop:=
 ∀k ok,ops[k]? =some ok→k≠i→l.getD k true=false→(∀e∈ok.after,Region.binds md e=true→e.on≠i)→oi.apart ops ok=true∧ex k=false
theorem Su.set{i j:Nat}{oi:Oper}{l:Array Bool}(h:Su md ops ex i oi l)(hj:l.getD j true=false):Su md ops ex i oi (l.setIfInBounds j true):=by
 intro k ok hk XB T1 pQ
 by_cases e:j=k
 ·exact h k ok hk XB (e▸hj) pQ
 ·exact h k ok hk XB (by rwa[getD_set_ne true e]at T1) pQ
theorem Wd{i j:Nat}{oj:Oper}{l:Array Bool}(hi:i∈Region.ready md ops l)(Dw:ops[j]? =some oj)(hj:j∈Region.ready md ops l): ∀e∈oj.after,Region.binds md e=true→e.on≠i:=by
 intro e he hb heq
 obtain⟨_,o,ho,UB⟩:=mem_ready.1 hj
 rw[Dw]at ho
 cases ho
 have q1:=UB e he hb
 have q0:=(mem_ready.1 hi).1
 rw[heq]at q1
 rcases Nat.lt_or_ge i l.size with c|c
 ·simp[c]at q0 q1
  exact absurd (q0.symm.trans q1) (by simp)
 ·simp[Array.getElem?_eq_none c]at q1
theorem wpAnyE.first{i:Nat}{oi:Oper}{v:Value}(hi:ops[i]? =some oi)(hsel: ∀(j:Nat) (o:Oper) cs b,ops[j]? =some o→o.op≠ .select cs b)
  (hQ: ∀c a w,Q (.panic c) (a.put oi.dst v) w→Q (.panic c) a w) (n:Nat):
  ∀(l:Array Bool) (a:Act) (w:World),Su md ops ex i oi l→i∈Region.ready md ops l→YieldsIf P ops S oi v a→S w→
   wpAnyE P md ops Q S ex n (l.setIfInBounds i true) (a.put oi.dst v) w→wpAnyE P md ops Q S ex (n+1) l a w:=by
 induction n with
 |zero=>
  intro l a w _ hr hy hS H
  refine⟨fun h=>(by rw[h]at hr;cases hr),fun j hj=>?_⟩
  by_cases Vp:j=i
  ·subst Vp
   exact hy.wpOp hi hS ⟨fun _=>hS,H⟩
  ·have:=ready_mono hj Vp
   rw[H.1]at this
   cases this
 |succ n ih=>
  intro l a w hc hr hy hS H
  refine⟨fun h=>(by rw[h]at hr;cases hr),fun j hj=>?_⟩
  by_cases Vp:j=i
  ·subst Vp
   exact hy.wpOp hi hS ⟨fun _=>hS,H⟩
  ·obtain⟨T1,oj,Dw,_⟩:=mem_ready.1 hj
   obtain⟨DL,zIU⟩:=hc j oj Dw Vp T1 (Wd hr Dw hj)
   have AK:=wpOp_putIf Dw DL (fun cs b=>hsel i oi cs b hi) (fun cs b=>hsel j oj cs b Dw) hQ hy (H.2 j (ready_mono hj Vp))
   refine wpOp_mono (fun a' w' q=>⟨q.2.1,ih _ a' w' (hc.set T1) (ready_mono hr (Ne.symm Vp)) q.1 (q.2.1 zIU) ?_⟩) AK
   rw[Array.setIfInBounds_comm _ _ Vp]
   exact q.2.2
def Sa(md:Region.Mode)(ops:Array Oper)(ex:Nat→Bool)(i:Nat):Bool:=
 (List.range ops.size).all fun k=>!(ex k)||(match ops[k]? with|some o=>o.after.any fun e=>Region.binds md e&&e.on==i|none=>true)
theorem wpAnyE.take{i:Nat}{oi:Oper}{v:Value}{fuel:Nat}{l:Array Bool}{a:Act}{w:World}(hi:ops[i]? =some oi)
  (hs:Region.noSelect ops=true) (hf:Region.free md ops l i=true) (hr:(Region.ready md ops l).contains i=true) (hx:Sa md ops ex i=true)
  (hQ: ∀c a w,Q (.panic c) (a.put oi.dst v) w→Q (.panic c) a w) (hy:YieldsIf P ops S oi v a) (hS:S w)
  (h:wpAnyE P md ops Q S ex fuel (l.setIfInBounds i true) (a.put oi.dst v) w):wpAnyE P md ops Q S ex (fuel+1) l a w:=by
 refine wpAnyE.first hi (Region.noSelect_spec hs) hQ fuel l a w ?_ (by simpa using hr) hy hS h
 intro k ok hk XB T1 pQ
 refine⟨Region.free_spec hi hf k ok hk XB T1 pQ,?_⟩
 cases hxk:ex k with
 |false=>rfl
 |true=>
  exfalso
  have zN:k<ops.size:=by
   rcases Nat.lt_or_ge k ops.size with c|c
   ·exact c
   ·rw[Array.getElem?_eq_none c]at hk;cases hk
  have:=List.all_eq_true.1 hx k (List.mem_range.2 zN)
  simp only[hxk,hk,Bool.not_true,Bool.false_or]at this
  obtain⟨e,he,hb⟩:=Array.any_eq_true'.1 this
  simp only[Bool.and_eq_true,beq_iff_eq]at hb
  exact pQ e he hb.1 hb.2
theorem zAB(i:Nat)(v:Value){oi:Oper}{fuel:Nat}{l:Array Bool}{a:Act}{w:World}(hi:ops[i]? =some oi)(hy: ∀w,S w→(execOp a.eval oi).run P w= .ok (.value v) w)(hS:S w)(h:wpAnyE P md ops Q S ex fuel (l.setIfInBounds i true) (a.put oi.dst v) w)(hs:Region.noSelect ops=true:=by kernel_rfl) (hf:Region.free md ops l i=true:=by kernel_rfl) (hr:(Region.ready md ops l).contains i=true:=by kernel_rfl) (hx:Sa md ops ex i=true:=by kernel_rfl) (hQ: ∀c a w,Q (.panic c) (a.put oi.dst v) w→Q (.panic c) a w:=by exact fun _ _ _ h=>h) (hw:Region.wanted oi (yielded ops a.tmps)=true:=by rfl):wpAnyE P md ops Q S ex (fuel+1) l a w:=wpAnyE.take hi hs hf hr hx hQ (.inl ⟨hw,hy⟩) hS h
theorem zAA(i:Nat)(v:Value){oi:Oper}{fuel:Nat}{l:Array Bool}{a:Act}{w:World}(hi:ops[i]? =some oi)(hy: ∀w,S w→(execOp a.eval oi).run P w= .ok (.value v) w)(h:wpAnyE P md ops Q S ex fuel (l.setIfInBounds i true) (a.put oi.dst v) w)(hS:S w:=by assumption) (hs:Region.noSelect ops=true:=by kernel_rfl) (hf:Region.free md ops l i=true:=by kernel_rfl) (hr:(Region.ready md ops l).contains i=true:=by kernel_rfl) (hx:Sa md ops ex i=true:=by kernel_rfl) (hQ: ∀c a w,Q (.panic c) (a.put oi.dst v) w→Q (.panic c) a w:=by exact fun _ _ _ h=>h) (hw:Region.wanted oi (yielded ops a.tmps)=true:=by rfl):wpAnyE P md ops Q S ex (fuel+1) l a w:=wpAnyE.take hi hs hf hr hx hQ (.inl ⟨hw,hy⟩) hS h
theorem zAD(i:Nat){oi:Oper}{fuel:Nat}{l:Array Bool}{a:Act}{w:World}(hi:ops[i]? =some oi)(hS:S w)(h:wpAnyE P md ops Q S ex fuel (l.setIfInBounds i true) (a.put oi.dst undef) w)(hs:Region.noSelect ops=true:=by kernel_rfl) (hf:Region.free md ops l i=true:=by kernel_rfl) (hr:(Region.ready md ops l).contains i=true:=by kernel_rfl) (hx:Sa md ops ex i=true:=by kernel_rfl) (hQ: ∀c a w,Q (.panic c) (a.put oi.dst undef) w→Q (.panic c) a w:=by exact fun _ _ _ h=>h) (hw:Region.wanted oi (yielded ops a.tmps)=false:=by rfl):wpAnyE P md ops Q S ex (fuel+1) l a w:=wpAnyE.take hi hs hf hr hx hQ (.inr ⟨hw,rfl⟩) hS h
theorem wpAnyE.one{i:Nat}{o:Oper}{fuel:Nat}{l:Array Bool}{a:Act}{w:World}(hr:Region.ready md ops l=[i])(ho:ops[i]? =some o)
  (h: ∀K:Act→World→Prop,(∀a w,(ex i=false→S w)→wpAnyE P md ops Q S ex fuel (l.setIfInBounds i true) a w→K a w)→if Region.wanted o (yielded ops a.tmps)=true then Oper.wp P o a w K Q else K (a.put o.dst undef) w):
  wpAnyE P md ops Q S ex (fuel+1) l a w:=by
 refine⟨fun e=>(by rw[hr]at e;cases e),fun k hk=>?_⟩
 rw[hr]at hk
 obtain rfl:=List.mem_singleton.1 hk
 exact wpOp_step ho fun K hK=>h K fun a w h1 h2=>hK a w ⟨h1,h2⟩
theorem zAC(i:Nat){o:Oper}{fuel:Nat}{l:Array Bool}{a:Act}{w:World}(ho:ops[i]? =some o)(h: ∀K:Act→World→Prop, (∀a w, (ex i=false→S w)→wpAnyE P md ops Q S ex fuel (l.setIfInBounds i true) a w→K a w)→if Region.wanted o (yielded ops a.tmps)=true then Oper.wp P o a w K Q else K (a.put o.dst undef) w)(hr:Region.ready md ops l=[i]:=by kernel_rfl):wpAnyE P md ops Q S ex (fuel+1) l a w:=wpAnyE.one hr ho h
theorem wpAnyE.two{i j:Nat}{o u:Oper}{fuel:Nat}{l:Array Bool}{a:Act}{w:World}(hr:Region.ready md ops l=[i,j])(ho:ops[i]? =some o)(hu:ops[j]? =some u)
  (h: ∀K:Act→World→Prop,(∀a w,(ex i=false→S w)→wpAnyE P md ops Q S ex fuel (l.setIfInBounds i true) a w→K a w)→if Region.wanted o (yielded ops a.tmps)=true then Oper.wp P o a w K Q else K (a.put o.dst undef) w)
  (h': ∀K:Act→World→Prop,(∀a w,(ex j=false→S w)→wpAnyE P md ops Q S ex fuel (l.setIfInBounds j true) a w→K a w)→if Region.wanted u (yielded ops a.tmps)=true then Oper.wp P u a w K Q else K (a.put u.dst undef) w):
  wpAnyE P md ops Q S ex (fuel+1) l a w:=by
 refine⟨fun e=>(by rw[hr]at e;cases e),fun k hk=>?_⟩
 rw[hr]at hk
 rcases List.mem_cons.1 hk with rfl|hk
 ·exact wpOp_step ho fun K hK=>h K fun a w h1 h2=>hK a w ⟨h1,h2⟩
 ·obtain rfl:=List.mem_singleton.1 hk
  exact wpOp_step hu fun K hK=>h' K fun a w h1 h2=>hK a w ⟨h1,h2⟩
theorem wpAnyE.done{fuel:Nat}{l:Array Bool}{a:Act}{w:World}(hr:Region.ready md ops l=[])(h:Q .normal a w):wpAnyE P md ops Q S ex fuel l a w:=by
 cases fuel with
 |zero=>exact⟨hr,h⟩
 |succ n=>exact⟨fun _=>h,by rw[hr];simp⟩
theorem zAE{fuel:Nat}{l:Array Bool}{a:Act}{w:World}(h:Q .normal a w)(hr:Region.ready md ops l=[]:=by kernel_rfl):wpAnyE P md ops Q S ex fuel l a w:=wpAnyE.done hr h
theorem zS{id:Nat}{a:Act}{w:World}(S:World→Prop)(ex:Nat→Bool)(hm:P.follows .mixedOrders=true)(hS:S w.drew)
  (h:S w.drew→wpAnyE P .any ops Q S ex ops.size (Array.replicate ops.size false) a w.drew):(Code.region id ops true).wp P Q a w:=
 wp_region_any hm (h hS).plain
end
end
structure Pl where
 x:Ob
 sa:Option Addr
 sc:Nat
def Pl.cells(r:Pl):List Value:=[.int .i64 r.x.id,.int .i64 r.x.kind,.slice r.sa r.x.links.length r.sc,.string r.x.text]
def xE:List Pl→List Value
 |[]=>[]
 |r::rs=>r.cells++xE rs
theorem xh(A B:List Pl):xE (A++B)=xE A++xE B:=by
 induction A with
 |nil=>rfl
 |cons r A ih=>simp[xE,ih,List.append_assoc]
theorem xe(A:List Pl):(xE A).length=A.length*4:=by
 induction A with
 |nil=>rfl
 |cons r A ih=>simp[xE,ih,Pl.cells];omega
theorem QA(A:List Pl)(i:Nat)(hi:i≤A.length):(xE A).take (i*4)=xE (A.take i):=by
 have h:=xh (A.take i) (A.drop i)
 rw[List.take_append_drop]at h
 rw[h,List.take_append_of_le_length (by rw[xe,List.length_take];omega),List.take_of_length_le (by rw[xe,List.length_take];omega)]
theorem RW(A:List Pl)(i:Nat)(hi:i≤A.length):(xE A).drop (i*4)=xE (A.drop i):=by
 have h:=xh (A.take i) (A.drop i)
 rw[List.take_append_drop]at h
 rw[h,show i*4=(xE (A.take i)).length by rw[xe,List.length_take];omega,List.drop_left]
theorem VH(A:List Pl): ∀v∈xE A,v.oneCell'=true:=by
 induction A with
 |nil=>intro v h;cases h
 |cons r A ih=>
  intro v h
  rcases List.mem_append.1 h with h|h
  ·simp only[Pl.cells,List.mem_cons,List.not_mem_nil,or_false]at h
   rcases h with rfl|rfl|rfl|rfl<;>rfl
  ·exact ih v h
theorem ro(A:List Pl)(i j:Nat)(hi:i<A.length)(hj:j<4):(xE A)[i*4+j]? =(A[i].cells)[j]?:=by
 induction A generalizing i with
 |nil=>simp at hi
 |cons r A ih=>
  cases i with
  |zero=>
   simp only[xE,Nat.zero_mul,Nat.zero_add,List.getElem_cons_zero]
   exact List.getElem?_append_left (by simpa[Pl.cells]using hj)
  |succ i=>
   have:=ih i (by simpa using hi)
   rw[List.getElem_cons_succ,←this]
   simp only[xE]
   rw[List.getElem?_append_right (by simp[Pl.cells];omega)]
   congr 1
   simp[Pl.cells];omega
def E5(w:World)(z:Nat)(blk:Option Nat)(r:Pl):Prop:=
 (r.x.links.length≤1000∧r.x.links.length≤r.sc)∧(0<r.x.links.length→∃b off,r.sa=some ⟨b,off,none⟩∧z≤b∧b<w.heap.size∧blk≠some b∧∀i,i<r.x.links.length→w.cell? ⟨b,off+i,none⟩=some (.int .i64 (r.x.links.getD i 0)))
theorem E5.holds{w:World}{z:Nat}{blk:Option Nat}{r:Pl}(h:E5 w z blk r):yD w r.sa r.x.links:=by
 intro i hi
 obtain⟨b,off,e,_,zN,_,hc⟩:=h.2 (by omega)
 exact⟨b,off,e,zN,hc⟩
structure xt(w:World)(z:Nat)(v:Value)(rs:List Pl):Prop where
 own:w.ownsRow z 58 4 v rs.length (xE rs)
 each: ∀r∈rs,E5 w z v.ownBlock r
structure Shelf(w:World)(z p:Nat)(v:Value)(rs:List Pl):Prop where
 zp:z≤p
 blk:w.heap[p]? =some (.cells #[v] 181)
 sep:v.ownBlock≠some p
 objs:xt w z v rs
 off: ∀r∈rs,0<r.x.links.length→∀b off,r.sa=some ⟨b,off,none⟩→b≠p
theorem Shelf.own{w:World}{z p:Nat}{v:Value}{rs:List Pl}(h:Shelf w z p v rs):w.ownsRow z 58 4 v rs.length (xE rs):=h.objs.own
theorem Shelf.each{w:World}{z p:Nat}{v:Value}{rs:List Pl}(h:Shelf w z p v rs): ∀r∈rs,E5 w z v.ownBlock r:=h.objs.each
theorem zG{w:World}{k:Nat}{o:Obj}(h:w.heap[k]? =some o):k<w.heap.size:=by
 rcases Nat.lt_or_ge k w.heap.size with c|c
 ·exact c
 ·rw[Array.getElem?_eq_none c]at h;cases h
theorem zA5{w w':World}{b:Nat}{o:Obj}(h:Below w.heap.size w w')(k:w.heap[b]? =some o):w'.heap[b]? =some o:=(h.block _ (zG k)).trans k
theorem rM{w w':World}{base:Nat}{v:Value}{n:Nat}{xs:List Value}(h:w.ownsRow base 58 4 v n xs)(hs: ∀g,v.ownBlock=some g→w'.heap[g]? =w.heap[g]?):w'.ownsRow base 58 4 v n xs:=by
 refine⟨h.1,?_⟩
 rcases h.2 with h|⟨g,cap,cur,rfl,h1,h2,h3⟩
 ·exact .inl h
 ·exact .inr ⟨g,cap,cur,rfl,h1,(hs g rfl).trans h2,h3⟩
theorem Shelf.lt{w:World}{z p:Nat}{v:Value}{rs:List Pl}(h:Shelf w z p v rs):p<w.heap.size:=zG h.blk
theorem xt.below{w w':World}{z:Nat}{v:Value}{rs:List Pl}(h:xt w z v rs)(hb:Below w.heap.size w w'):xt w' z v rs:=by
 refine⟨rM h.own (fun g hg=>hb.block g (h.own.lt g hg).2),fun r hr=>?_⟩
 obtain⟨h1,h2⟩:=h.each r hr
 refine⟨h1,fun h0=>?_⟩
 obtain⟨b,off,e,Zb,zN,yM,hc⟩:=h2 h0
 exact⟨b,off,e,Zb,Nat.lt_of_lt_of_le zN hb.size,yM,fun i hi=>(hb.cell (p:=⟨b,off+i,none⟩) zN).trans (hc i hi)⟩
theorem Shelf.below{w w':World}{z p:Nat}{v:Value}{rs:List Pl}(h:Shelf w z p v rs)(hb:Below w.heap.size w w'):Shelf w' z p v rs:=
 ⟨h.zp,(hb.block p h.lt).trans h.blk,h.sep,h.objs.below hb,h.off⟩
theorem Shelf.cell{w:World}{z p:Nat}{v:Value}{rs:List Pl}(h:Shelf w z p v rs):w.cell? ⟨p,0,none⟩=some v:=by
 simp[World.cell?,h.blk]
theorem Shelf.frozen{w:World}{z p:Nat}{v:Value}{rs:List Pl}(h:Shelf w z p v rs):w.frozen? ⟨p,0,none⟩=false:=by
 simp[World.frozen?,h.blk]
theorem xt.reads{w:World}{z:Nat}{v:Value}{rs:List Pl}(h:xt w z v rs): ∃a c,v= .slice a (rs.map Pl.x).length c∧zP w a (rs.map Pl.x)∧rs.length≤c:=by
 rw[List.length_map]
 rcases h.own.2 with⟨rfl,e⟩|⟨g,cap,cur,rfl,h1,h2,h3,h4,h5,h6⟩
 ·rw[e]
  refine⟨none,0,rfl,fun i hi=>?_,Nat.le_refl _⟩
  rw[List.length_map]at hi;omega
 ·refine⟨_,_,rfl,fun i hi=>⟨g,0,rfl,zG h2,fun k hk=>?_⟩,h3⟩
  rw[List.length_map]at hk
  have hc: ∀j,j<4→w.cell? ⟨g,0+k*4+j,none⟩=(rs[k].cells)[j]?:=fun j hj=>by
   rw[Nat.zero_add,cell_of_row w g _ _ _ _ h2,←ro rs k j hk hj,←h6,List.getElem?_take,if_pos (by omega)]
   simp
  have hr:=h.each rs[k] (List.getElem_mem hk)
  refine⟨rs[k].sa,rs[k].sc,?_⟩
  rw[List.getElem_map]
  exact⟨by simpa[Pl.cells]using hc 0 (by omega),by simpa[Pl.cells]using hc 1 (by omega),by simpa[Pl.cells]using hc 2 (by omega),by simpa[Pl.cells]using hc 3 (by omega),hr.holds,by have:=hr.1;omega⟩
theorem Shelf.reads{w:World}{z p:Nat}{v:Value}{rs:List Pl}(h:Shelf w z p v rs): ∃a c,v= .slice a (rs.map Pl.x).length c∧zP w a (rs.map Pl.x)∧rs.length≤c:=h.objs.reads
def rT(w:World)(a:Option Addr)(l:List Ob):Prop:=∀b off,a=some ⟨b,off,none⟩→∀k,k<l.length→b<w.heap.size∧∀sa n sc,w.cell? ⟨b,off+k*4+2,none⟩=some (.slice sa n sc)→n≤sc
theorem rT.below{w w':World}{a:Option Addr}{l:List Ob}(h:rT w a l)(hb:Below w.heap.size w w'):rT w' a l:=fun b off e k hk=>by
 obtain⟨h1,h2⟩:=h b off e k hk
 refine⟨Nat.lt_of_lt_of_le h1 hb.size,fun sa n sc hc=>h2 sa n sc ?_⟩
 rwa[hb.cell (p:=⟨b,off+k*4+2,none⟩) h1]at hc
theorem xt.room{w:World}{z:Nat}{rs:List Pl}{a:Option Addr}{n c:Nat}(h:xt w z (.slice a n c) rs):rT w a (rs.map Pl.x):=by
 intro b off ea k hk
 rw[List.length_map]at hk
 rcases h.own.2 with⟨_,e⟩|⟨g,cap,cur,e,h1,h2,h3,h4,h5,h6⟩
 ·omega
 ·have ea2:a=some ⟨g,0,none⟩:=by cases e;rfl
  rw[ea]at ea2
  cases ea2
  refine⟨zG h2,fun sa n sc hc=>?_⟩
  have hq:w.cell? ⟨b,0+k*4+2,none⟩=(rs[k].cells)[2]?:=by
   rw[Nat.zero_add,cell_of_row w b _ _ _ _ h2,←ro rs k 2 hk (by omega),←h6,List.getElem?_take,if_pos (by omega)]
   simp
  rw[hc]at hq
  simp only[Pl.cells,List.getElem?_cons_succ,List.getElem?_cons_zero,Option.some.injEq,Value.slice.injEq]at hq
  have:=(h.each rs[k] (List.getElem_mem hk)).1.2
  omega
theorem Shelf.room{w:World}{z p:Nat}{rs:List Pl}{a:Option Addr}{n c:Nat}(h:Shelf w z p (.slice a n c) rs):rT w a (rs.map Pl.x):=h.objs.room
theorem xt.next{w w1 w2:World}{z:Nat}{v v':Value}{rs rs':List Pl}{r:Pl}(h:xt w z v rs)(hz:z≤w.heap.size)(hb:Below w.heap.size w w1)(hg:w1.grownBy w2 v.ownBlock)
  (ho:w2.ownsRow z 58 4 v' rs'.length (xE rs')) (hk: ∀k,v'.ownBlock=some k→v.ownBlock=some k∨w1.heap.size≤k)
  (hm: ∀s∈rs',s∈rs∨s=r) (hl:r.x.links.length≤1000∧r.x.links.length≤r.sc) (hr:yD w1 r.sa r.x.links) (Hm: ∀b off,r.sa=some ⟨b,off,none⟩→w.heap.size≤b):
  xt w2 z v' rs'∧Below z w w2:=by
 have h1:=h.below hb
 have ZQ:=hb.size
 have mx:=hg.size
 refine⟨⟨ho,?_⟩,?_⟩
 ·intro s hs
  have key:(s.x.links.length≤1000∧s.x.links.length≤s.sc)∧(0<s.x.links.length→∃b off,s.sa=some ⟨b,off,none⟩∧z≤b∧b<w1.heap.size∧v.ownBlock≠some b∧∀i,i<s.x.links.length→w1.cell? ⟨b,off+i,none⟩=some (.int .i64 (s.x.links.getD i 0))):=by
   rcases hm s hs with fT|rfl
   ·exact h1.each s fT
   ·refine⟨hl,fun h0=>?_⟩
    obtain⟨b,off,e,zN,hc⟩:=hr 0 h0
    have bT:=Hm b off e
    exact⟨b,off,e,by omega,zN,fun e'=>by have:=(h.own.lt b e').2;omega,hc⟩
  refine⟨key.1,fun h0=>?_⟩
  obtain⟨b,off,e,Zb,zN,yM,hc⟩:=key.2 h0
  refine⟨b,off,e,Zb,by omega,fun e'=>?_,fun i hi=>?_⟩
  ·rcases hk b e' with q|q
   ·exact yM q
   ·omega
  ·rw[World.cell?_of_block (a:=⟨b,off+i,none⟩) (hg.block b zN (fun q=>yM q.symm))]
   exact hc i hi
 ·refine⟨hg.os.trans hb.os,hg.tape.trans hb.tape,hg.output.trans hb.output,by omega,fun k hk=>?_⟩
  rw[hg.block k (by omega) (fun e=>by have:=(h.own.lt k e.symm).1;omega)]
  exact hb.block k (by omega)
theorem Shelf.next{w w1 w2:World}{z p:Nat}{v v':Value}{rs rs':List Pl}{r:Pl}(h:Shelf w z p v rs)(hb:Below w.heap.size w w1)(hg:w1.grownBy w2 v.ownBlock)
  (ho:w2.ownsRow z 58 4 v' rs'.length (xE rs')) (hk: ∀k,v'.ownBlock=some k→v.ownBlock=some k∨w1.heap.size≤k)
  (hm: ∀s∈rs',s∈rs∨s=r) (hl:r.x.links.length≤1000∧r.x.links.length≤r.sc) (hr:yD w1 r.sa r.x.links) (Hm: ∀b off,r.sa=some ⟨b,off,none⟩→w.heap.size≤b):
  Shelf (w2.setCell ⟨p,0,none⟩ v') z p v' rs'∧Below z w (w2.setCell ⟨p,0,none⟩ v'):=by
 have qv:=h.lt
 have hzp:=h.zp
 obtain⟨O,HB⟩:=h.objs.next (by omega) hb hg ho hk hm hl hr Hm
 have h1:=h.below hb
 have EW:w2.heap[p]? =some (.cells #[v] 181):=(hg.block p h1.lt (fun e=>h.sep e.symm)).trans h1.blk
 have Yc: ∀k,k≠p→(w2.setCell ⟨p,0,none⟩ v').heap[k]? =w2.heap[k]?:=fun k hk=>heap_setCell_other w2 ⟨p,0,none⟩ k v' hk
 have gB:(w2.setCell ⟨p,0,none⟩ v').heap.size=w2.heap.size:=World.size_setCell _ _ _
 have ZQ:=hb.size
 have mx:=hg.size
 have BV:v'.ownBlock≠some p:=fun e=>by
  rcases hk p e with q|q
  ·exact h.sep q
  ·omega
 have zA1: ∀s∈rs',0<s.x.links.length→∀b off,s.sa=some ⟨b,off,none⟩→b≠p:=fun s hs h0 b off e=>by
  rcases hm s hs with fT|rfl
  ·exact h.off s fT h0 b off e
  ·have:=Hm b off e;omega
 refine⟨⟨hzp,?_,BV,⟨?_,?_⟩,zA1⟩,?_⟩
 ·have:=heap_setCell_same w2 p 0 #[v] 181 v' EW
  simpa using this
 ·exact rM O.own (fun g e=>Yc g (fun q=>BV (q▸e)))
 ·intro s hs
  obtain⟨k1,k2⟩:=O.each s hs
  refine⟨k1,fun h0=>?_⟩
  obtain⟨b,off,e,Zb,zN,yM,hc⟩:=k2 h0
  refine⟨b,off,e,Zb,by omega,yM,fun i hi=>?_⟩
  rw[World.cell?_of_block (a:=⟨b,off+i,none⟩) (Yc b (zA1 s hs h0 b off e))]
  exact hc i hi
 ·refine⟨HB.os,HB.tape,HB.output,by have:=HB.size;omega,fun k hk=>?_⟩
  rw[Yc k (by omega)]
  exact HB.block k hk
theorem rY{w:World}{base:Nat}{v:Value}{n:Nat}{xs:List Value}(h:w.ownsRow base 58 4 v n xs): ∃g m c,v= .slice g m c:=by
 rcases h.2 with⟨e,_⟩|⟨g,cap,_,e,_⟩
 ·exact⟨_,_,_,e⟩
 ·exact⟨_,_,_,e⟩
theorem xH.grown{B:Nat}{x0 x1 x2 x3:Value}{w w':World}{row:Option Nat}(h:xH B x0 x1 x2 x3 w)(hg:w.grownBy w' row)(hn:row≠some B):xH B x0 x1 x2 x3 w':=by
 have e:=hg.block B h.lt (Ne.symm hn)
 exact⟨(World.cell?_of_block (a:=⟨B,0,none⟩) e).trans h.c0,(World.cell?_of_block (a:=⟨B,1,none⟩) e).trans h.c1,(World.cell?_of_block (a:=⟨B,2,none⟩) e).trans h.c2,(World.cell?_of_block (a:=⟨B,3,none⟩) e).trans h.c3,
  (World.frozen?_of_block (a:=⟨B,0,none⟩) e).trans h.f0,(World.frozen?_of_block (a:=⟨B,1,none⟩) e).trans h.f1,(World.frozen?_of_block (a:=⟨B,2,none⟩) e).trans h.f2,(World.frozen?_of_block (a:=⟨B,3,none⟩) e).trans h.f3,Nat.lt_of_lt_of_le h.lt hg.size⟩
theorem nM{t:TypeId}{ops:Array Oper}{rest:List Oper}{o:Oper}{a:Act}{w:World}{Q:Exit→Act→World→Prop}(cG:o.guard=none)(d s:Operand)
  (ho:o.op= .call {callee:=.builtin .append,args:=#[d,s],argTypes:=#[t,t]}) (v u:Value) (hd:a.eval d=v) (hs:a.eval s=u) {v':Value} {w':World}
  (hr:(Builtin.append_ #[t,t] o.type #[v,u]).run Tryz.prog w= .ok v' w') (h:wpList Tryz.prog ops Q rest (a.put o.dst v') w'):wpList Tryz.prog ops Q (o::rest) a w:=by
 refine wpList_plain cG fun K hK=>?_
 unfold Oper.wp execOp
 simp only[ho,resolve,invoke,builtin,Sem.run_bind,Sem.run_pure,Result.andThen_ok,List.map_toArray,List.map_cons,List.map_nil,hd,hs,hr]
 exact hK _ _ h
theorem xt.shelf{w:World}{z:Nat}{v:Value}{rs:List Pl}(h:xt w z v rs)(hz:z≤w.heap.size):Shelf (w.alloc (.cells #[v] 181)) z w.heap.size v rs:=
 ⟨hz,heap_alloc_new w _,fun e=>by have:=(h.own.lt _ e).2;omega,h.below (zB _ _),fun r hr h0 b off e=>by
  obtain⟨b',kQ,e',_,zN,_⟩:=(h.each r hr).2 h0
  rw[e]at e'
  cases e'
  omega⟩
theorem qT(a:Option Addr)(c:Nat)(l:List Ob)(w:World)(h:zP w a l)(hl:l.length≤1000)(hx: ∀x∈l,x.links.length≤1000):
  Calls Tryz.prog 130 #[.slice a l.length c] w fun e w'=>∃v rs,e= .returned v∧rs.map Pl.x=l∧xt w' w.heap.size v rs∧Below w.heap.size w w':=by
 have S0:xt w w.heap.size (.slice none 0 0) []:=⟨World.ownsRow_nil _ _ _ _,fun r hr=>by cases hr⟩
 go_enter Tryz.func130,Tryz.ntmps130
 go_wp2
 go_loopw [3,8] (fun o i wr=>∃(k:Nat) (v:Value) (rs:List Pl),i= .int .i64 k∧o=v∧k≤l.length∧rs.map Pl.x=l.take k∧xt wr w.heap.size v rs∧Below w.heap.size w wr) (fun _ i _=>l.length-(intOf i).toNat)
 case atStart=>exact⟨0,_,[],rfl,rfl,Nat.zero_le _,rfl,S0,Below.refl _ _⟩
 case round=>
  clear S0
  obtain⟨k,v,rs,rfl,rfl,hk,tM,SH,HB⟩:=hrel
  obtain⟨g0,m0,c0,rfl⟩:=rY SH.own
  by_cases zN:k<l.length
  ·obtain⟨b,off,rfl,hb,hc⟩:=h k zN
   have hO:=(hc k zN).below HB hb
   clear hc
   obtain⟨sa,sc,y0,y1,y2,y3,y4,y5⟩:=hO
   have hA:=zB wr (.cells #[.int .i64 l[k].id,.int .i64 l[k].kind,.slice sa l[k].links.length sc,.string l[k].text] 58)
   have SA:=SH.below hA
   have C:=xH.new wr (.int .i64 l[k].id) (.int .i64 l[k].kind) (.slice sa l[k].links.length sc) (.string l[k].text) 58
   have hH:=y4.below hA
   have Vg:=hx l[k] (List.getElem_mem zN)
   have TZ:=bt HB hA
   go_wp2_with fail
   generalize wr.alloc (.cells #[.int .i64 l[k].id,.int .i64 l[k].kind,.slice sa l[k].links.length sc,.string l[k].text] 58)=W at *
   clear y0 y1 y2 y3 y4 hA HB SH
   refine(pn l[k] sa sc W hH Vg).mono ?_
   rintro e W1 ⟨ta,tc,rfl,bW,zM,bc,Ha⟩
   have zZ:=zB W1 (.cells #[.int .i64 l[k].id,.int .i64 l[k].kind,.slice ta l[k].links.length tc,.string l[k].text] 58)
   have Mw:=heap_alloc_new W1 (.cells #[.int .i64 l[k].id,.int .i64 l[k].kind,.slice ta l[k].links.length tc,.string l[k].text] 58)
   have SH2:=(SA.below zM).below zZ
   have aP:rs.length=k:=by have:=congrArg List.length tM;rw[List.length_map,List.length_take]at this;omega
   have J5:=Nat.le_trans TZ.size (Nat.le_trans zM.size zZ.size)
   obtain⟨v',W3,b6,gA,Vh,Ex⟩:=js _ w.heap.size 25 _ rs.length (xE rs) SH2.own W1.heap.size _ Mw rfl (by intro u hu;simp only[List.mem_cons,List.not_mem_nil,or_false]at hu;rcases hu with rfl|rfl|rfl|rfl<;>rfl) (by omega) J5
   obtain⟨g',m',c',rfl⟩:=rY gA
   have NX:=SA.next (rs':=rs++[⟨l[k],ta,tc⟩]) (r:=⟨l[k],ta,tc⟩) TZ.size ((bt zM zZ)) Vh (by rw[List.length_append,xh];exact gA) Ex (by intro s hs;rcases List.mem_append.1 hs with q|q;exact .inl q;exact .inr (List.mem_singleton.1 q)) ⟨Vg,Ha⟩ (bW.below zZ) bc
   have Yt:=TZ.trans (NX.2.mono (Nat.le_refl _))
   have hM:(rs++[(⟨l[k],ta,tc⟩:Pl)]).map Pl.x=l.take (k+1):=by rw[List.map_append,tM,List.take_succ_eq_append_getElem zN];rfl
   have HN:Hid (_∧_∧_):=⟨hM,NX.1,Yt⟩
   clear NX Yt hM Ex Vh gA SH2 Mw zZ zM bW bc Ha SA C TZ hH J5
   go_wp2_with (at_builtin;refine nM (by rfl) (.tmp 12) (.tmp 15) (by rfl) _ _ (by rfl) (by rfl) b6 ?_)
   go_roundw
   case rel=>exact⟨k+1,_,_,by go_num,rfl,by omega,HN.out.1,HN.out.2.1,HN.out.2.2⟩
   case measure=>simp[intOf];omega
  ·have hM:rs.map Pl.x=l:=by rw[tM,List.take_of_length_le (by omega)]
   have HN:Hid (_∧_∧_):=⟨hM,SH,HB⟩
   clear hM SH HB tM
   go_wp2
   go_ret
   exact⟨_,rs,rfl,HN.out.1,HN.out.2.1,HN.out.2.2⟩
theorem jr(a:Option Addr)(c:Nat)(l:List Ob)(w:World)(h:zP w a l)(hl:l.length≤1000)(hx: ∀x∈l,x.links.length≤1000):
  Calls Tryz.prog 135 #[.slice a l.length c] w fun e w'=>∃p v rs,e= .returned (.pointer (some ⟨p,0,none⟩))∧rs.map Pl.x=l∧Shelf w' w.heap.size p v rs∧Below w.heap.size w w':=by
 go_enter Tryz.func135,Tryz.ntmps135
 go_wp2_with fail
 refine(qT a c l w h hl hx).mono ?_
 rintro e w1 ⟨v,rs,rfl,tM,O1,zM⟩
 obtain⟨g',m',c',rfl⟩:=rY O1.own
 have SH:Hid (_∧_):=⟨O1.shelf zM.size,zM.trans ((zB w1 (.cells #[.slice g' m' c'] 181)).mono zM.size)⟩
 clear O1 zM
 go_wp2
 go_ret
 exact⟨_,_,rs,rfl,tM,SH.out.1,SH.out.2⟩
def Ut:Bool→Int
 |true=>0
 |false=>6
theorem M3(z p:Nat)(v:Value)(rs:List Pl)(L:List Ob)(HL:Hid (rs.map Pl.x=L))(x:Ob)(sa:Option Addr)(sc:Nat)(w:World)(SH:Shelf w z p v rs)(hn:rs.length≤1000)(hx:yD w sa x.links)(Vg:x.links.length≤1000)(hp:zW L x.id= -1):
  Calls Tryz.prog 136 #[.pointer (some ⟨p,0,none⟩),x.val sa sc] w fun e w'=>∃v' rs',e= .returned (.int .i64 0)∧rs'.map Pl.x=L.take (yV L x.id)++[x]++L.drop (yV L x.id)∧Shelf w' z p v' rs'∧Below z w w':=by
 obtain⟨a,c,rfl,E4,rg⟩:=SH.reads
 rw[HL.out]at E4 SH
 have Lb:Hid (L.length=rs.length):=by rw[←HL.out,List.length_map];exact rfl
 have hLn:L.length≤1000:=by rw[Lb.out];exact hn
 have hA:=zB w (.cells #[.int .i64 x.id,.int .i64 x.kind,.slice sa x.links.length sc,.string x.text] 58)
 have SA:=SH.below hA
 have C:=xH.new w (.int .i64 x.id) (.int .i64 x.kind) (.slice sa x.links.length sc) (.string x.text) 58
 have hH:=hx.below hA
 have hS:=E4.below hA
 have PV: ∀g,(Value.slice a L.length c).ownBlock=some g→g<w.heap.size:=fun g e=>(SH.own.lt g e).2
 have Bh:=SH.lt
 go_enter Tryz.func136,Tryz.ntmps136
 go_wp2_with fail
 generalize w.alloc (.cells #[.int .i64 x.id,.int .i64 x.kind,.slice sa x.links.length sc,.string x.text] 58)=W at *
 obtain⟨B,hB⟩: ∃B,B=w.heap.size:=⟨_,rfl⟩
 rw[←hB]at C PV Bh hA⊢
 have SD:=SA.below (Below.refl W.heap.size W).drew
 have aQ:=hH.below (Below.refl W.heap.size W).drew
 have Lm:=hS.below (Below.refl W.heap.size W).drew
 have CD:=C.below (Below.refl W.heap.size W).drew C.lt
 have dA:=hA.trans ((Below.refl W.heap.size W).drew.mono (by rw[hB];exact hA.size))
 have HBw:Hid (B=w.heap.size):=hB
 clear hB
 clear SA hH C hA hS E4 hx SH
 refine zS (fun W=>W.cell? ⟨p,0,none⟩=some (.slice a L.length c)∧xH B (.int .i64 x.id) (.int .i64 x.kind) (.slice sa x.links.length sc) (.string x.text) W) (fun _=>false) (by kernel_rfl) ⟨SD.cell,CD⟩ (fun hS=>?_)
 refine zAA 0 ?_ rfl ?_ ?_;rotate_left
 ·intro w zD;obtain⟨z,zb⟩:=zD;have z0:=zb.c0;have z1:=zb.c1;have z2:=zb.c2;have z3:=zb.c3;clear zb;go_simp;rfl
 try simp only[tn]
 refine zAA 1 ?_ rfl ?_ ?_;rotate_left
 ·intro w zD;obtain⟨z,zb⟩:=zD;have z0:=zb.c0;have z1:=zb.c1;have z2:=zb.c2;have z3:=zb.c3;clear zb;go_simp;rfl
 try simp only[tn]
 refine zAA 2 ?_ rfl ?_ ?_;rotate_left
 ·intro w zD;obtain⟨z,zb⟩:=zD;have z0:=zb.c0;have z1:=zb.c1;have z2:=zb.c2;have z3:=zb.c3;clear zb;go_simp;rfl
 try simp only[tn]
 refine zAA 3 ?_ rfl ?_ ?_;rotate_left
 ·intro w zD;obtain⟨z,zb⟩:=zD;have z0:=zb.c0;have z1:=zb.c1;have z2:=zb.c2;have z3:=zb.c3;clear zb;go_simp;rfl
 try simp only[tn]
 refine zAA 4 ?_ rfl ?_ ?_;rotate_left
 ·intro w zD;obtain⟨z,zb⟩:=zD;have z0:=zb.c0;have z1:=zb.c1;have z2:=zb.c2;have z3:=zb.c3;clear zb;go_simp;rfl
 try simp only[tn]
 refine zAA 5 ?_ rfl ?_ ?_;rotate_left
 ·intro w zD;obtain⟨z,zb⟩:=zD;have z0:=zb.c0;have z1:=zb.c1;have z2:=zb.c2;have z3:=zb.c3;clear zb;go_simp;rfl
 try simp only[tn]
 generalize W.drew=W0 at *
 refine zAC 6 rfl fun K hK=>?_
 go_simp
 refine(qw a c L x.id W0 Lm (by omega)).mono ?_
 rintro e W1 ⟨rfl,zM⟩
 have ue:W1.cell? ⟨p,0,none⟩=some (.slice a L.length c)∧xH B (.int .i64 x.id) (.int .i64 x.kind) (.slice sa x.links.length sc) (.string x.text) W1:=⟨(SD.below zM).cell,CD.below zM CD.lt⟩
 refine hK _ _ (fun _=>ue) ?_
 clear hK K
 try simp only[tn]
 clear hS
 refine zAC 7 rfl fun K hK=>?_
 go_simp
 refine hK _ _ (fun _=>ue) ?_
 clear hK K
 try simp only[tn]
 refine zAE ?_
 have S1:=SD.below zM
 have Lc:=aQ.below zM
 have Vi:=Lm.below zM
 have X5:=dA.trans (zM.mono (by have:=CD.lt;omega))
 have C1:=ue.2
 clear SD aQ Lm dA CD zM ue
 go_wp2_with fail
 have SD:=S1.below (Below.refl W1.heap.size W1).drew
 have aQ:=Lc.below (Below.refl W1.heap.size W1).drew
 have Lm:=Vi.below (Below.refl W1.heap.size W1).drew
 have CD:=C1.below (Below.refl W1.heap.size W1).drew C1.lt
 have dA:=X5.trans ((Below.refl W1.heap.size W1).drew.mono (by have:=C1.lt;omega))
 clear S1 Lc Vi C1 X5
 refine zS (fun W=>W.cell? ⟨p,0,none⟩=some (.slice a L.length c)∧xH B (.int .i64 x.id) (.int .i64 x.kind) (.slice sa x.links.length sc) (.string x.text) W) (fun k=>k==18) (by kernel_rfl) ⟨SD.cell,CD⟩ (fun hS=>?_)
 refine zAA 0 ?_ rfl ?_ ?_;rotate_left
 ·intro w zD;obtain⟨z,zb⟩:=zD;have z0:=zb.c0;have z1:=zb.c1;have z2:=zb.c2;have z3:=zb.c3;clear zb;go_simp;rfl
 try simp only[tn]
 refine zAA 1 ?_ rfl ?_ ?_;rotate_left
 ·intro w zD;obtain⟨z,zb⟩:=zD;have z0:=zb.c0;have z1:=zb.c1;have z2:=zb.c2;have z3:=zb.c3;clear zb;go_simp;rfl
 try simp only[tn]
 refine zAA 2 ?_ rfl ?_ ?_;rotate_left
 ·intro w zD;obtain⟨z,zb⟩:=zD;have z0:=zb.c0;have z1:=zb.c1;have z2:=zb.c2;have z3:=zb.c3;clear zb;go_simp;rfl
 try simp only[tn]
 refine zAA 3 ?_ rfl ?_ ?_;rotate_left
 ·intro w zD;obtain⟨z,zb⟩:=zD;have z0:=zb.c0;have z1:=zb.c1;have z2:=zb.c2;have z3:=zb.c3;clear zb;go_simp;rfl
 try simp only[tn]
 refine zAA 4 ?_ rfl ?_ ?_;rotate_left
 ·intro w zD;obtain⟨z,zb⟩:=zD;have z0:=zb.c0;have z1:=zb.c1;have z2:=zb.c2;have z3:=zb.c3;clear zb;go_simp;rfl
 try simp only[tn]
 refine zAA 5 ?_ rfl ?_ ?_;rotate_left
 ·intro w zD;obtain⟨z,zb⟩:=zD;have z0:=zb.c0;have z1:=zb.c1;have z2:=zb.c2;have z3:=zb.c3;clear zb;go_simp;rfl
 try simp only[tn]
 refine zAA 6 ?_ rfl ?_ ?_;rotate_left
 ·intro w zD;obtain⟨z,zb⟩:=zD;have z0:=zb.c0;have z1:=zb.c1;have z2:=zb.c2;have z3:=zb.c3;clear zb;go_simp;rfl
 try simp only[tn]
 refine zAA 7 ?_ rfl ?_ ?_;rotate_left
 ·intro w zD;obtain⟨z,zb⟩:=zD;have z0:=zb.c0;have z1:=zb.c1;have z2:=zb.c2;have z3:=zb.c3;clear zb;go_simp;rfl
 try simp only[tn]
 refine zAA 8 ?_ rfl ?_ ?_;rotate_left
 ·intro w zD;obtain⟨z,zb⟩:=zD;have z0:=zb.c0;have z1:=zb.c1;have z2:=zb.c2;have z3:=zb.c3;clear zb;go_simp;rfl
 try simp only[tn]
 refine zAA 9 ?_ rfl ?_ ?_;rotate_left
 ·intro w zD;obtain⟨z,zb⟩:=zD;have z0:=zb.c0;have z1:=zb.c1;have z2:=zb.c2;have z3:=zb.c3;clear zb;go_simp;rfl
 try simp only[tn]
 refine zAA 10 ?_ rfl ?_ ?_;rotate_left
 ·intro w zD;obtain⟨z,zb⟩:=zD;have z0:=zb.c0;have z1:=zb.c1;have z2:=zb.c2;have z3:=zb.c3;clear zb;go_simp;rfl
 try simp only[tn]
 refine zAA 12 ?_ rfl ?_ ?_;rotate_left
 ·intro w zD;obtain⟨z,zb⟩:=zD;have z0:=zb.c0;have z1:=zb.c1;have z2:=zb.c2;have z3:=zb.c3;clear zb;go_simp;rfl
 try simp only[tn]
 generalize W1.drew=W2 at *
 refine zAC 11 rfl fun K hK=>?_
 go_simp
 refine(dR a c L x.id W2 Lm hLn).mono ?_
 rintro e W3 ⟨rfl,yT⟩
 have tV:W3.cell? ⟨p,0,none⟩=some (.slice a L.length c)∧xH B (.int .i64 x.id) (.int .i64 x.kind) (.slice sa x.links.length sc) (.string x.text) W3:=⟨(SD.below yT).cell,CD.below yT CD.lt⟩
 refine hK _ _ (fun _=>tV) ?_
 clear hK K
 try simp only[tn]
 refine zAC 13 rfl fun K hK=>?_
 go_simp
 refine(pn x sa sc W3 (aQ.below yT) Vg).mono ?_
 rintro e W4 ⟨ta,tc,rfl,bW,xR,bc,Ha⟩
 have mg:W4.cell? ⟨p,0,none⟩=some (.slice a L.length c)∧xH B (.int .i64 x.id) (.int .i64 x.kind) (.slice sa x.links.length sc) (.string x.text) W4:=⟨((SD.below yT).below xR).cell,tV.2.below xR tV.2.lt⟩
 refine hK _ _ (fun _=>mg) ?_
 clear hK K
 try simp only[tn]
 refine zAC 14 rfl fun K hK=>?_
 go_simp
 obtain⟨W5,hW5⟩: ∃W5,W5=W4.alloc (.cells #[.int .i64 x.id,.int .i64 x.kind,.slice ta x.links.length tc,.string x.text] 58):=⟨_,rfl⟩
 have xu:Below W4.heap.size W4 W5:=by rw[hW5];exact zB _ _
 have hv5:W5.heap[W4.heap.size]? =some (.cells #[.int .i64 x.id,.int .i64 x.kind,.slice ta x.links.length tc,.string x.text] 58):=by rw[hW5];exact heap_alloc_new W4 _
 rw[←hW5]
 clear hW5
 have Y8:W5.cell? ⟨p,0,none⟩=some (.slice a L.length c)∧xH B (.int .i64 x.id) (.int .i64 x.kind) (.slice sa x.links.length sc) (.string x.text) W5:=⟨(((SD.below yT).below xR).below xu).cell,mg.2.below xu mg.2.lt⟩
 refine hK _ _ (fun _=>Y8) ?_
 clear hK K
 try simp only[tn]
 refine zAC 15 rfl fun K hK=>?_
 go_simp
 have Hb:=((SD.below yT).below xR).below xu
 have hle:yV L x.id≤rs.length:=by rw[←Lb.out];exact rd L x.id
 have Np:=xR.size
 have Dl:=yT.size
 refine(UQ z rs.length (yV L x.id) W4.heap.size _ (xE rs) _ W5 hle hn Hb.own hv5 rfl (fun e=>by have q1:=PV _ e;have q2:=CD.lt;omega) (VH rs) (by intro u hu;simp only[List.mem_cons,List.not_mem_nil,or_false]at hu;rcases hu with rfl|rfl|rfl|rfl<;>rfl) (by have:=Hb.lt;have:=Hb.zp;omega)).mono ?_
 rintro e W6 ⟨v',rfl,GQ,hg6,hf6⟩
 obtain⟨g',m',c',rfl⟩:=rY GQ
 have Ce:some p≠(Value.slice a L.length c).ownBlock:=fun e=>Hb.sep e.symm
 have CF:=(hg6.block _ Hb.lt Ce).trans Hb.blk
 have hc6:W6.cell? ⟨p,0,none⟩=some (.slice a L.length c):=by simp[World.cell?,CF]
 have hz6:W6.frozen? ⟨p,0,none⟩=false:=by simp[World.frozen?,CF]
 have Zi:W6.cell? ⟨p,0,none⟩=some (.slice a L.length c)∧xH B (.int .i64 x.id) (.int .i64 x.kind) (.slice sa x.links.length sc) (.string x.text) W6:=⟨hc6,Y8.2.grown hg6 (fun e=>by have:=PV B e;omega)⟩
 refine hK _ _ (fun _=>Zi) ?_
 clear hK K
 try simp only[tn]
 refine zAC 16 rfl fun K hK=>?_
 go_simp
 refine hK _ _ (fun _=>Zi) ?_
 clear hK K
 try simp only[tn]
 refine zAC 17 rfl fun K hK=>?_
 go_simp
 refine hK _ _ (fun _=>Zi) ?_
 clear hK K
 try simp only[tn]
 clear tV mg Y8 Zi hS
 refine zAC 18 rfl fun K hK=>?_
 go_simp
 refine hK _ _ (fun h=>by cases h) ?_
 clear hK K
 try simp only[tn]
 refine zAE ?_
 have bg:(xE rs).take (yV L x.id*4)++ #[.int .i64 x.id,.int .i64 x.kind,.slice ta x.links.length tc,.string x.text].toList++(xE rs).drop (yV L x.id*4)=xE (rs.take (yV L x.id)++[⟨x,ta,tc⟩]++rs.drop (yV L x.id)):=by
  rw[xh,xh,QA rs _ hle,RW rs _ hle];rfl
 rw[bg]at GQ
 have NX:=SD.next (rs':=rs.take (yV L x.id)++[⟨x,ta,tc⟩]++rs.drop (yV L x.id)) (r:=⟨x,ta,tc⟩) (w1:=W5) (yT.trans ((xR.mono yT.size).trans (xu.mono (by omega)))) hg6 (by rw[show(rs.take (yV L x.id)++[(⟨x,ta,tc⟩:Pl)]++rs.drop (yV L x.id)).length=rs.length+1 by simp;omega];exact GQ) hf6
  (by intro s hs;simp only[List.mem_append,List.mem_singleton]at hs;rcases hs with(q|q)|q;exact .inl (List.mem_of_mem_take q);exact .inr q;exact .inl (List.mem_of_mem_drop q)) ⟨Vg,Ha⟩ (bW.below xu) (fun b off e=>by have:=bc b off e;omega)
 have Yt:Below z w _:=(dA.mono (by have:=Hb.zp;omega)).trans NX.2
 have hM:(rs.take (yV L x.id)++[(⟨x,ta,tc⟩:Pl)]++rs.drop (yV L x.id)).map Pl.x=L.take (yV L x.id)++[x]++L.drop (yV L x.id):=by
  rw[←HL.out];simp[List.map_take,List.map_drop]
 have HN:Hid (_∧_∧_):=⟨hM,NX.1,Yt⟩
 clear NX Yt hM bg GQ hf6 hg6 hc6 hz6 Ce CF Hb SD CD aQ Lm dA yT xR xu hv5 bW bc Ha hp
 generalize W6.setCell ⟨p,0,none⟩ (.slice g' m' c')=W7 at *
 go_wp2
 go_ret
 exact⟨_,_,rfl,HN.out⟩
theorem N3(z p:Nat)(v:Value)(rs:List Pl)(L:List Ob)(HL:Hid (rs.map Pl.x=L))(x:Ob)(sa:Option Addr)(sc:Nat)(w:World)(SH:Shelf w z p v rs)(hn:rs.length≤1000)(hx:yD w sa x.links)(i:Nat)(hp:zW L x.id=i)(hi:i<L.length):
  Calls Tryz.prog 136 #[.pointer (some ⟨p,0,none⟩),x.val sa sc] w fun e w'=>e= .returned (.int .i64 (Ut (xi L[i].id L[i].kind L[i].links L[i].text x.id x.kind x.links x.text)))∧(∃v',Shelf w' z p v' rs)∧Below w.heap.size w w':=by
 obtain⟨a,c,rfl,E4,rg⟩:=SH.reads
 rw[HL.out]at E4 SH
 have Lb:Hid (L.length=rs.length):=by rw[←HL.out,List.length_map];exact rfl
 have hLn:L.length≤1000:=by rw[Lb.out];exact hn
 have hA:=zB w (.cells #[.int .i64 x.id,.int .i64 x.kind,.slice sa x.links.length sc,.string x.text] 58)
 have SA:=SH.below hA
 have C:=xH.new w (.int .i64 x.id) (.int .i64 x.kind) (.slice sa x.links.length sc) (.string x.text) 58
 have hH:=hx.below hA
 have hS:=E4.below hA
 have PV: ∀g,(Value.slice a L.length c).ownBlock=some g→g<w.heap.size:=fun g e=>(SH.own.lt g e).2
 have Bh:=SH.lt
 go_enter Tryz.func136,Tryz.ntmps136
 go_wp2_with fail
 generalize w.alloc (.cells #[.int .i64 x.id,.int .i64 x.kind,.slice sa x.links.length sc,.string x.text] 58)=W at *
 obtain⟨B,hB⟩: ∃B,B=w.heap.size:=⟨_,rfl⟩
 rw[←hB]at C PV Bh hA⊢
 have SD:=SA.below (Below.refl W.heap.size W).drew
 have aQ:=hH.below (Below.refl W.heap.size W).drew
 have Lm:=hS.below (Below.refl W.heap.size W).drew
 have CD:=C.below (Below.refl W.heap.size W).drew C.lt
 have dA:=hA.trans ((Below.refl W.heap.size W).drew.mono (by rw[hB];exact hA.size))
 have HBw:Hid (B=w.heap.size):=hB
 clear hB
 clear SA hH C hA hS E4 hx SH
 refine zS (fun W=>W.cell? ⟨p,0,none⟩=some (.slice a L.length c)∧xH B (.int .i64 x.id) (.int .i64 x.kind) (.slice sa x.links.length sc) (.string x.text) W) (fun _=>false) (by kernel_rfl) ⟨SD.cell,CD⟩ (fun hS=>?_)
 refine zAA 0 ?_ rfl ?_ ?_;rotate_left
 ·intro w zD;obtain⟨z,zb⟩:=zD;have z0:=zb.c0;have z1:=zb.c1;have z2:=zb.c2;have z3:=zb.c3;clear zb;go_simp;rfl
 try simp only[tn]
 refine zAA 1 ?_ rfl ?_ ?_;rotate_left
 ·intro w zD;obtain⟨z,zb⟩:=zD;have z0:=zb.c0;have z1:=zb.c1;have z2:=zb.c2;have z3:=zb.c3;clear zb;go_simp;rfl
 try simp only[tn]
 refine zAA 2 ?_ rfl ?_ ?_;rotate_left
 ·intro w zD;obtain⟨z,zb⟩:=zD;have z0:=zb.c0;have z1:=zb.c1;have z2:=zb.c2;have z3:=zb.c3;clear zb;go_simp;rfl
 try simp only[tn]
 refine zAA 3 ?_ rfl ?_ ?_;rotate_left
 ·intro w zD;obtain⟨z,zb⟩:=zD;have z0:=zb.c0;have z1:=zb.c1;have z2:=zb.c2;have z3:=zb.c3;clear zb;go_simp;rfl
 try simp only[tn]
 refine zAA 4 ?_ rfl ?_ ?_;rotate_left
 ·intro w zD;obtain⟨z,zb⟩:=zD;have z0:=zb.c0;have z1:=zb.c1;have z2:=zb.c2;have z3:=zb.c3;clear zb;go_simp;rfl
 try simp only[tn]
 refine zAA 5 ?_ rfl ?_ ?_;rotate_left
 ·intro w zD;obtain⟨z,zb⟩:=zD;have z0:=zb.c0;have z1:=zb.c1;have z2:=zb.c2;have z3:=zb.c3;clear zb;go_simp;rfl
 try simp only[tn]
 generalize W.drew=W0 at *
 refine zAC 6 rfl fun K hK=>?_
 go_simp
 refine(qw a c L x.id W0 Lm (by omega)).mono ?_
 rintro e W1 ⟨rfl,zM⟩
 have ue:W1.cell? ⟨p,0,none⟩=some (.slice a L.length c)∧xH B (.int .i64 x.id) (.int .i64 x.kind) (.slice sa x.links.length sc) (.string x.text) W1:=⟨(SD.below zM).cell,CD.below zM CD.lt⟩
 refine hK _ _ (fun _=>ue) ?_
 clear hK K
 try simp only[tn]
 clear hS
 refine zAC 7 rfl fun K hK=>?_
 go_simp
 refine hK _ _ (fun _=>ue) ?_
 clear hK K
 try simp only[tn]
 refine zAE ?_
 have S1:=SD.below zM
 have Lc:=aQ.below zM
 have Vi:=Lm.below zM
 have X5:=dA.trans (zM.mono (by have:=CD.lt;omega))
 have C1:=ue.2
 clear SD aQ Lm dA CD zM ue
 obtain⟨b,off,rfl,aY,TC⟩:=Vi i hi
 obtain⟨ya,yc,y0,y1,y2,y3,y4,y5⟩:=TC i hi
 clear TC
 obtain⟨y,hy⟩: ∃y,y=L[i]:=⟨_,rfl⟩
 rw[←hy]at y0 y1 y2 y3 y4 y5
 have HY:Hid (y=L[i]):=hy
 clear hy
 have sN:(0:Int)≤(i:Int):=by omega
 have HI:(i:Int)<(L.length:Int):=by omega
 go_wp2_with fail
 have SD:=S1.below (Below.refl W1.heap.size W1).drew
 have aQ:=Lc.below (Below.refl W1.heap.size W1).drew
 have CD:=C1.below (Below.refl W1.heap.size W1).drew C1.lt
 have hYD:=y4.below (Below.refl W1.heap.size W1).drew
 have dA:=X5.trans ((Below.refl W1.heap.size W1).drew.mono (by have:=C1.lt;omega))
 clear S1 Lc C1 X5 Vi
 refine zS (fun W=>W.cell? ⟨p,0,none⟩=some (.slice (some ⟨b,off,none⟩) L.length c)∧xH B (.int .i64 x.id) (.int .i64 x.kind) (.slice sa x.links.length sc) (.string x.text) W∧W.cell? ⟨b,off+i*4,none⟩=some (.int .i64 y.id)∧W.cell? ⟨b,off+i*4+1,none⟩=some (.int .i64 y.kind)∧W.cell? ⟨b,off+i*4+2,none⟩=some (.slice ya y.links.length yc)∧W.cell? ⟨b,off+i*4+3,none⟩=some (.string y.text)) (fun _=>false) (by kernel_rfl) ⟨SD.cell,CD,y0,y1,y2,y3⟩ (fun hS=>?_)
 refine zAA 0 ?_ rfl ?_ ?_;rotate_left
 ·intro w zD;obtain⟨z,zb,t0,t1,t2,t3⟩:=zD;have z0:=zb.c0;have z1:=zb.c1;have z2:=zb.c2;have z3:=zb.c3;clear zb;go_simp;rfl
 try simp only[tn]
 refine zAA 1 ?_ rfl ?_ ?_;rotate_left
 ·intro w zD;obtain⟨z,zb,t0,t1,t2,t3⟩:=zD;have z0:=zb.c0;have z1:=zb.c1;have z2:=zb.c2;have z3:=zb.c3;clear zb;go_simp;rfl
 try simp only[tn]
 refine zAA 2 ?_ rfl ?_ ?_;rotate_left
 ·intro w zD;obtain⟨z,zb,t0,t1,t2,t3⟩:=zD;have z0:=zb.c0;have z1:=zb.c1;have z2:=zb.c2;have z3:=zb.c3;clear zb;go_simp;rfl
 try simp only[tn]
 refine zAA 3 ?_ rfl ?_ ?_;rotate_left
 ·intro w zD;obtain⟨z,zb,t0,t1,t2,t3⟩:=zD;have z0:=zb.c0;have z1:=zb.c1;have z2:=zb.c2;have z3:=zb.c3;clear zb;go_simp;rfl
 try simp only[tn]
 refine zAA 4 ?_ rfl ?_ ?_;rotate_left
 ·intro w zD;obtain⟨z,zb,t0,t1,t2,t3⟩:=zD;have z0:=zb.c0;have z1:=zb.c1;have z2:=zb.c2;have z3:=zb.c3;clear zb;go_simp;rfl
 try simp only[tn]
 refine zAA 5 ?_ rfl ?_ ?_;rotate_left
 ·intro w zD;obtain⟨z,zb,t0,t1,t2,t3⟩:=zD;have z0:=zb.c0;have z1:=zb.c1;have z2:=zb.c2;have z3:=zb.c3;clear zb;go_simp;rfl
 try simp only[tn]
 refine zAA 6 ?_ rfl ?_ ?_;rotate_left
 ·intro w zD;obtain⟨z,zb,t0,t1,t2,t3⟩:=zD;have z0:=zb.c0;have z1:=zb.c1;have z2:=zb.c2;have z3:=zb.c3;clear zb;go_simp;rfl
 try simp only[tn]
 refine zAA 7 ?_ rfl ?_ ?_;rotate_left
 ·intro w zD;obtain⟨z,zb,t0,t1,t2,t3⟩:=zD;have z0:=zb.c0;have z1:=zb.c1;have z2:=zb.c2;have z3:=zb.c3;clear zb;go_simp;rfl
 try simp only[tn]
 have CC:b<W1.drew.heap.size:=aY
 generalize W1.drew=W2 at *
 refine zAC 8 rfl fun K hK=>?_
 go_simp
 obtain⟨_,_,s0,s1,s2,s3⟩:=hS
 refine(LC y x ya yc sa sc W2 hYD aQ y5).mono ?_
 rintro e W3 ⟨rfl,yT⟩
 have SH3:=SD.below yT
 have na:=dA.trans (yT.mono (by have:=CD.lt;omega))
 have tV:W3.cell? ⟨p,0,none⟩=some (.slice (some ⟨b,off,none⟩) L.length c)∧xH B (.int .i64 x.id) (.int .i64 x.kind) (.slice sa x.links.length sc) (.string x.text) W3∧W3.cell? ⟨b,off+i*4,none⟩=some (.int .i64 y.id)∧W3.cell? ⟨b,off+i*4+1,none⟩=some (.int .i64 y.kind)∧W3.cell? ⟨b,off+i*4+2,none⟩=some (.slice ya y.links.length yc)∧W3.cell? ⟨b,off+i*4+3,none⟩=some (.string y.text):=by
  have Kq:b<W2.heap.size:=CC
  exact⟨SH3.cell,CD.below yT CD.lt,(yT.cell (p:=⟨b,off+i*4,none⟩) Kq).trans s0,(yT.cell (p:=⟨b,off+i*4+1,none⟩) Kq).trans s1,(yT.cell (p:=⟨b,off+i*4+2,none⟩) Kq).trans s2,(yT.cell (p:=⟨b,off+i*4+3,none⟩) Kq).trans s3⟩
 refine hK _ _ (fun _=>tV) ?_
 clear hK K
 try simp only[tn]
 have HN:Hid (Shelf W3 z p (.slice (some ⟨b,off,none⟩) L.length c) rs∧Below w.heap.size w W3):=⟨SH3,by rw[←HBw.out];exact na⟩
 refine zAC 9 rfl fun K hK=>?_
 go_simp
 refine hK _ _ (fun _=>tV) ?_
 clear hK K
 try simp only[tn]
 refine zAE ?_
 clear SD CD aQ hYD dA SH3 na tV yT s0 s1 s2 s3 y0 y1 y2 y3 y4
 have HE:Hid (xi y.id y.kind y.links y.text x.id x.kind x.links x.text=xi L[i].id L[i].kind L[i].links L[i].text x.id x.kind x.links x.text):=by rw[HY.out];exact rfl
 rw[HE.out]
 clear HE
 cases hq:xi L[i].id L[i].kind L[i].links L[i].text x.id x.kind x.links x.text with
 |true=>
  go_wp2
  go_ret
  exact⟨zE (by rw[hq];rfl),⟨_,HN.out.1⟩,HN.out.2⟩
 |false=>
  go_wp2
  go_ret
  exact⟨zE (by rw[hq];rfl),⟨_,HN.out.1⟩,HN.out.2⟩
def yL:List Ob→Int
 |[]=>0
 |x::m=>if x.err≠0 then x.err else yL m
theorem Pc{m:List Ob}{k:Nat}{r:Int}(hk:k<m.length)(H:r=yL (m.drop k))(h:m[k].err≠0):r=m[k].err:=by
 rw[H,List.drop_eq_getElem_cons hk,yL,if_pos h]
theorem SW{m:List Ob}{k:Nat}{r:Int}(hk:k<m.length)(H:r=yL (m.drop k))(h:m[k].err=0):r=yL (m.drop (k+1)):=by
 rw[H,List.drop_eq_getElem_cons hk,yL,if_neg (fun e=>e h)]
theorem Nb{m:List Ob}{k:Nat}{r:Int}(hk: ¬k<m.length)(H:r=yL (m.drop k)):r=0:=by
 rw[H,List.drop_of_length_le (by omega)];rfl
theorem WY(a:Option Addr)(c:Nat)(l:List Ob)(w:World)(h:zP w a l)(hl:l.length≤9223372036854775807):
  Calls Tryz.prog 133 #[.slice a l.length c,.func (.func 134) #[] #[]] w fun e w'=>e= .returned (.int .i64 (yL l))∧Below w.heap.size w w':=by
 go_enter Tryz.func133,Tryz.ntmps133
 go_wp2
 go_loopw [10] (fun i wr=>∃(k:Nat),i= .int .i64 k∧k≤l.length∧Below w.heap.size w wr∧Hid (yL l=yL (l.drop k))) (fun i _=>l.length-(intOf i).toNat)
 case atStart=>exact⟨0,rfl,Nat.zero_le _,Below.refl _ _,rfl⟩
 case round=>
  obtain⟨k,rfl,hk,vH,H⟩:=hrel
  by_cases zN:k<l.length
  ·obtain⟨b,off,rfl,hb,hc⟩:=h k zN
   have hO:=(hc k zN).below vH hb
   obtain⟨sa,sc,y0,y1,y2,y3,y4,y5⟩:=hO
   clear hc
   have hA:=zB wr (.cells #[.int .i64 l[k].id,.int .i64 l[k].kind,.slice sa l[k].links.length sc,.string l[k].text] 58)
   go_wp2_with fail
   refine(mS l[k].id l[k].kind sa sc l[k].links l[k].text _ (y4.below hA) y5).mono ?_
   rintro e w1 ⟨rfl,zM⟩
   have zT:=((bt vH hA)).trans (zM.mono (by have:=vH.size;have:=hA.size;omega))
   clear zM hA y0 y1 y2 y3 y4 vH
   by_cases hz:l[k].err=0
   ·have HN:Hid (yL l=yL (l.drop (k+1))):=SW zN H.out hz
    rw[show xC l[k].id l[k].kind l[k].links l[k].text.size=0 from hz]
    clear hz
    go_wp2
    go_roundw
    case rel=>exact⟨k+1,by go_num,by omega,zT,HN⟩
    case measure=>simp[intOf];omega
   ·have HR:Hid (yL l=l[k].err):=Pc zN H.out hz
    have CW:(xC l[k].id l[k].kind l[k].links l[k].text.size != 0)=true:=by simpa using hz
    clear hz
    go_wp2
    go_ret
    exact⟨zE HR.out.symm,zT⟩
  ·have HR:Hid (yL l=0):=Nb zN H.out
   go_wp2
   go_ret
   exact⟨zE HR.out.symm,vH⟩
def xW(L:List Ob)(x:Ob):Int:=match L[(zW L x.id).toNat]? with
 |some y=>if zW L x.id= -1 then 0 else Ut (xi y.id y.kind y.links y.text x.id x.kind x.links x.text)
 |none=>0
def vJ(L:List Ob)(x:Ob):List Ob:=if zW L x.id= -1 then L.take (yV L x.id)++[x]++L.drop (yV L x.id)else L
def zw:List Ob→List Ob→Int
 |_,[]=>0
 |L,x::m=>if xW L x≠0 then xW L x else zw (vJ L x) m
def zH:List Ob→List Ob→List Ob
 |L,[]=>L
 |L,x::m=>zH (vJ L x) m
theorem jl(L:List Ob)(x:Ob):(vJ L x).length≤L.length+1:=by
 unfold vJ
 split
 ·have:=rd L x.id
  simp only[List.length_append,List.length_take,List.length_drop,List.length_singleton];omega
 ·omega
theorem NO(z p:Nat)(v:Value)(rs:List Pl)(L:List Ob)(hL:rs.map Pl.x=L)(x:Ob)(sa:Option Addr)(sc:Nat)(w:World)(SH:Shelf w z p v rs)(hn:rs.length≤1000)(hx:yD w sa x.links)(Vg:x.links.length≤1000):
  Calls Tryz.prog 136 #[.pointer (some ⟨p,0,none⟩),x.val sa sc] w fun e w'=>∃v' rs',e= .returned (.int .i64 (xW L x))∧rs'.map Pl.x=vJ L x∧Shelf w' z p v' rs'∧Below z w w':=by
 rcases xG L x.id with hp|⟨i,hp,hi⟩
 ·refine(M3 z p v rs L hL x sa sc w SH hn hx Vg hp).mono ?_
  rintro e w' ⟨v',rs',rfl,h1,h2,h3⟩
  refine⟨v',rs',zE ?_,by rw[vJ,if_pos hp];exact h1,h2,h3⟩
  unfold xW
  split
  ·rw[if_pos hp]
  ·rfl
 ·refine(N3 z p v rs L hL x sa sc w SH hn hx i hp hi).mono ?_
  rintro e w' ⟨rfl,⟨v',h2⟩,h3⟩
  have yM: ¬zW L x.id= -1:=by omega
  refine⟨v',rs,zE ?_,by rw[vJ,if_neg yM];exact hL,h2,h3.mono (Nat.le_trans SH.zp (Nat.le_of_lt SH.lt))⟩
  have ht:(zW L x.id).toNat=i:=by omega
  unfold xW
  rw[ht,List.getElem?_eq_getElem hi]
  simp only
  rw[if_neg yM]
theorem P9{L0 L m:List Ob}{k:Nat}(hk:k<m.length)(H:zw L0 m=zw L (m.drop k)∧zH L0 m=zH L (m.drop k))(h:xW L m[k]≠0):zw L0 m=xW L m[k]:=by
 rw[H.1,List.drop_eq_getElem_cons hk,zw,if_pos h]
theorem Yd{L0 L m:List Ob}{k:Nat}(hk:k<m.length)(H:zw L0 m=zw L (m.drop k)∧zH L0 m=zH L (m.drop k))(h:xW L m[k]=0):zw L0 m=zw (vJ L m[k]) (m.drop (k+1))∧zH L0 m=zH (vJ L m[k]) (m.drop (k+1)):=by
 rw[H.1,H.2,List.drop_eq_getElem_cons hk,zw,zH,if_neg (fun e=>e h)]
 exact⟨rfl,rfl⟩
theorem MN{L0 L m:List Ob}{k:Nat}(hk: ¬k<m.length)(H:zw L0 m=zw L (m.drop k)∧zH L0 m=zH L (m.drop k)):zw L0 m=0∧zH L0 m=L:=by
 rw[H.1,H.2,List.drop_of_length_le (by omega)];exact⟨rfl,rfl⟩
theorem af(a:Option Addr)(c:Nat)(l L0:List Ob)(z p:Nat)(v0:Value)(Dv:List Pl)(w0 w:World)(h:zP w0 a l)(hB:Below w0.heap.size w0 w)(hp:w0.heap.size≤z)(S0:Shelf w z p v0 Dv)(hL0:Dv.map Pl.x=L0)
  (hl:L0.length+l.length≤1000) (hx: ∀x∈l,x.links.length≤1000):
  Calls Tryz.prog 133 #[.slice a l.length c,.func (.func 136) #[.pointer (some ⟨p,0,none⟩)] #[]] w fun e w'=>e= .returned (.int .i64 (zw L0 l))∧(zw L0 l=0→∃v' rs',rs'.map Pl.x=zH L0 l∧Shelf w' z p v' rs')∧Below w0.heap.size w0 w':=by
 have CV:l.length≤9223372036854775807:=by omega
 go_enter Tryz.func133,Tryz.ntmps133
 go_wp2
 go_loopw [10] (fun i wr=>∃(k:Nat) (v:Value) (rs:List Pl) (L:List Ob),i= .int .i64 k∧k≤l.length∧Hid (rs.map Pl.x=L)∧L.length≤L0.length+k∧Shelf wr z p v rs∧Below w0.heap.size w0 wr∧Hid (zw L0 l=zw L (l.drop k)∧zH L0 l=zH L (l.drop k))) (fun i _=>l.length-(intOf i).toNat)
 case atStart=>exact⟨0,v0,Dv,L0,rfl,Nat.zero_le _,hL0,by omega,S0,hB,rfl,rfl⟩
 case round=>
  clear S0 hL0
  obtain⟨k,v,rs,L,rfl,hk,HL,hLk,SH,vH,H⟩:=hrel
  by_cases zN:k<l.length
  ·obtain⟨b,off,rfl,hb,hc⟩:=h k zN
   have hO:=(hc k zN).below vH hb
   obtain⟨sa,sc,y0,y1,y2,y3,y4,y5⟩:=hO
   clear hc
   have hA:=zB wr (.cells #[.int .i64 l[k].id,.int .i64 l[k].kind,.slice sa l[k].links.length sc,.string l[k].text] 58)
   have Vg:=hx l[k] (List.getElem_mem zN)
   have aP:rs.length≤1000:=by have:=congrArg List.length HL.out;rw[List.length_map]at this;omega
   go_wp2_with fail
   refine(NO z p v rs L HL.out l[k] sa sc _ (SH.below hA) aP (y4.below hA) Vg).mono ?_
   rintro e w1 ⟨v',rs',rfl,Vi,S1,zM⟩
   have zT:=((bt vH hA)).trans (zM.mono hp)
   have U5:Hid (rs'.map Pl.x=vJ L l[k]):=Vi
   have Lb:Hid ((vJ L l[k]).length≤L0.length+(k+1)):=by have:=jl L l[k];unfold Hid;omega
   clear zM hA y0 y1 y2 y3 y4 vH SH Vi aP
   by_cases hz:xW L l[k]=0
   ·have HN:Hid (_∧_):=Yd zN H.out hz
    rw[hz]
    clear hz
    go_wp2
    go_roundw
    case rel=>exact⟨k+1,v',rs',_,by go_num,by omega,U5,Lb.out,S1,zT,HN⟩
    case measure=>simp[intOf];omega
   ·have HR:Hid (zw L0 l=xW L l[k]):=P9 zN H.out hz
    have HZ:Hid (¬xW L l[k]=0):=hz
    have CW:(xW L l[k] != 0)=true:=by simpa using hz
    clear hz
    go_wp2
    go_ret
    exact⟨zE HR.out.symm,fun e=>absurd (HR.out.symm.trans e) HZ.out,zT⟩
  ·have HR:Hid (zw L0 l=0∧zH L0 l=L):=MN zN H.out
   go_wp2
   go_ret
   exact⟨zE HR.out.1.symm,fun _=>⟨v,rs,HL.out.trans HR.out.2.symm,SH⟩,vH⟩
def xD(l m:List Ob):Int:=if zK l≠0 then zK l else if 12<m.length then 2 else if yL m≠0 then yL m else if zw l m≠0 then zw l m else zK (zH l m)
theorem ui{x:Ob}(h:x.err=0):x.links.length≤1000:=by
 have:=(xg h).2.2.1
 omega
theorem mR{m:List Ob}(h:yL m=0): ∀x∈m,x.err=0:=by
 induction m with
 |nil=>intro x hx;cases hx
 |cons y m ih=>
  rw[yL]at h
  split at h
  ·rename_i hy;exact absurd h hy
  ·rename_i hy
   have hy':y.err=0:=Classical.byContradiction hy
   intro x hx
   rcases List.mem_cons.1 hx with rfl|hx
   ·exact hy'
   ·exact ih h x hx
theorem vi(m:List Ob): ∀L:List Ob,(zH L m).length≤L.length+m.length:=by
 induction m with
 |nil=>intro L;simp[zH]
 |cons x m ih=>
  intro L
  have h1:=ih (vJ L x)
  have h2:=jl L x
  rw[zH,List.length_cons];omega
def qX(l m:List Ob)(w:World)(e:Ending)(w':World):Prop:=
 Below w.heap.size w w'∧((xD l m≠0∧e= .returned (.tuple #[.slice none 0 0,.int .i64 (xD l m)]))∨
  (xD l m=0∧∃a' c',e= .returned (.tuple #[.slice a' (zH l m).length c',.int .i64 0])∧zP w' a' (zH l m)∧(zH l m).length≤c'∧rT w' a' (zH l m)))
theorem qX.bad{l m:List Ob}{w w':World}{r:Int}(hr:xD l m=r)(h0:r≠0)(hb:Below w.heap.size w w'):qX l m w (.returned (.tuple #[.slice none 0 0,.int .i64 r])) w':=
 ⟨hb,.inl ⟨by rw[hr];exact h0,by rw[hr]⟩⟩
theorem KJ(a:Option Addr)(c:Nat)(l:List Ob)(a2:Option Addr)(c2:Nat)(m:List Ob)(w:World)(h:zP w a l)(hl:l.length≤9223372036854775807)(h2:zP w a2 m)(hm:m.length≤9223372036854775807):
  Calls Tryz.prog 77 #[.slice a l.length c,.slice a2 m.length c2] w (qX l m w):=by
 have Uk: ∀(fn:Fn) (first cap:Array Value) (w:World),(Instr.makeFunc fn first cap).run Tryz.prog w= .ok (.func fn first cap) w:=fun _ _ _ _=>rfl
 go_enter Tryz.func77,Tryz.ntmps77
 go_wp2_with fail
 refine(vD a c l w h hl).mono ?_
 rintro e w1 ⟨rfl,zM⟩
 by_cases k1:zK l=0
 case neg=>
  have HR:Hid (xD l m=zK l):=by unfold Hid;rw[xD,if_pos k1]
  have HZ:Hid (zK l≠0):=k1
  have hz:(zK l != 0)=true:=by simpa using k1
  clear k1
  go_wp2
  refine bodyPost_ret (v:=.tuple #[.slice none 0 0,.int .i64 (zK l)]) (by simp[results,Tryz.results77,go_sem]) rfl ?_
  exact qX.bad HR.out HZ.out zM
 have K1:Hid (zK l=0):=k1
 rw[k1]
 clear k1
 by_cases k2:(12:Int)<(m.length:Int)
 case pos=>
  have HR:Hid (xD l m=2):=by unfold Hid;rw[xD,if_neg (fun e=>e K1.out),if_pos (by omega)]
  go_wp2
  refine bodyPost_ret (v:=.tuple #[.slice none 0 0,.int .i64 2]) (by simp[results,Tryz.results77,go_sem]) rfl ?_
  exact qX.bad HR.out (by simp) zM
 go_wp2_with fail
 refine(WY a2 c2 m w1 (h2.below zM) hm).mono ?_
 rintro e w2 ⟨rfl,zZ⟩
 have zj:=bt zM zZ
 by_cases k3:yL m=0
 case neg=>
  have HR:Hid (xD l m=yL m):=by unfold Hid;rw[xD,if_neg (fun e=>e K1.out),if_neg (by omega),if_pos k3]
  have HZ:Hid (yL m≠0):=k3
  have hz:(yL m != 0)=true:=by simpa using k3
  clear k3
  go_wp2
  refine bodyPost_ret (v:=.tuple #[.slice none 0 0,.int .i64 (yL m)]) (by simp[results,Tryz.results77,go_sem]) rfl ?_
  exact qX.bad HR.out HZ.out zj
 have K3:Hid (yL m=0):=k3
 rw[k3]
 clear k3
 have M7:l.length≤40:=(yF K1.out).1
 go_wp2_with fail
 refine(jr a c l w2 (h.below zj) (by omega) (fun x hx=>ui (vE K1.out x hx))).mono ?_
 rintro e w3 ⟨p,v,rs,rfl,tM,SH,yT⟩
 have Fp:Hid (rs.map Pl.x=l):=tM
 clear tM
 have xL:=bt zj yT
 have Hj:w.heap.size≤w2.heap.size:=zj.size
 go_wp2_with fail
 refine(af a2 c2 m l w2.heap.size p v rs w w3 h2 xL Hj SH Fp.out (by omega) (fun x hx=>ui (mR K3.out x hx))).mono ?_
 rintro e w4 ⟨rfl,TP,xZ⟩
 by_cases k4:zw l m=0
 case neg=>
  have HR:Hid (xD l m=zw l m):=by unfold Hid;rw[xD,if_neg (fun e=>e K1.out),if_neg (by omega),if_neg (fun e=>e K3.out),if_pos k4]
  have HZ:Hid (zw l m≠0):=k4
  have hz:(zw l m != 0)=true:=by simpa using k4
  clear k4 TP
  go_wp2
  refine bodyPost_ret (v:=.tuple #[.slice none 0 0,.int .i64 (zw l m)]) (by simp[results,Tryz.results77,go_sem]) rfl ?_
  exact qX.bad HR.out HZ.out xZ
 obtain⟨v',rs',jZ,PN⟩:=TP k4
 have HA:Hid (xD l m=zK (zH l m)):=by unfold Hid;rw[xD,if_neg (fun e=>e K1.out),if_neg (by omega),if_neg (fun e=>e K3.out),if_neg (fun e=>e k4)]
 rw[k4]
 clear k4 TP SH yT zZ zM zj xL
 obtain⟨a',c',rfl,MT,Vd⟩:=PN.reads
 have xf:=PN.cell
 rw[jZ]at MT xf
 have hRL:(zH l m).length≤c':=by rw[←jZ,List.length_map];exact Vd
 have FL:(zH l m).length≤9223372036854775807:=by have:=vi m l;omega
 have qv:=PN.lt
 have Bi:rT w4 a' (zH l m):=by rw[←jZ];exact PN.room
 clear jZ Vd PN
 go_wp2_with fail
 refine(vD a' c' (zH l m) w4 MT FL).mono ?_
 rintro e w5 ⟨rfl,xu⟩
 have su:=bt xZ xu
 have EC:=(xu.cell (p:=⟨p,0,none⟩) qv).trans xf
 have A1:=MT.below xu
 have Er:Hid (rT w5 a' (zH l m)):=Bi.below xu
 clear xu xf MT xZ Bi
 by_cases k5:zK (zH l m)=0
 case neg=>
  have HZ:Hid (zK (zH l m)≠0):=k5
  have hz:(zK (zH l m) != 0)=true:=by simpa using k5
  clear k5
  go_wp2
  refine bodyPost_ret (v:=.tuple #[.slice none 0 0,.int .i64 (zK (zH l m))]) (by simp[results,Tryz.results77,go_sem]) rfl ?_
  exact qX.bad HA.out HZ.out su
 have HF:Hid (xD l m=0∧zP w5 a' (zH l m)∧(zH l m).length≤c'∧Below w.heap.size w w5):=⟨HA.out.trans k5,A1,hRL,su⟩
 rw[k5]
 clear k5 A1 su
 go_wp2
 refine bodyPost_ret (v:=.tuple #[.slice a' (zH l m).length c',.int .i64 0]) (by simp[results,Tryz.results77,go_sem]) rfl ?_
 exact⟨HF.out.2.2.2,.inr ⟨HF.out.1,a',c',rfl,HF.out.2.1,HF.out.2.2.1,Er.out⟩⟩
theorem wpAnyE.mono{P:Program}{ops:Array Oper}{Q:Exit→Act→World→Prop}{md:Region.Mode}{S S':World→Prop}{ex:Nat→Bool}(hS: ∀w,S' w→S w):
  ∀{n:Nat} {l:Array Bool} {a:Act} {w:World},wpAnyE P md ops Q S' ex n l a w→wpAnyE P md ops Q S ex n l a w
 |0,_,_,_,h=>h
 |_+1,_,_,_,h=>⟨h.1,fun k hk=>wpOp_mono (fun _ _ h'=>⟨fun e=>hS _ (h'.1 e),wpAnyE.mono hS h'.2⟩) (h.2 k hk)⟩
abbrev o1:Ob:=⟨1,1,[],PI⟩
abbrev o2:Ob:=⟨2,2,[1],PI⟩
abbrev o3:Ob:=⟨3,3,[2],PI⟩
abbrev o4:Ob:=⟨4,2,[1,2],PI⟩
abbrev o5:Ob:=⟨5,3,[4,3],PI⟩
abbrev o6:Ob:=⟨5,3,[4],{data:=#[]}⟩
def P5:List Ob:=[o1,o2,o3,o4,o5]
structure C4(g o:Nat)(x:Ob)(sa:Option Addr)(sc:Nat)(w:World):Prop where
 lt:g<w.heap.size
 c0:w.cell? ⟨g,o,none⟩=some (.int .i64 x.id)
 c1:w.cell? ⟨g,o+1,none⟩=some (.int .i64 x.kind)
 c2:w.cell? ⟨g,o+2,none⟩=some (.slice sa x.links.length sc)
 c3:w.cell? ⟨g,o+3,none⟩=some (.string x.text)
 holds:yD w sa x.links
theorem C4.below{g o:Nat}{x:Ob}{sa:Option Addr}{sc:Nat}{w w':World}(h:C4 g o x sa sc w)(hb:Below w.heap.size w w'):C4 g o x sa sc w':=
 ⟨Nat.lt_of_lt_of_le h.lt hb.size,(hb.cell (p:=⟨g,o,none⟩) h.lt).trans h.c0,(hb.cell (p:=⟨g,o+1,none⟩) h.lt).trans h.c1,(hb.cell (p:=⟨g,o+2,none⟩) h.lt).trans h.c2,(hb.cell (p:=⟨g,o+3,none⟩) h.lt).trans h.c3,h.holds.below hb⟩
theorem C4.at{g o:Nat}{x:Ob}{sa:Option Addr}{sc:Nat}{w:World}(h:C4 g o x sa sc w)(hl:x.links.length≤9223372036854775807):Rt w g o x:=⟨sa,sc,h.c0,h.c1,h.c2,h.c3,h.holds,hl⟩
theorem Uo(w:World):Calls Tryz.prog 61 #[] w fun e w'=>∃g b2 b3 b4 b5,e= .returned (.slice (some ⟨g,0,none⟩) 5 5)∧Below w.heap.size w w'∧
  C4 g 0 o1 none 0 w'∧C4 g 4 o2 (some ⟨b2,0,none⟩) 1 w'∧C4 g 8 o3 (some ⟨b3,0,none⟩) 1 w'∧C4 g 12 o4 (some ⟨b4,0,none⟩) 2 w'∧C4 g 16 o5 (some ⟨b5,0,none⟩) 2 w':=by
 refine(PD w).mono ?_
 rintro e w' ⟨g,b2,b3,b4,b5,rfl,hB,_,zN,hg,q2,q3,q4,q5⟩
 refine⟨g,b2,b3,b4,b5,rfl,hB,?_,?_,?_,?_,?_⟩
 ·constructor<;>first|exact zN|(simp[World.cell?,hg,t8];done)|(intro i hi;simp at hi)
 ·constructor<;>first|exact zN|(simp[World.cell?,hg,t8];done)|exact q2
 ·constructor<;>first|exact zN|(simp[World.cell?,hg,t8];done)|exact q3
 ·constructor<;>first|exact zN|(simp[World.cell?,hg,t8];done)|exact q4
 ·constructor<;>first|exact zN|(simp[World.cell?,hg,t8];done)|exact q5
theorem V2{g b2 b3 b4 b5:Nat}{w:World}(h1:C4 g 0 o1 none 0 w)(h2:C4 g 4 o2 (some ⟨b2,0,none⟩) 1 w)(h3:C4 g 8 o3 (some ⟨b3,0,none⟩) 1 w)(h4:C4 g 12 o4 (some ⟨b4,0,none⟩) 2 w)(h5:C4 g 16 o5 (some ⟨b5,0,none⟩) 2 w):zP w (some ⟨g,0,none⟩) P5:=by
 intro i hi
 refine⟨g,0,rfl,h1.lt,fun j hj=>?_⟩
 match j,hj with
 |0,_=>exact h1.at (by simp)
 |1,_=>exact h2.at (by simp)
 |2,_=>exact h3.at (by simp)
 |3,_=>exact h4.at (by simp)
 |4,_=>exact h5.at (by simp)
theorem WB(w:World):Calls Tryz.prog 61 #[] w fun e w'=>∃g,e= .returned (.slice (some ⟨g,0,none⟩) 5 5)∧Below w.heap.size w w'∧zP w' (some ⟨g,0,none⟩) P5:=by
 refine(Uo w).mono ?_
 rintro e w' ⟨g,b2,b3,b4,b5,rfl,hB,h1,h2,h3,h4,h5⟩
 exact⟨g,rfl,hB,V2 h1 h2 h3 h4 h5⟩
theorem Rc(x:Ob):xi x.id x.kind x.links x.text x.id x.kind x.links x.text=true:=rl _ _ _ _
def xm(l:List Ob):Prop:=l.Pairwise (fun x y=>x.id<y.id)
theorem Qw{l:List Ob}(m:List Ob): ∀last:Int,vn l last m=0↔(∀x∈m,x.err=0∧last<x.id∧vZ l x.kind 0 x.links=0)∧xm m:=by
 induction m with
 |nil=>intro last;simp[vn,xm]
 |cons y ys ih=>
  intro last
  constructor
  ·intro h
   refine⟨ai _ _ h,?_⟩
   rw[vn]at h
   split at h
   ·omega
   ·obtain⟨h1,h2⟩:=(ih y.id).1 h
    exact List.pairwise_cons.2 ⟨fun x hx=>(h1 x hx).2.1,h2⟩
  ·rintro⟨h1,h2⟩
   obtain⟨hy,hr⟩:=List.pairwise_cons.1 h2
   obtain⟨e1,e2,e3⟩:=h1 y (by simp)
   have hc:rO l last y=0:=by rw[rO,if_neg (fun e=>e e1),if_neg (by omega),e3]
   rw[vn,if_neg (fun e=>e hc),ih]
   exact⟨fun x hx=>⟨(h1 x (by simp[hx])).1,hy x hx,(h1 x (by simp[hx])).2.2⟩,hr⟩
theorem zh{l:List Ob}:zK l=0↔l.length≤40∧(∀x∈l,x.err=0∧vZ l x.kind 0 x.links=0)∧xm l:=by
 unfold zK
 split
 ·constructor
  ·intro h;omega
  ·intro h;omega
 ·rw[Qw]
  constructor
  ·rintro⟨h1,h2⟩
   exact⟨by omega,fun x hx=>⟨(h1 x hx).1,(h1 x hx).2.2⟩,h2⟩
  ·rintro⟨_,h1,h2⟩
   exact⟨fun x hx=>⟨(h1 x hx).1,by have:=(xg (h1 x hx).1).1;omega,(h1 x hx).2⟩,h2⟩
theorem xm.lt{l:List Ob}(h:xm l){i j:Nat}(hi:i<l.length)(hj:j<l.length)(nZ:i<j):l[i].id<l[j].id:=List.pairwise_iff_getElem.1 h i j hi hj nZ
theorem xm.of_lt{l:List Ob}(h:xm l){i j:Nat}(hi:i<l.length)(hj:j<l.length)(hid:l[i].id<l[j].id):i<j:=by
 rcases Nat.lt_trichotomy i j with c|c|c
 ·exact c
 ·subst c;omega
 ·have:=h.lt hj hi c;omega
theorem xm.take{l:List Ob}(h:xm l)(n:Nat):xm (l.take n):=h.sublist (List.take_sublist n l)
theorem tH{l:List Ob}{x:Int}{i:Nat}(h:zW l x=i): ∃hi:i<l.length,l[i].id=x:=by
 unfold zW at h
 split at h
 ·rename_i k hk
  rw[List.findIdx?_eq_some_iff_getElem]at hk
  obtain⟨jB,hid,_⟩:=hk
  have:k=i:=by omega
  subst this
  exact⟨jB,by simpa using hid⟩
 ·omega
theorem tS{l:List Ob}(h:xm l){i:Nat}(hi:i<l.length):zW l l[i].id=i:=
 sg hi (fun j hj Vp=>by have:=h.lt hj hi Vp;simp;omega) (by simp)
theorem mU{l:List Ob}{kind:Int}(L:List Int): ∀i:Nat,vZ l kind i L=0↔∀j (h:j<L.length),0≤zW l L[j]∧gn kind ((i+j:Nat):Int) (tJ l L[j])=true:=by
 induction L with
 |nil=>intro i;simp[vZ]
 |cons x xs ih=>
  intro i
  rw[vZ]
  constructor
  ·intro h j hj
   split at h
   ·omega
   split at h
   ·omega
   rename_i h1 h2
   match j,hj with
   |0,_=>exact⟨by simpa using h1,by simpa using h2⟩
   |j+1,hj=>
    have:=(ih (i+1)).1 h j (by simpa using hj)
    rw[show i+(j+1)=i+1+j by omega]
    simpa using this
  ·intro h
   have h0:=h 0 (by simp)
   simp only[List.getElem_cons_zero,Nat.add_zero]at h0
   rw[if_neg (by omega),if_neg (by rw[h0.2];simp),ih]
   intro j hj
   have:=h (j+1) (by simpa using hj)
   rw[show i+(j+1)=i+1+j by omega]at this
   simpa using this
theorem gq{l:List Ob}{x:Int}{i:Nat}(h:zW l x=i)(hi:i<l.length):tJ l x=l[i].kind:=by
 unfold tJ
 rw[show(zW l x).toNat=i by omega,List.getElem?_eq_getElem hi]
theorem np{x y:Ob}(h:xi x.id x.kind x.links x.text y.id y.kind y.links y.text=true):x=y:=by
 obtain⟨i,k,L,t⟩:=x
 obtain⟨i',k',L',t'⟩:=y
 simp only[xi,nK,Bool.and_eq_true,decide_eq_true_eq]at h
 obtain⟨⟨⟨h1,h2⟩,h3⟩,h4⟩:=h
 have h5:t=t':=by
  rw[ByteArray.toList_eq,ByteArray.toList_eq]at h3
  obtain⟨⟨a⟩⟩:=t
  obtain⟨⟨b⟩⟩:=t'
  simp at h3
  rw[h3]
 rw[h1,h2,h4,h5]
theorem gP{L:List Ob}{x y:Ob}(h:y∈L):y∈vJ L x:=by
 unfold vJ
 split
 ·have:=List.take_append_drop (yV L x.id) L
  rw[←this]at h
  rcases List.mem_append.1 h with h|h
  ·simp[h]
  ·simp[h]
 ·exact h
theorem gG{L:List Ob}{x y:Ob}(h:y∈vJ L x):y∈L∨y=x:=by
 unfold vJ at h
 split at h
 ·simp only[List.mem_append,List.mem_singleton]at h
  rcases h with(h|h)|h
  ·exact .inl (List.mem_of_mem_take h)
  ·exact .inr h
  ·exact .inl (List.mem_of_mem_drop h)
 ·exact .inl h
theorem ra{L:List Ob}{x:Ob}{i:Nat}(hp:zW L x.id=i)(hi:i<L.length):xW L x=Ut (xi L[i].id L[i].kind L[i].links L[i].text x.id x.kind x.links x.text):=by
 unfold xW
 rw[show(zW L x.id).toNat=i by omega,List.getElem?_eq_getElem hi]
 simp only
 rw[if_neg (by omega)]
theorem ZO{L:List Ob}{x:Ob}(h:xW L x=0):x∈vJ L x:=by
 rcases xG L x.id with hp|⟨i,hp,hi⟩
 ·rw[vJ,if_pos hp];simp
 ·rw[ra hp hi]at h
  have hs:xi L[i].id L[i].kind L[i].links L[i].text x.id x.kind x.links x.text=true:=by
   cases hq:xi L[i].id L[i].kind L[i].links L[i].text x.id x.kind x.links x.text with
   |true=>rfl
   |false=>rw[hq]at h;cases h
  exact gP (by rw[←np hs];exact List.getElem_mem hi)
theorem gw{m:List Ob}: ∀{L:List Ob} {y:Ob},y∈L→y∈zH L m:=by
 induction m with
 |nil=>intro L y h;exact h
 |cons x m ih=>intro L y h;exact ih (gP h)
theorem Xn{m:List Ob}: ∀{L:List Ob},zw L m=0→∀y∈m,y∈zH L m:=by
 induction m with
 |nil=>intro L _ y hy;cases hy
 |cons x m ih=>
  intro L h y hy
  rw[zw]at h
  split at h
  ·rename_i h0;exact absurd h h0
  ·rename_i h0
   have LZ:xW L x=0:=Classical.byContradiction h0
   rcases List.mem_cons.1 hy with rfl|hy
   ·show y∈zH (vJ L y) m
    exact gw (ZO LZ)
   ·exact ih h y hy
theorem fZ{m:List Ob}: ∀{L:List Ob} {y:Ob},y∈zH L m→y∈L∨y∈m:=by
 induction m with
 |nil=>intro L y h;exact .inl h
 |cons x m ih=>
  intro L y h
  rcases ih h with h|h
  ·rcases gG h with h|h
   ·exact .inl h
   ·exact .inr (by simp[h])
  ·exact .inr (by simp[h])
theorem pH{l m:List Ob}(h:xD l m=0):zK l=0∧m.length≤12∧yL m=0∧zw l m=0∧zK (zH l m)=0:=by
 unfold xD at h
 split at h
 ·rename_i h0;exact absurd h h0
 split at h
 ·omega
 split at h
 ·rename_i h0;exact absurd h h0
 split at h
 ·rename_i h0;exact absurd h h0
 rename_i h1 h2 h3 h4
 exact⟨Classical.byContradiction h1,by omega,Classical.byContradiction h3,Classical.byContradiction h4,h⟩
theorem rL{L:List Ob}(hr:xm L)(id:Int): ∀k (hk:k<L.length),k<yV L id↔L[k].id<id:=by
 induction L with
 |nil=>intro k hk;simp at hk
 |cons y L ih=>
  obtain⟨hy,Hm⟩:=List.pairwise_cons.1 hr
  intro k hk
  by_cases c:y.id<id
  ·have hb:yV (y::L) id=yV L id+1:=by simp[yV,c]
   rw[hb]
   match k,hk with
   |0,_=>simp[c]
   |k+1,hk=>
    have:=ih Hm k (by simpa using hk)
    simp only[List.getElem_cons_succ]
    omega
  ·have hz:yV L id=0:=by
    simp only[yV,List.length_eq_zero_iff,List.filter_eq_nil_iff,decide_eq_true_eq]
    intro z hz
    have:=hy z hz
    omega
   have hb:yV (y::L) id=0:=by
    have:yV (y::L) id=yV L id:=by simp[yV,c]
    omega
   rw[hb]
   match k,hk with
   |0,_=>simp[c]
   |k+1,hk=>
    have jB:k<L.length:=by simpa using hk
    have:=hy L[k] (List.getElem_mem jB)
    simp only[List.getElem_cons_succ]
    omega
theorem qb{L:List Ob}(hr:xm L)(x:Ob):xm (vJ L x):=by
 unfold vJ
 split
 ·rename_i hp
  have pQ: ∀k (hk:k<L.length),L[k].id≠x.id:=fun k hk e=>by
   have:=tS hr hk
   rw[e]at this;omega
  have hs:L=L.take (yV L x.id)++L.drop (yV L x.id):=(List.take_append_drop _ _).symm
  have h0:xm (L.take (yV L x.id)++L.drop (yV L x.id)):=by rw[←hs];exact hr
  obtain⟨h1,h2,h3⟩:=List.pairwise_append.1 h0
  have hle:=rd L x.id
  rw[List.append_assoc]
  refine List.pairwise_append.2 ⟨h1,List.pairwise_append.2 ⟨by simp,h2,?_⟩,?_⟩
  ·intro a ha b hb
   obtain rfl:=List.mem_singleton.1 ha
   obtain⟨j,hj,rfl⟩:=List.getElem_of_mem hb
   rw[List.length_drop]at hj
   rw[List.getElem_drop]
   have q1:=(rL hr a.id (yV L a.id+j) (by omega))
   have q2:=pQ (yV L a.id+j) (by omega)
   omega
  ·intro a ha b hb
   rcases List.mem_append.1 hb with hb|hb
   ·obtain rfl:=List.mem_singleton.1 hb
    obtain⟨j,hj,rfl⟩:=List.getElem_of_mem ha
    rw[List.length_take]at hj
    rw[List.getElem_take]
    exact(rL hr b.id j (by omega)).1 (by omega)
   ·exact h3 a ha b hb
 ·exact hr
theorem b9(m:List Ob): ∀{L:List Ob},xm L→xm (zH L m):=by
 induction m with
 |nil=>intro L h;exact h
 |cons x m ih=>intro L h;exact ih (qb h x)
def ed(l:List Ob):Prop:=∀x∈l,∀y∈l,x.id=y.id→x=y
theorem sp(m:List Ob): ∀{L:List Ob},xm L→(zw L m=0↔ed (L++m)):=by
 induction m with
 |nil=>
  intro L hr
  simp only[zw,List.append_nil,true_iff]
  intro x hx y hy e
  obtain⟨i,hi,rfl⟩:=List.getElem_of_mem hx
  obtain⟨j,hj,rfl⟩:=List.getElem_of_mem hy
  have h1:=tS hr hi
  have h2:=tS hr hj
  rw[e]at h1
  have:i=j:=by omega
  subst this;rfl
 |cons z m ih=>
  intro L hr
  rw[zw]
  constructor
  ·intro h
   split at h
   ·rename_i h0;exact absurd h h0
   ·rename_i h0
    have LZ:xW L z=0:=Classical.byContradiction h0
    have hA:=(ih (qb hr z)).1 h
    have fT: ∀x∈L++z::m,x∈vJ L z++m:=fun x hx=>by
     simp only[List.mem_append,List.mem_cons]at hx⊢
     rcases hx with hx|rfl|hx
     ·exact .inl (gP hx)
     ·exact .inl (ZO LZ)
     ·exact .inr hx
    exact fun x hx y hy e=>hA x (fT x hx) y (fT y hy) e
  ·intro h
   have h0:xW L z=0:=by
    rcases xG L z.id with hp|⟨i,hp,hi⟩
    ·unfold xW
     split
     ·rw[if_pos hp]
     ·rfl
    ·obtain⟨_,hid⟩:=tH hp
     have:=h L[i] (by simp) z (by simp) hid
     rw[ra hp hi,this,Rc];rfl
   rw[if_neg (fun e=>e h0),ih (qb hr z)]
   have fT: ∀x∈vJ L z++m,x∈L++z::m:=fun x hx=>by
    simp only[List.mem_append,List.mem_cons]at hx⊢
    rcases hx with hx|hx
    ·rcases gG hx with hx|hx
     ·exact .inl hx
     ·exact .inr (.inl hx)
    ·exact .inr (.inr hx)
   exact fun x hx y hy e=>h x (fT x hx) y (fT y hy) e
theorem RE{w:World}{a:Option Addr}{m:List Ob}(h:zP w a m)(hm:0<m.length):
  ∃(b off:Nat) (rs:List Pl),a=some ⟨b,off,none⟩∧b<w.heap.size∧rs.map Pl.x=m∧(∀j u,(xE rs)[j]? =some u→w.cell? ((⟨b,off,none⟩:Addr).add j)=some u)∧∀r∈rs,yD w r.sa r.x.links:=by
 obtain⟨b,off,rfl,aY,hc⟩:=h 0 hm
 have key: ∀(n:Nat),n≤m.length→∃rs:List Pl,rs.map Pl.x=m.take n∧(∀j u,(xE rs)[j]? =some u→w.cell? ⟨b,off+j,none⟩=some u)∧∀r∈rs,yD w r.sa r.x.links:=by
  intro n
  induction n with
  |zero=>intro _;exact⟨[],rfl,fun j u hj=>by simp[xE]at hj,fun r hr=>by cases hr⟩
  |succ n ih=>
   intro hn
   obtain⟨rs,e1,e2,e3⟩:=ih (by omega)
   obtain⟨sa,sc,c0,c1,c2,c3,hh,_⟩:=hc n (by omega)
   have hl:rs.length=n:=by have:=congrArg List.length e1;rw[List.length_map,List.length_take]at this;omega
   refine⟨rs++[⟨m[n],sa,sc⟩],?_,?_,?_⟩
   ·rw[List.map_append,e1,List.take_succ_eq_append_getElem (by omega)];rfl
   ·intro j u hj
    rw[xh]at hj
    rcases Nat.lt_or_ge j (n*4)with c|c
    ·rw[List.getElem?_append_left (by rw[xe,hl];exact c)]at hj
     exact e2 j u hj
    ·rw[List.getElem?_append_right (by rw[xe,hl];exact c),xe,hl]at hj
     have hj4:j-n*4<4:=by
      rcases Nat.lt_or_ge (j-n*4) 4 with q|q
      ·exact q
      ·rw[List.getElem?_eq_none (by simpa[xE,Pl.cells]using q)]at hj;cases hj
     obtain⟨i,hi⟩: ∃i,j=n*4+i∧i<4:=⟨j-n*4,by omega,hj4⟩
     obtain⟨rfl,hi⟩:=hi
     rw[show n*4+i-n*4=i by omega]at hj
     match i,hi with
     |0,_=>rw[show off+(n*4+0)=off+n*4 by omega,c0];simpa[xE,Pl.cells]using hj
     |1,_=>rw[show off+(n*4+1)=off+n*4+1 by omega,c1];simpa[xE,Pl.cells]using hj
     |2,_=>rw[show off+(n*4+2)=off+n*4+2 by omega,c2];simpa[xE,Pl.cells]using hj
     |3,_=>rw[show off+(n*4+3)=off+n*4+3 by omega,c3];simpa[xE,Pl.cells]using hj
   ·intro r hr
    rcases List.mem_append.1 hr with q|q
    ·exact e3 r q
    ·obtain rfl:=List.mem_singleton.1 q;exact hh
 obtain⟨rs,e1,e2,e3⟩:=key m.length (Nat.le_refl _)
 rw[List.take_length]at e1
 refine⟨b,off,rs,rfl,aY,e1,fun j u hj=>?_,e3⟩
 have vd:(⟨b,off,none⟩:Addr).add j=⟨b,off+j,none⟩:=by unfold Addr.add;split<;>simp_all
 rw[vd]
 exact e2 j u hj
theorem gF{m:List Ob}:yL m=0↔∀x∈m,x.err=0:=by
 refine⟨mR,fun h=>?_⟩
 induction m with
 |nil=>rfl
 |cons y m ih=>
  rw[yL,if_neg (fun e=>e (h y (by simp)))]
  exact ih (fun x hx=>h x (by simp[hx]))
theorem N9{l m:List Ob}:xD l m=0↔zK l=0∧m.length≤12∧(∀x∈m,x.err=0)∧ed (l++m)∧zK (zH l m)=0:=by
 constructor
 ·intro h
  obtain⟨h1,h2,h3,h4,h5⟩:=pH h
  exact⟨h1,h2,gF.1 h3,(sp m (zh.1 h1).2.2).1 h4,h5⟩
 ·rintro⟨h1,h2,h3,h4,h5⟩
  have q:=(sp m (zh.1 h1).2.2).2 h4
  rw[xD,if_neg (fun e=>e h1),if_neg (by omega),if_neg (fun e=>e (gF.2 h3)),if_neg (fun e=>e q)]
  exact h5
theorem qd{l m:List Ob}(h:zw l m=0){x:Ob}:x∈zH l m↔x∈l∨x∈m:=
 ⟨fZ,fun q=>q.elim gw (Xn h x)⟩
end Go.Proofs.YtehmlpkapjdhkaaGreatDoor
