import Derived.Test.YtehmlpkapjdhkaaGreatDoorMD
import Derived.Test.YtehmlpkapjdhkaaGreatDoorSh
namespace Go.Proofs.YtehmlpkapjdhkaaGreatDoor
set_option maxHeartbeats 16000000
open Go.RowKit
set_option maxRecDepth 100000
theorem UM(x:Ob)(sa:Option Addr)(sc:Nat)(id:Int)(p:Nat)(w:World)(hp:w.cell? ⟨p,0,none⟩=some (.int .i64 id))(zN:p<w.heap.size):
  Calls Tryz.prog 194 #[x.val sa sc,.pointer (some ⟨p,0,none⟩)] w fun e w'=>e= .returned (.bool (x.id==id))∧Below w.heap.size w w':=by
 go_enter Tryz.func194,Tryz.ntmps194
 go_wp2
 go_ret
 exact⟨rfl,zB _ _⟩
theorem cD(a:Option Addr)(c:Nat)(l:List Ob)(id:Int)(p:Nat)(w:World)(h:zP w a l)(hl:l.length≤9223372036854775807)(hp:w.cell? ⟨p,0,none⟩=some (.int .i64 id))(zN:p<w.heap.size):
  Calls Tryz.prog 139 #[.slice a l.length c,.func (.func 194) #[] #[.pointer (some ⟨p,0,none⟩)]] w fun e w'=>e= .returned (.int .i64 (zW l id))∧Below w.heap.size w w':=by
 go_enter Tryz.func139,Tryz.ntmps139
 go_wp2
 go_loopw [8] (fun i wr=>∃k:Nat,i= .int .i64 k∧k≤l.length∧Below w.heap.size w wr∧Hid (∀j (hj:j<l.length),j<k→(l[j].id==id)=false)) (fun i _=>l.length-(intOf i).toNat)
 case atStart=>exact⟨0,rfl,Nat.zero_le _,Below.refl _ _,fun j _ h=>absurd h (Nat.not_lt_zero j)⟩
 case round=>
  obtain⟨k,rfl,hk,hB,H⟩:=hrel
  by_cases xl:k<l.length
  ·obtain⟨b,off,rfl,hb,hc⟩:=(h.below hB) k xl
   obtain⟨sa,sc,x0,x1,x2,x3,x4,x5⟩:=hc k xl
   have mP:wr.cell? ⟨p,0,none⟩=some (.int .i64 id):=(hB.cell (p:=⟨p,0,none⟩) zN).trans hp
   clear hc
   go_wp2_with fail
   refine(UM l[k] sa sc id p _ mP (Nat.lt_of_lt_of_le zN hB.size)).mono ?_
   rintro e w1 ⟨rfl,zM⟩
   have zT:=bt hB zM
   clear zM x0 x1 x2 x3 x4 mP
   by_cases hq:(l[k].id==id)=true
   ·have HR:Hid (zW l id=k):=sg xl H.out hq
    rw[hq]
    clear hq
    go_wp2
    go_ret
    exact⟨zE HR.out.symm,zT⟩
   ·have rU:(l[k].id==id)=false:=by simpa using hq
    have HN:Hid (∀j (hj:j<l.length),j<k+1→(l[j].id==id)=false):=fun j hj hjk=>by
     rcases Nat.lt_or_ge j k with h1|h1
     ·exact H.out j hj h1
     ·have:j=k:=by omega
      subst this
      exact rU
    rw[rU]
    clear hq rU
    go_wp2
    go_roundw
    case rel=>exact⟨k+1,by go_num,by omega,zT,HN⟩
    case measure=>simp[intOf];omega
  ·have HR:Hid (zW l id= -1):=pm (fun j hj=>H.out j hj (by omega))
   go_wp2
   go_ret
   exact⟨zE HR.out.symm,hB⟩
theorem jv(a:Option Addr)(c:Nat)(l:List Ob)(id:Int)(p:Nat)(w:World)(h:zP w a l)(hl:l.length≤9223372036854775807)(hp:w.cell? ⟨p,0,none⟩=some (.int .i64 id))(zN:p<w.heap.size):
  Calls Tryz.prog 193 #[.slice a l.length c,.func (.func 194) #[] #[.pointer (some ⟨p,0,none⟩)]] w fun e w'=>e= .returned (.bool (decide (0≤zW l id)))∧Below w.heap.size w w':=by
 go_enter Tryz.func193,Tryz.ntmps193
 go_wp2_with fail
 refine(cD a c l id p w h hl hp zN).mono ?_
 rintro e w1 ⟨rfl,hb⟩
 go_wp2
 go_ret
 exact⟨rfl,hb⟩
def uK(l:List Ob)(ids:List Int):Int:=if ids.all (fun id=>decide (0≤zW l id))then 0 else 5
theorem ft(a:Option Addr)(c:Nat)(l:List Ob)(a2:Option Addr)(c2:Nat)(ids:List Int)(w:World)(h:zP w a l)(hl:l.length≤9223372036854775807)(h2:yD w a2 ids)(hm:ids.length≤9223372036854775807):
  Calls Tryz.prog 141 #[.slice a l.length c,.slice a2 ids.length c2] w fun e w'=>e= .returned (.int .i64 (uK l ids))∧Below w.heap.size w w':=by
 have Uk: ∀(fn:Fn) (first cap:Array Value) (w:World),(Instr.makeFunc fn first cap).run Tryz.prog w= .ok (.func fn first cap) w:=fun _ _ _ _=>rfl
 go_enter Tryz.func141,Tryz.ntmps141
 go_wp2
 go_loopw [9] (fun i wr=>∃k:Nat,i= .int .i64 k∧k≤ids.length∧Below w.heap.size w wr∧Hid (∀id∈ids.take k,0≤zW l id)) (fun i _=>ids.length-(intOf i).toNat)
 case atStart=>exact⟨0,rfl,Nat.zero_le _,Below.refl _ _,fun j h=>by simp at h⟩
 case round=>
  obtain⟨k,rfl,hk,hB,H⟩:=hrel
  by_cases xl:k<ids.length
  ·obtain⟨b,off,rfl,hb,hc⟩:=(h2.below hB) k xl
   have x0:=hc k xl
   clear hc
   have hA:=zB wr (.cells #[.int .i64 (ids.getD k 0)] 3)
   have hp:(wr.alloc (.cells #[.int .i64 (ids.getD k 0)] 3)).cell? ⟨wr.heap.size,0,none⟩=some (.int .i64 (ids.getD k 0)):=by rw[World.cell?_alloc_at _ _ _ _ rfl];rfl
   have HG:Hid (ids.getD k 0=ids[k]):=by unfold Hid;simp[xl]
   generalize ids.getD k 0=id at *
   go_wp2_with fail
   refine(jv a c l id wr.heap.size _ (h.below ((bt hB hA))) hl hp (by simp)).mono ?_
   rintro e w1 ⟨rfl,zM⟩
   have zT:=((bt hB hA)).trans (zM.mono (Nat.le_trans hB.size hA.size))
   clear zM x0 hp hA
   by_cases hq:0≤zW l id
   ·have HN:Hid (∀id∈ids.take (k+1),0≤zW l id):=fun j hj=>by
     rw[List.take_succ_eq_append_getElem xl]at hj
     rcases List.mem_append.1 hj with q|q
     ·exact H.out j q
     ·rw[List.mem_singleton.1 q,←HG.out];exact hq
    rw[show decide (0≤zW l id)=true by simpa using hq]
    clear hq
    go_wp2
    go_roundw
    case rel=>exact⟨k+1,by go_num,by omega,zT,HN⟩
    case measure=>simp[intOf];omega
   ·have HR:Hid (uK l ids=5):=by
     unfold Hid uK
     rw[if_neg]
     intro q
     have:=List.all_eq_true.1 q _ (List.getElem_mem xl)
     rw[←HG.out]at this
     exact hq (by simpa using this)
    rw[show decide (0≤zW l id)=false by simpa using hq]
    clear hq
    go_wp2
    go_ret
    exact⟨zE HR.out.symm,zT⟩
  ·have HR:Hid (uK l ids=0):=by
    unfold Hid uK
    rw[if_pos]
    rw[List.all_eq_true]
    intro id hid
    simpa using H.out id (by rw[List.take_of_length_le (by omega)];exact hid)
   go_wp2
   go_ret
   exact⟨zE HR.out.symm,hB⟩
def qg(L:List Int)(x:Int):Int:=match L.findIdx? (fun y=>x==y)with|some i=>(i:Int)|none=>-1
theorem Vu{L:List Int}{x:Int}{k:Nat}(hk:k<L.length)(pQ: ∀j (h:j<L.length),j<k→(x==L[j])=false)(h:(x==L[k])=true):qg L x=k:=by
 have:L.findIdx? (fun y=>x==y)=some k:=by
  rw[List.findIdx?_eq_some_iff_getElem]
  exact⟨hk,h,fun j hj=>by simpa using pQ j (by omega) hj⟩
 simp[qg,this]
theorem XS{L:List Int}{x:Int}(pQ: ∀j (h:j<L.length),(x==L[j])=false):qg L x= -1:=by
 have:L.findIdx? (fun y=>x==y)=none:=by
  rw[List.findIdx?_eq_none_iff]
  intro y hy
  obtain⟨j,hj,rfl⟩:=List.getElem_of_mem hy
  exact pQ j hj
 simp[qg,this]
theorem Vq{L:List Int}{x:Int}:(0≤qg L x)↔x∈L:=by
 unfold qg
 split
 ·rename_i i hi
  rw[List.findIdx?_eq_some_iff_getElem]at hi
  obtain⟨h1,h2,_⟩:=hi
  refine⟨fun _=>?_,fun _=>by omega⟩
  rw[show x=L[i] by simpa using h2]
  exact List.getElem_mem h1
 ·rename_i hi
  rw[List.findIdx?_eq_none_iff]at hi
  refine⟨fun h=>by omega,fun h=>?_⟩
  have:=hi x h
  simp at this
theorem QM(a:Option Addr)(c:Nat)(L:List Int)(x:Int)(w:World)(h:yD w a L)(hl:L.length≤9223372036854775807):
  Calls Tryz.prog 239 #[.slice a L.length c,.int .i64 x] w fun e w'=>e= .returned (.int .i64 (qg L x))∧Below w.heap.size w w':=by
 go_enter Tryz.func239,Tryz.ntmps239
 go_wp2
 go_loopw [8] (fun i wr=>∃k:Nat,i= .int .i64 k∧k≤L.length∧Below w.heap.size w wr∧Hid (∀j (hj:j<L.length),j<k→(x==L[j])=false)) (fun i _=>L.length-(intOf i).toNat)
 case atStart=>exact⟨0,rfl,Nat.zero_le _,Below.refl _ _,fun j _ h=>absurd h (Nat.not_lt_zero j)⟩
 case round=>
  obtain⟨k,rfl,hk,hB,H⟩:=hrel
  by_cases xl:k<L.length
  ·obtain⟨b,off,rfl,hb,hc⟩:=(h.below hB) k xl
   have x0:=hc k xl
   have HG:Hid (L.getD k 0=L[k]):=by unfold Hid;simp[xl]
   generalize L.getD k 0=y at *
   clear hc
   by_cases hq:x=y
   ·have HR:Hid (qg L x=k):=Vu xl H.out (by rw[←HG.out];simpa using hq)
    clear HG
    subst hq
    go_wp2
    go_ret
    exact⟨zE HR.out.symm,hB⟩
   ·have HN:Hid (∀j (hj:j<L.length),j<k+1→(x==L[j])=false):=fun j hj hjk=>by
     rcases Nat.lt_or_ge j k with h1|h1
     ·exact H.out j hj h1
     ·have:j=k:=by omega
      subst this
      rw[←HG.out];simpa using hq
    have rU:(x==y)=false:=by simpa using hq
    go_wp2
    go_roundw
    case rel=>exact⟨k+1,by go_num,by omega,hB,HN⟩
    case measure=>simp[intOf];omega
  ·have HR:Hid (qg L x= -1):=XS (fun j hj=>H.out j hj (by omega))
   go_wp2
   go_ret
   exact⟨zE HR.out.symm,hB⟩
theorem Z9(a:Option Addr)(c:Nat)(L:List Int)(x:Int)(w:World)(h:yD w a L)(hl:L.length≤9223372036854775807):
  Calls Tryz.prog 196 #[.slice a L.length c,.int .i64 x] w fun e w'=>e= .returned (.bool (decide (x∈L)))∧Below w.heap.size w w':=by
 go_enter Tryz.func196,Tryz.ntmps196
 go_wp2_with fail
 refine(QM a c L x w h hl).mono ?_
 rintro e w1 ⟨rfl,hb⟩
 have HR:Hid (decide (0≤qg L x)=decide (x∈L)):=by unfold Hid;rw[decide_eq_decide];exact Vq
 go_wp2
 go_ret
 exact⟨yI HR.out,hb⟩
theorem UH(x:Ob)(sa:Option Addr)(sc:Nat)(kind:Int)(p q:Nat)(a2:Option Addr)(c2:Nat)(ids:List Int)(w:World)(hp:w.cell? ⟨p,0,none⟩=some (.int .i64 kind))(zN:p<w.heap.size)
  (hq:w.cell? ⟨q,0,none⟩=some (.slice a2 ids.length c2)) (hqlt:q<w.heap.size) (h2:yD w a2 ids) (hm:ids.length≤9223372036854775807):
  Calls Tryz.prog 195 #[x.val sa sc,.pointer (some ⟨p,0,none⟩),.pointer (some ⟨q,0,none⟩)] w fun e w'=>e= .returned (.bool (x.kind != kind&&decide (x.id∈ids)))∧Below w.heap.size w w':=by
 have hA:=zB w (.cells #[.int .i64 x.id,.int .i64 x.kind,.slice sa x.links.length sc,.string x.text] 58)
 have h2':=h2.below hA
 have G9:=(hA.cell (p:=⟨p,0,none⟩) zN).trans hp
 have rU:=(hA.cell (p:=⟨q,0,none⟩) hqlt).trans hq
 go_enter Tryz.func195,Tryz.ntmps195
 by_cases hk:x.kind=kind
 ·go_wp2
  go_ret
  exact⟨yI (by simp[hk]),zB _ _⟩
 ·have jB:(x.kind != kind)=true:=by simpa using hk
  go_wp2_with fail
  refine(Z9 a2 c2 ids x.id _ h2' hm).mono ?_
  rintro e w1 ⟨rfl,zM⟩
  have HR:Hid (decide (x.id∈ids)=(x.kind != kind&&decide (x.id∈ids))):=by unfold Hid;rw[jB,Bool.true_and]
  have zT:=bt hA zM
  clear zM h2' G9 rU hA
  go_wp2
  go_ret
  exact⟨yI HR.out,zT⟩
def qn(P:Ob→Bool)(l:List Ob):Int:=match l.findIdx? P with|some i=>(i:Int)|none=>-1
theorem U0{P:Ob→Bool}{l:List Ob}{k:Nat}(hk:k<l.length)(pQ: ∀j (h:j<l.length),j<k→P l[j]=false)(h:P l[k]=true):qn P l=k:=by
 have:l.findIdx? P=some k:=by
  rw[List.findIdx?_eq_some_iff_getElem]
  exact⟨hk,h,fun j hj=>by simpa using pQ j (by omega) hj⟩
 simp[qn,this]
theorem Xw{P:Ob→Bool}{l:List Ob}(pQ: ∀j (h:j<l.length),P l[j]=false):qn P l= -1:=by
 have:l.findIdx? P=none:=by
  rw[List.findIdx?_eq_none_iff]
  intro x hx
  obtain⟨j,hj,rfl⟩:=List.getElem_of_mem hx
  exact pQ j hj
 simp[qn,this]
theorem Tf{P:Ob→Bool}{l:List Ob}:decide (0≤qn P l)=l.any P:=by
 unfold qn
 split
 ·rename_i i hi
  rw[List.findIdx?_eq_some_iff_getElem]at hi
  obtain⟨h1,h2,_⟩:=hi
  rw[show l.any P=true from List.any_eq_true.2 ⟨_,List.getElem_mem h1,h2⟩]
  simp
 ·rename_i hi
  rw[List.findIdx?_eq_none_iff]at hi
  rw[show l.any P=false from List.any_eq_false.2 (fun x hx=>by simp[hi x hx])]
  simp
def uQ(kind:Int)(ids:List Int)(x:Ob):Bool:=x.kind != kind&&decide (x.id∈ids)
theorem bI(a:Option Addr)(c:Nat)(l:List Ob)(kind:Int)(p q:Nat)(a2:Option Addr)(c2:Nat)(ids:List Int)(w:World)(h:zP w a l)(hl:l.length≤9223372036854775807)(hp:w.cell? ⟨p,0,none⟩=some (.int .i64 kind))(zN:p<w.heap.size)
  (hq:w.cell? ⟨q,0,none⟩=some (.slice a2 ids.length c2)) (hqlt:q<w.heap.size) (h2:yD w a2 ids) (hm:ids.length≤9223372036854775807):
  Calls Tryz.prog 139 #[.slice a l.length c,.func (.func 195) #[] #[.pointer (some ⟨p,0,none⟩),.pointer (some ⟨q,0,none⟩)]] w fun e w'=>e= .returned (.int .i64 (qn (uQ kind ids) l))∧Below w.heap.size w w':=by
 go_enter Tryz.func139,Tryz.ntmps139
 go_wp2
 go_loopw [8] (fun i wr=>∃k:Nat,i= .int .i64 k∧k≤l.length∧Below w.heap.size w wr∧Hid (∀j (hj:j<l.length),j<k→uQ kind ids l[j]=false)) (fun i _=>l.length-(intOf i).toNat)
 case atStart=>exact⟨0,rfl,Nat.zero_le _,Below.refl _ _,fun j _ h=>absurd h (Nat.not_lt_zero j)⟩
 case round=>
  obtain⟨k,rfl,hk,hB,H⟩:=hrel
  by_cases xl:k<l.length
  ·obtain⟨b,off,rfl,hb,hc⟩:=(h.below hB) k xl
   obtain⟨sa,sc,x0,x1,x2,x3,x4,x5⟩:=hc k xl
   have mP:wr.cell? ⟨p,0,none⟩=some (.int .i64 kind):=(hB.cell (p:=⟨p,0,none⟩) zN).trans hp
   have Vm:wr.cell? ⟨q,0,none⟩=some (.slice a2 ids.length c2):=(hB.cell (p:=⟨q,0,none⟩) hqlt).trans hq
   have h2r:=h2.below hB
   clear hc
   go_wp2_with fail
   refine(UH l[k] sa sc kind p q a2 c2 ids _ mP (Nat.lt_of_lt_of_le zN hB.size) Vm (Nat.lt_of_lt_of_le hqlt hB.size) h2r hm).mono ?_
   rintro e w1 ⟨rfl,zM⟩
   have zT:=bt hB zM
   clear zM x0 x1 x2 x3 x4 mP Vm h2r
   by_cases hqq:(l[k].kind != kind&&decide (l[k].id∈ids))=true
   ·have HR:Hid (qn (uQ kind ids) l=k):=U0 xl H.out hqq
    rw[hqq]
    clear hqq
    go_wp2
    go_ret
    exact⟨zE HR.out.symm,zT⟩
   ·have rU:(l[k].kind != kind&&decide (l[k].id∈ids))=false:=by simpa using hqq
    have HN:Hid (∀j (hj:j<l.length),j<k+1→uQ kind ids l[j]=false):=fun j hj hjk=>by
     rcases Nat.lt_or_ge j k with h1|h1
     ·exact H.out j hj h1
     ·have:j=k:=by omega
      subst this
      exact rU
    rw[rU]
    clear hqq rU
    go_wp2
    go_roundw
    case rel=>exact⟨k+1,by go_num,by omega,zT,HN⟩
    case measure=>simp[intOf];omega
  ·have HR:Hid (qn (uQ kind ids) l= -1):=Xw (fun j hj=>H.out j hj (by omega))
   go_wp2
   go_ret
   exact⟨zE HR.out.symm,hB⟩
theorem jO(a:Option Addr)(c:Nat)(l:List Ob)(kind:Int)(p q:Nat)(a2:Option Addr)(c2:Nat)(ids:List Int)(w:World)(h:zP w a l)(hl:l.length≤9223372036854775807)(hp:w.cell? ⟨p,0,none⟩=some (.int .i64 kind))(zN:p<w.heap.size)
  (hq:w.cell? ⟨q,0,none⟩=some (.slice a2 ids.length c2)) (hqlt:q<w.heap.size) (h2:yD w a2 ids) (hm:ids.length≤9223372036854775807):
  Calls Tryz.prog 193 #[.slice a l.length c,.func (.func 195) #[] #[.pointer (some ⟨p,0,none⟩),.pointer (some ⟨q,0,none⟩)]] w fun e w'=>e= .returned (.bool (l.any (uQ kind ids)))∧Below w.heap.size w w':=by
 have HR:Hid (decide (0≤qn (uQ kind ids) l)=l.any (uQ kind ids)):=Tf
 go_enter Tryz.func193,Tryz.ntmps193
 go_wp2_with fail
 refine(bI a c l kind p q a2 c2 ids w h hl hp zN hq hqlt h2 hm).mono ?_
 rintro e w1 ⟨rfl,hb⟩
 go_wp2
 go_ret
 exact⟨yI HR.out,hb⟩
theorem YT(a:Option Addr)(c:Nat)(l:List Ob)(kind:Int)(a2:Option Addr)(c2:Nat)(ids:List Int)(w:World)(h:zP w a l)(hl:l.length≤9223372036854775807)(h2:yD w a2 ids)(hm:ids.length≤9223372036854775807):
  Calls Tryz.prog 142 #[.slice a l.length c,.int .i64 kind,.slice a2 ids.length c2] w fun e w'=>e= .returned (.bool (l.any (uQ kind ids)))∧Below w.heap.size w w':=by
 have Uk: ∀(fn:Fn) (first cap:Array Value) (w:World),(Instr.makeFunc fn first cap).run Tryz.prog w= .ok (.func fn first cap) w:=fun _ _ _ _=>rfl
 have hA:=zB w (.cells #[.int .i64 kind] 3)
 have hp:(w.alloc (.cells #[.int .i64 kind] 3)).cell? ⟨w.heap.size,0,none⟩=some (.int .i64 kind):=by rw[World.cell?_alloc_at _ _ _ _ rfl];rfl
 have tu:=zB (w.alloc (.cells #[.int .i64 kind] 3)) (.cells #[.slice a2 ids.length c2] 45)
 have Y6:=(tu.cell (p:=⟨w.heap.size,0,none⟩) (by simp)).trans hp
 have hq:((w.alloc (.cells #[.int .i64 kind] 3)).alloc (.cells #[.slice a2 ids.length c2] 45)).cell? ⟨w.heap.size+1,0,none⟩=some (.slice a2 ids.length c2):=by
  rw[World.cell?_alloc_at _ _ _ _ (by simp)];rfl
 have hB:=bt hA tu
 clear hA tu hp
 go_enter Tryz.func142,Tryz.ntmps142
 go_wp2_with fail
 refine(jO a c l kind w.heap.size (w.heap.size+1) a2 c2 ids _ (h.below hB) hl Y6 (by simp;omega) hq (by simp) (h2.below hB) hm).mono ?_
 rintro e w1 ⟨rfl,hb⟩
 have zT:=bt hB hb
 clear hb hB Y6 hq
 go_wp2
 go_ret
 exact⟨rfl,zT⟩
theorem X2(x:Ob)(sa:Option Addr)(sc:Nat)(w:World)(h1:1≤x.links.length)(hs:x.links.length≤sc)(hl:x.links.length≤9223372036854775807):
  Calls Tryz.prog 144 #[x.val sa sc] w fun e w'=>e= .returned (.slice (if sc=1 then sa else sa.map (fun y=>y.add 1)) (x.links.length-1) (sc-1))∧Below w.heap.size w w':=by
 have ZQ:(1:Int)≤(sc:Int):=by omega
 have Ds:(1:Int)≤(x.links.length:Int):=by omega
 by_cases hc:sc=1
 ·rw[if_pos hc,show sc-1=0 by omega]
  go_enter Tryz.func144,Tryz.ntmps144
  go_wp2
  go_ret
  exact⟨rfl,zB _ _⟩
 ·rw[if_neg hc]
  go_enter Tryz.func144,Tryz.ntmps144
  go_wp2
  go_ret
  exact⟨rfl,zB _ _⟩
section
open Go.RowKit Go.Shelf
attribute [local go_sem] Oper.semAt_some
def yb(S:List Int):Array Value:=((List.range 100).map (fun(j:Nat)=>Value.bool (decide ((j:Int)∈S)))).toArray
theorem sl(S:List Int):(yb S).size=100:=by simp[yb]
theorem ef(S:List Int)(i:Nat)(hi:i<100):(yb S)[i]? =some (.bool (decide ((i:Int)∈S))):=by
 simp[yb,hi]
theorem Z7{S T:List Int}(h: ∀j,j∈S↔j∈T):yb S=yb T:=by
 unfold yb
 congr 2
 funext j
 rw[decide_eq_decide.2 (h j)]
theorem UP(S:List Int)(i:Nat)(_:i<100):(yb S).setIfInBounds i (.bool true)=yb ((i:Int)::S):=by
 apply Array.ext
 ·simp[yb]
 ·intro k h1 h2
  have hk:k<100:=by simpa[yb]using h2
  by_cases e:i=k
  ·subst e
   simp[yb]
  ·have e': ¬(k:Int)=(i:Int):=by omega
   rw[Array.getElem_setIfInBounds_ne (by simpa[yb]using hk) e]
   simp[yb,e']
theorem ZD:Tryz.zeroCells188=yb []:=by kernel_rfl
theorem UJ(S:List Int):(yb S).all (·.oneCell')=true:=by
 rw[Array.all_eq_true_iff_forall_mem]
 intro v hv
 simp[yb]at hv
 obtain⟨j,_,rfl⟩:=hv
 rfl
def qc(n₀ Bs:Nat)(W W':World):Prop:=Below n₀ W W'∧W'.heap[Bs]? =W.heap[Bs]?
theorem qc.trans{n₀ Bs:Nat}{A B C:World}(h:qc n₀ Bs A B)(k:qc n₀ Bs B C):qc n₀ Bs A C:=⟨h.1.trans k.1,k.2.trans h.2⟩
theorem qc.book{n₀ Bs:Nat}{w:World}(hn:n₀≤w.heap.size)(hb:Bs<w.heap.size)(W:World)(l:Nat)(o o':Obj)(hl:w.heap.size≤l)(h:W.heap[l]? =some o)(h1:o.isCells=false)(h2:o.isWalk=false):qc n₀ Bs W (W.putObj l o'):=by
 refine⟨belowK_b hn W l o o' hl h h1 h2,?_⟩
 have zN:l<W.heap.size:=zG h
 exact(grownBy_putObj' W l o').block Bs (by omega) (fun e=>by cases e;omega)
abbrev pz(Q:Pl→Prop):={r:Nat×Pl // Q r.2 }
def pz.vals{Q:Pl→Prop}(r:pz Q):Array Value:=#[.int .i64 (r.1.1:Int),r.1.2.x.val r.1.2.sa r.1.2.sc]
set_option maxRecDepth 100000 in
theorem Me(n:Nat)(hn:1≤n)(l Bs n₀ b off cap:Nat)(rs:List Pl)(Q:Pl→Prop)(hQ: ∀k (hk:k<rs.length),Q rs[k])(hlen:rs.length≤9223372036854775807)(hb:b<n₀)(J Jx:List (pz Q)→World→Prop)
  (hY: ∀(pre:List (pz Q)) (x:pz Q) W,J pre W→pre.length<rs.length→YieldAt Fence.wide (n-1) Tryz.prog l x.vals W fun e W'=>
   (e= .returned (.bool true)∧J (pre++[x]) W'∧qc n₀ Bs W W')∨(e= .returned (.bool false)∧Jx (pre++[x]) W'))
  (W:World) (hBs:W.cell? ⟨Bs,0,none⟩=some (.slice (some ⟨b,off,none⟩) rs.length cap))
  (hc: ∀k (hk:k<rs.length) j,j<4→W.cell? ⟨b,off+k*4+j,none⟩=(rs[k].cells)[j]?) (h0:J [] W):
  CallsIn Fence.wide n Tryz.prog 240 #[.func (.yield l) #[] #[],.pointer (some ⟨Bs,0,none⟩)] W fun e W'=>(∃v,e= .returned v)∧
   ((∃ys:List (pz Q),ys.map (fun r=>r.1.2)=rs.reverse∧J ys W')∨(∃pre:List (pz Q),True∧Jx pre W')):=by
 refine callsIn_of_wp Tryz.func240 rfl trivial ?_ rfl
 simp only[Tryz.ntmps240,List.size_toArray,List.length_cons,List.length_nil,Nat.reduceAdd,Nat.reduceSub,Array.replicate_succ,Array.replicate_zero,List.push_toArray,List.append_toArray,List.nil_append,List.cons_append]
 gi_wp2
 gi_loopw [3] (fun i wr=>∃(j:Nat) (pre:List (pz Q)),j+pre.length=rs.length∧i= .int .i64 ((j:Int)-1)∧pre.map (fun r=>r.1.2)=rs.reverse.take pre.length∧J pre wr∧qc n₀ Bs W wr)
  (fun i _=>(intOf i+1).toNat)
 case atStart=>exact⟨rs.length,[],by simp,rfl,by simp,h0,Below.refl _ _,rfl⟩
 case round=>
  obtain⟨j,pre,hj,rfl,me,CX,hK⟩:=hrel
  cases j with
  |zero=>
   rw[show(((0:Nat):Int)-1)= -1 by rfl]
   have HF:Hid (pre.map (fun r=>r.1.2)=rs.reverse):=by
    unfold Hid
    rw[me,List.take_of_length_le (by rw[List.length_reverse];omega)]
   clear me
   gi_wp2
   go_end0
   exact⟨⟨_,rfl⟩,.inl ⟨pre,HF.out,CX⟩⟩
  |succ j=>
   have bZ:j<rs.length:=by omega
   have XO:(j:Int)<(rs.length:Int):=by omega
   have mz:=hc j bZ
   have x0:=(hK.1.cell (p:=⟨b,off+j*4+0,none⟩) hb).trans (mz 0 (by omega))
   have x1:=(hK.1.cell (p:=⟨b,off+j*4+1,none⟩) hb).trans (mz 1 (by omega))
   have x2:=(hK.1.cell (p:=⟨b,off+j*4+2,none⟩) hb).trans (mz 2 (by omega))
   have x3:=(hK.1.cell (p:=⟨b,off+j*4+3,none⟩) hb).trans (mz 3 (by omega))
   have xs:=(World.cell?_of_block (a:=⟨Bs,0,none⟩) hK.2).trans hBs
   obtain⟨fn,tmps,assign,body,hy,hR⟩:=hY pre ⟨(j,rs[j]),hQ j bZ⟩ wr CX (by omega)
   simp only[pz.vals]at hy
   have HN:Hid ((pre++[(⟨(j,rs[j]),hQ j bZ⟩:pz Q)]).map (fun r=>r.1.2)=rs.reverse.take (pre++[(⟨(j,rs[j]),hQ j bZ⟩:pz Q)]).length):=by
    unfold Hid
    rw[List.map_append,me,List.length_append,List.length_singleton,List.take_succ_eq_append_getElem (by rw[List.length_reverse];omega),List.getElem_reverse]
    simp only[List.map_cons,List.map_nil]
    congr 3
    omega
   clear mz me
   simp only[Pl.cells,List.getElem?_cons_zero,List.getElem?_cons_succ,Nat.add_zero]at x0 x1 x2 x3
   rw[show(((j+1:Nat):Int)-1)=j by omega]
   gi_wp2
   refine hR.mono ?_
   rintro e W3 (⟨rfl,hJ3,tv⟩|⟨rfl,hJx3⟩)
   ·gi_wp2
    go_roundw
    case rel=>exact⟨j,_,by rw[List.length_append,List.length_singleton];omega,by go_num,HN.out,hJ3,hK.trans tv⟩
    case measure=>simp[intOf]
   ·gi_wp2
    refine bodyPost_ret (results_none rfl _ _ _) rfl ?_
    exact⟨⟨_,rfl⟩,.inr ⟨_,trivial,hJx3⟩⟩
theorem KW(n:Nat)(a:Option Addr)(len cap:Nat)(w:World):
  CallsIn Fence.wide n Tryz.prog 197 #[.slice a len cap] w fun e w'=>e= .returned (.func (.func 240) #[] #[.pointer (some ⟨w.heap.size,0,none⟩)])∧w'=w.alloc (.cells #[.slice a len cap] 25):=by
 refine callsIn_of_wp Tryz.func197 rfl trivial ?_ rfl
 simp only[Tryz.ntmps197,List.size_toArray,List.length_cons,List.length_nil,Nat.reduceAdd,Nat.reduceSub,Array.replicate_succ,Array.replicate_zero,List.push_toArray,List.append_toArray,List.nil_append,List.cons_append]
 gi_wp2
 go_ret
 exact⟨rfl,rfl⟩
end
section
open Go.RowKit Go.Shelf
attribute [local go_sem] Oper.semAt_some
set_option maxRecDepth 100000 in
theorem Qt(n:Nat)(l Bs:Nat)(a:Option Addr)(cap:Nat)(W:World)(hBs:W.cell? ⟨Bs,0,none⟩=some (.slice a 0 cap)):
  CallsIn Fence.wide n Tryz.prog 240 #[.func (.yield l) #[] #[],.pointer (some ⟨Bs,0,none⟩)] W fun e W'=>(∃v,e= .returned v)∧W'=W:=by
 refine callsIn_of_wp Tryz.func240 rfl trivial ?_ rfl
 simp only[Tryz.ntmps240,List.size_toArray,List.length_cons,List.length_nil,Nat.reduceAdd,Nat.reduceSub,Array.replicate_succ,Array.replicate_zero,List.push_toArray,List.append_toArray,List.nil_append,List.cons_append]
 gi_wp2
 gi_loopw [3] (fun i wr=>i= .int .i64 (-1)∧wr=W) (fun _ _=>0)
 case atStart=>exact⟨rfl,rfl⟩
 case round=>
  obtain⟨rfl,rfl⟩:=hrel
  gi_wp2
  go_end0
  exact⟨⟨_,rfl⟩,rfl⟩
theorem Ti(n:Nat)(hn:1≤n)(Bs n₀:Nat)(a:Option Addr)(cap:Nat)(rs:List Pl)(Q:Pl→Prop)(hQ: ∀k (hk:k<rs.length),Q rs[k])(hlen:rs.length≤9223372036854775807)(w:World)(hBs:Bs<w.heap.size)(hn₀:n₀≤w.heap.size)
  (xf:w.cell? ⟨Bs,0,none⟩=some (.slice a rs.length cap))
  (cJ:rs.length=0∨∃b off,a=some ⟨b,off,none⟩∧b<n₀∧∀k (hk:k<rs.length) j,j<4→w.cell? ⟨b,off+k*4+j,none⟩=(rs[k].cells)[j]?):
  SeqStopsK Fence.wide n Tryz.prog 240 #[.pointer (some ⟨Bs,0,none⟩)] (pz.vals (Q:=Q)) (qc n₀ Bs) (fun ys=>ys.map (fun r=>r.1.2)=rs.reverse) (fun _=>True) rs.length w:=fun l J Jx W hW _ _ hY h0=>by
 have Vd:=(hW.cell (p:=⟨Bs,0,none⟩) hBs).trans xf
 rcases cJ with hz|⟨b,off,rfl,hb,hc⟩
 ·rw[hz]at Vd
  refine(Qt n l Bs a cap W Vd).mono ?_
  rintro e W' ⟨he,rfl⟩
  refine⟨he,.inl ⟨[],?_,h0⟩⟩
  rw[List.eq_nil_of_length_eq_zero hz]
  rfl
 ·exact Me n hn l Bs n₀ b off cap rs Q hQ hlen hb J Jx hY W Vd (fun k hk j hj=>((hW.mono hn₀).cell (p:=⟨b,off+k*4+j,none⟩) hb).trans (hc k hk j hj)) h0
def rj(on:Ob→List Int)(S:List Int)(x:Ob):List Int:=if x.id∈S then on x++S else S
structure FW(w:World)(fv:Value)(S:List Int)(W:World):Prop where
 bx:W.heap[w.heap.size]? =some (.cells #[fv] 190)
 rz:W.heap[w.heap.size+1]? =some (.cells (yb []) 188)
 mm:W.heap[w.heap.size+1+1]? =some (.cells (yb S) 188)
 bl:Below w.heap.size w W
theorem FW.start(w:World)(fv:Value):FW w fv [] (((w.alloc (.cells #[fv] 190)).alloc (.cells Tryz.zeroCells188 188)).alloc (.cells Tryz.zeroCells188 188)):=by
 have e1:=heap_alloc_new w (.cells #[fv] 190)
 have e2:=heap_alloc_new (w.alloc (.cells #[fv] 190)) (.cells Tryz.zeroCells188 188)
 have e3:=heap_alloc_new ((w.alloc (.cells #[fv] 190)).alloc (.cells Tryz.zeroCells188 188)) (.cells Tryz.zeroCells188 188)
 have b1:=zB w (.cells #[fv] 190)
 have b2:=zB (w.alloc (.cells #[fv] 190)) (.cells Tryz.zeroCells188 188)
 have b3:=zB ((w.alloc (.cells #[fv] 190)).alloc (.cells Tryz.zeroCells188 188)) (.cells Tryz.zeroCells188 188)
 simp only[World.size_alloc]at e2 e3 b2 b3
 rw[ZD]at e2 e3
 refine⟨?_,?_,e3,(b1.trans (b2.mono (by omega))).trans (b3.mono (by omega))⟩
 ·exact(b3.block _ (by omega)).trans ((b2.block _ (by omega)).trans e1)
 ·exact(b3.block _ (by omega)).trans e2
theorem FW.cell{w:World}{fv:Value}{S:List Int}{W:World}(h:FW w fv S W)(i:Nat)(hi:i<100):W.cell? ⟨w.heap.size+1+1,i,none⟩=some (.bool (decide ((i:Int)∈S))):=by
 rw[cell_of_row W _ i _ _ _ h.mm,ef S i hi]
theorem FW.thaw{w:World}{fv:Value}{S:List Int}{W:World}(h:FW w fv S W)(i:Nat):W.frozen? ⟨w.heap.size+1+1,i,none⟩=false:=by
 simp[World.frozen?,h.mm]
theorem FW.mark{w:World}{fv:Value}{S:List Int}{W:World}(h:FW w fv S W)(i:Nat)(hi:i<100){T:List Int}(hT: ∀j,j∈T↔j=(i:Int)∨j∈S):FW w fv T (W.setCell ⟨w.heap.size+1+1,i,none⟩ (.bool true)):=by
 refine⟨(heap_setCell_other W _ _ _ (by show w.heap.size≠w.heap.size+1+1;omega)).trans h.bx,(heap_setCell_other W _ _ _ (by show w.heap.size+1≠w.heap.size+1+1;omega)).trans h.rz,?_,h.bl.setCell (p:=⟨w.heap.size+1+1,i,none⟩) (by show w.heap.size≤w.heap.size+1+1;omega) _⟩
 rw[heap_setCell_same W _ i _ 188 (.bool true) h.mm,UP S i hi,Z7 (T:=T)]
 intro j
 rw[hT,List.mem_cons]
theorem FW.below{w:World}{fv:Value}{S:List Int}{W W':World}(h:FW w fv S W)(hb:Below W.heap.size W W'):FW w fv S W':=by
 have hs:w.heap.size+1+1<W.heap.size:=zG h.mm
 exact⟨(hb.block _ (by omega)).trans h.bx,(hb.block _ (by omega)).trans h.rz,(hb.block _ (by omega)).trans h.mm,h.bl.trans (hb.mono h.bl.size)⟩
theorem FW.own{w:World}{fv:Value}{S:List Int}{W W':World}{row:Option Nat}(h:FW w fv S W)(hg:W.grownBy W' row){B:Nat}(hB:w.heap.size≤B)(hr: ∀r,row=some r→B≤r∧∃o:Obj,W.heap[r]? =some o∧o.isCells=false):FW w fv S W':=by
 have key: ∀(k:Nat) (cs:Array Value) (t:TypeId),W.heap[k]? =some (Obj.cells cs t)→W'.heap[k]? =some (Obj.cells cs t):=fun k cs t hk=>by
  refine(hg.block k (zG hk) (fun e=>?_)).trans hk
  obtain⟨_,o,ho,hc⟩:=hr k e.symm
  rw[hk]at ho
  cases ho
  cases hc
 exact⟨key _ _ _ h.bx,key _ _ _ h.rz,key _ _ _ h.mm,h.bl.grown hg h.bl.size (fun k e=>Nat.le_trans hB (hr k e).1)⟩
end
section
open Go.RowKit Go.Shelf
attribute [local go_sem] Oper.semAt_some
def rq{Q:Pl→Prop}(on:Ob→List Int)(ids:List Int)(pre:List (pz Q)):List Int:=pre.foldl (fun S r=>rj on S r.1.2.x) ids
theorem Um{Q:Pl→Prop}(on:Ob→List Int)(ids:List Int)(pre:List (pz Q))(x:pz Q):rq on ids (pre++[x])=rj on (rq on ids pre) x.1.2.x:=by simp[rq]
theorem Nf(S:List Int):(Tryz.prog.info? 188).map (·.size)=some (yb S).size:=by rw[sl];kernel_rfl
theorem aB{n:Nat}{o:Oper}{a:Act}{w:World}{K:Act→World→Prop}{Q:Exit→Act→World→Prop}(x:Operand)(ho:o.op= .load 188 x)
  (g:Nat) (hx:a.eval x= .pointer (some ⟨g,0,none⟩)) (S:List Int) (hg:w.heap[g]? =some (.cells (yb S) 188)) (h:K (a.put o.dst (.agg (yb S))) w):o.wpIn Fence.wide n Tryz.prog a w K Q:=by
 refine⟨fun _ _=>trivial,?_⟩
 have:(o.semAt Fence.wide.round a.eval).run Tryz.prog w= .ok (.value (.agg (yb S))) w:=by
  show(execOp a.eval o).run Tryz.prog w=_
  unfold execOp
  simp only[ho,hx,Instr.loadAt,Instr.sureAddr,Sem.run_bind,Sem.run_pure,Result.andThen_ok,run_loadVar_row w g 188 188 (yb S) (0,0) _ hg Tryz.underlying188 rfl (Nf S)]
 rw[this]
 exact h
theorem nU(w:World)(g:Nat)(S T:List Int)(hg:w.heap[g]? =some (.cells (yb T) 188)):
  (storeCells ⟨g,0,none⟩ (yb S).toList).run Tryz.prog w= .ok () (w.setRow g (yb S)):=by
 have:=run_storeCells_from (P:=Tryz.prog) g 188 (yb S).toList 0 (yb T) w hg (by rw[Nat.zero_add,Array.length_toList,sl,sl]) (fun v hv=>(Array.all_eq_true_iff_forall_mem.1 (UJ S)) v (by simpa using hv))
 simpa using this
theorem aD(tmps:Array Value)(g:Nat)(w:World)(ht:tmps[6]?.getD undef= .pointer (some ⟨g,0,none⟩))(S:List Int)(hg:w.heap[g]? =some (.cells (yb S) 188)):
  (results Tryz.f143 tmps).run Tryz.prog w= .ok (.agg (yb S)) w:=by
 simp[results,Tryz.results143,ht,asAddr,run_loadVar_row w g 188 188 (yb S) (0,0) _ hg Tryz.underlying188 rfl (Nf S)]
end
section
open Go.RowKit Go.Shelf
attribute [local go_sem] Oper.semAt_some
set_option maxRecDepth 100000 in
theorem bK(a:Option Addr)(c:Nat)(l:List Ob)(a2:Option Addr)(c2:Nat)(ids:List Int)(w:World)(M7:l.length≤9223372036854775807)(h2:yD w a2 ids)(Vc:ids.length≤9223372036854775807)
  (hids: ∀i∈ids,0≤i∧i≤99) (hl: ∀x∈l,0≤x.id∧x.id≤99) (vj:Ob→Prop) (on:Ob→List Int) (hon: ∀x∈l,vj x→∀i∈on x,0≤i∧i≤99) (hg0: ∀x∈l,x.id∈ids→vj x) (YH: ∀x∈l,vj x→∀y∈l,y.id∈on x→vj y)
  (rs:List Pl) (tM:rs.map Pl.x=l) (cJ:rs.length=0∨∃b off,a=some ⟨b,off,none⟩∧b<w.heap.size∧∀k (hk:k<rs.length) j,j<4→w.cell? ⟨b,off+k*4+j,none⟩=(rs[k].cells)[j]?)
  (hfun: ∀r∈rs,vj r.x→∀W,Below w.heap.size w W→Calls Tryz.prog 144 #[r.x.val r.sa r.sc] W fun e W'=>∃a' c',e= .returned (.slice a' (on r.x).length c')∧yD w a' (on r.x)∧(on r.x).length≤9223372036854775807∧Below W.heap.size W W'):
  Calls Tryz.prog 143 #[.slice a l.length c,.func (.func 144) #[] #[],.slice a2 ids.length c2] w fun e w'=>e= .returned (.agg (yb (l.foldr (fun x S=>rj on S x) ids)))∧Below w.heap.size w w':=by
 refine(callsIn_wide (n:=6)).1 ?_
 refine callsIn_of_wp_marks Tryz.func143 rfl trivial ?_ rfl
 simp only[Tryz.ntmps143,List.size_toArray,List.length_cons,List.length_nil,Nat.reduceAdd,Nat.reduceSub,Array.replicate_succ,Array.replicate_zero,List.push_toArray,List.append_toArray,List.nil_append,List.cons_append]
 have FW0:=FW.start w (.func (.func 144) #[] #[])
 have Xm:(((w.alloc (.cells #[.func (.func 144) #[] #[]] 190)).alloc (.cells Tryz.zeroCells188 188)).alloc (.cells Tryz.zeroCells188 188)).heap.size=w.heap.size+3:=by simp
 gi_wp2
 gi_loopw [16] (fun i wr=>∃k:Nat,i= .int .i64 k∧k≤ids.length∧FW w (.func (.func 144) #[] #[]) (ids.take k) wr∧wr.heap.size=w.heap.size+3) (fun i _=>ids.length-(intOf i).toNat)
 case atStart=>exact⟨0,rfl,Nat.zero_le _,by rw[List.take_zero];exact FW0,Xm⟩
 case round=>
  clear FW0 Xm
  obtain⟨k,rfl,hk,hF,gB⟩:=hrel
  by_cases zN:k<ids.length
  ·obtain⟨b,off,rfl,hb,hc⟩:=h2 k zN
   have x0:=(hF.bl.cell (p:=⟨b,off+k,none⟩) hb).trans (hc k zN)
   obtain⟨i,hi,QZ⟩: ∃i:Nat,ids[k]=(i:Int)∧i<100:=by
    have:=hids _ (List.getElem_mem zN)
    exact⟨ids[k].toNat,by omega,by omega⟩
   rw[show ids.getD k 0=(i:Int) by rw[←hi];simp[zN]]at x0
   have HM:Hid (FW w (.func (.func 144) #[] #[]) (ids.take (k+1)) (wr.setCell ⟨w.heap.size+1+1,i,none⟩ (.bool true))):=hF.mark i QZ (fun j=>by
    rw[List.take_succ_eq_append_getElem zN,hi]
    simp only[List.mem_append,List.mem_singleton]
    exact Or.comm)
   have y0:=hF.cell i QZ
   have y1:=hF.thaw i
   have GS:(i:Int)<100:=by omega
   clear hc hi hF
   gi_wp2
   go_roundw
   case rel=>exact⟨k+1,by go_num,by omega,HM.out,by rw[←gB];exact World.size_setCell _ _ _⟩
   case measure=>simp[intOf];omega
  ·obtain rfl:k=ids.length:=by omega
   rw[List.take_length]at hF
   gi_wp2
   refine⟨trivial,(KW 5 _ _ _ _).mono ?_⟩
   rintro e w' ⟨rfl,rfl⟩
   have hF1:=hF.below (zB wr (.cells #[.slice a l.length c] 25))
   have RJ:(wr.alloc (.cells #[.slice a l.length c] 25)).heap.size=w.heap.size+4:=by rw[World.size_alloc,gB]
   have bv:=heap_alloc_new wr (.cells #[.slice a l.length c] 25)
   rw[gB]at bv
   rw[gB]
   clear hF gB
   generalize wr.alloc (.cells #[.slice a l.length c] 25)=W0 at *
   gi_wp2
   have aP:rs.length=l.length:=by rw[←tM,List.length_map]
   have xf:W0.cell? ⟨w.heap.size+3,0,none⟩=some (.slice a rs.length c):=by rw[cell_of_row W0 _ 0 _ _ _ bv,aP];rfl
   have Mq:rs.length=0∨∃b off,a=some ⟨b,off,none⟩∧b<w.heap.size∧∀k (hk:k<rs.length) j,j<4→W0.cell? ⟨b,off+k*4+j,none⟩=(rs[k].cells)[j]?:=by
    rcases cJ with e|⟨b,off,e,hb,hc⟩
    ·exact .inl e
    ·exact .inr ⟨b,off,e,hb,fun k hk j hj=>(hF1.bl.cell (p:=⟨b,off+k*4+j,none⟩) hb).trans (hc k hk j hj)⟩
   refine wpIn_rangeFunc_ownH (F:=Fence.wide) rfl (by omega) (gf:=240) (lb:=#[.pointer (some ⟨w.heap.size+3,0,none⟩)]) rfl trivial (enters_of Tryz.func240 (by kernel_rfl) rfl)
    (Ti 5 (by omega) (w.heap.size+3) w.heap.size a c rs (·∈rs) (fun k hk=>List.getElem_mem hk) (by omega) W0 (by omega) (by omega) xf Mq) qc.trans (qc.book (by omega) (by omega)) (Below.refl _ _) (fun _=>rfl)
    (fun pre W=>FW w (.func (.func 144) #[] #[]) (rq on ids pre) W∧w.heap.size+4≤W.heap.size∧∀x∈l,x.id∈rq on ids pre→vj x)
    (fun _ _ _=>False)
    (fun pre W W' row hs hg hr=>⟨hs.1.own hg (by omega) hr,Nat.le_trans hs.2.1 hg.size,hs.2.2⟩)
    (fun _ _ _ _ _ hs _ _=>hs)
    ⟨hF1,by omega,fun x hx hi=>hg0 x hx hi⟩
    (fun x a' W=>∃Bx,w.heap.size+3<Bx∧W.heap[Bx]? =some (.cells #[.int .i64 x.1.2.x.id,.int .i64 x.1.2.x.kind,.slice x.1.2.sa x.1.2.x.links.length x.1.2.sc,.string x.1.2.x.text] 58)∧a'={tmps:=#[.slice a l.length c,.func (.func 144) #[] #[],.slice a2 ids.length c2,undef,
     .pointer (some ⟨w.heap.size,0,none⟩),undef,.pointer (some ⟨w.heap.size+1,0,none⟩),.pointer (some ⟨w.heap.size+1+1,0,none⟩),undef,u9,undef,.pointer (some ⟨Bx,0,none⟩),undef,undef,
     .slice a2 ids.length c2,.int .i64 ids.length,.int .i64 ids.length,.bool false,u18,u19,u20,u21,u22,.slice a l.length c,
     .func (.func 240) #[] #[.pointer (some ⟨w.heap.size+3,0,none⟩)],.int .i64 (x.1.1:Int),x.1.2.x.val x.1.2.sa x.1.2.sc,undef,undef,undef,undef,undef,undef,undef,undef,undef,undef,undef,undef,undef,undef,undef,undef,undef],defers:=[]})
    (fun x a' s W W' row hs hg hr=>by
     obtain⟨Bx,h1,h2,h3⟩:=hs
     refine⟨Bx,h1,(hg.block Bx (zG h2) (fun e=>?_)).trans h2,h3⟩
     obtain⟨_,o,ho,hc⟩:=hr Bx e.symm
     rw[h2]at ho
     cases ho
     cases hc) ?assign ?body ?done ?stop
   case assign=>
    rintro lp pre x W K hi hK
    simp only[pz.vals]
    gi_wp2
    have hA:=zB W (.cells #[.int .i64 x.1.2.x.id,.int .i64 x.1.2.x.kind,.slice x.1.2.sa x.1.2.x.links.length x.1.2.sc,.string x.1.2.x.text] 58)
    exact hK _ _ ((KeepsOthers.alloc _ _).from _) ⟨hA.mono (by omega),hA.block _ (by omega)⟩ ⟨hi.1.below hA,Nat.le_trans hi.2.1 hA.size,hi.2.2⟩ ⟨W.heap.size,by omega,heap_alloc_new W _,rfl⟩
   case body=>
    rintro lp pre ⟨⟨ix,r⟩,hr⟩ a' W Gg ⟨rr,hrr⟩ ⟨Xy,J7,cG⟩ ⟨Bx,hBx,bX,rfl⟩ sZ
    simp only at hr bX⊢
    have hrx:r.x∈l:=by rw[←tM];exact List.mem_map.2 ⟨r,hr,rfl⟩
    obtain⟨i,hi,QZ⟩: ∃i:Nat,r.x.id=(i:Int)∧i<100:=by
     have:=hl _ hrx
     exact⟨r.x.id.toNat,by omega,by omega⟩
    have HI:Hid (r.x.id=(i:Int)):=hi
    have GS:(i:Int)<100:=by omega
    have x0:W.cell? ⟨Bx,0,none⟩=some (.int .i64 (i:Int)):=by rw[cell_of_row W _ _ _ _ _ bX,hi];rfl
    have x1:W.cell? ⟨Bx,1,none⟩=some (.int .i64 r.x.kind):=by rw[cell_of_row W _ _ _ _ _ bX];rfl
    have x2:W.cell? ⟨Bx,2,none⟩=some (.slice r.sa r.x.links.length r.sc):=by rw[cell_of_row W _ _ _ _ _ bX];rfl
    have x3:W.cell? ⟨Bx,3,none⟩=some (.string r.x.text):=by rw[cell_of_row W _ _ _ _ _ bX];rfl
    have y0:=Xy.cell i QZ
    have z0:W.cell? ⟨w.heap.size,0,none⟩=some (.func (.func 144) #[] #[]):=by rw[cell_of_row W _ _ _ _ _ Xy.bx];rfl
    have HC:Hid (rq on ids (pre++[(⟨(ix,r),hr⟩:pz (·∈rs))])=rj on (rq on ids pre) r.x):=Um _ _ _ _
    obtain⟨S,hS⟩: ∃S,S=rq on ids pre:=⟨_,rfl⟩
    rw[←hS]at Xy cG y0 HC
    clear hS bX hi
    by_cases hm:(i:Int)∈S
    ·have hgx:vj r.x:=cG r.x hrx (by rw[HI.out];exact hm)
     have HS:Hid (rj on S r.x=on r.x++S):=by unfold Hid rj;rw[if_pos (by rw[HI.out];exact hm)]
     rw[show decide ((i:Int)∈S)=true by simpa using hm]at y0
     clear hm
     have bc:=hfun r hr hgx W Xy.bl
     simp only[Ob.val,HI.out]at bc
     have mo:=hon r.x hrx hgx
     have HGN:Hid (∀y∈l,y.id∈on r.x++S→vj y):=fun y hy hyS=>(List.mem_append.1 hyS).elim (fun q=>YH r.x hrx hgx y hy q) (fun q=>cG y hy q)
     obtain⟨L,hLe⟩: ∃L,L=on r.x:=⟨_,rfl⟩
     rw[←hLe]at bc mo HS HGN
     clear hLe hgx cG
     gi_wp2
     refine⟨trivial,(CallsIn.inRound lp (callsIn_wide.2 bc)).mono ?_⟩
     clear bc
     rintro e W1 ⟨a3,c3,rfl,hH,hLl,zM⟩
     have Bz:=Xy.below zM
     have AG:KeepsOthers W W1:=⟨zM.size,fun k o hk _=>(zM.block k (zG hk)).trans hk⟩
     have DH:qc w.heap.size (w.heap.size+3) W W1:=⟨zM.mono (by omega),zM.block _ (by omega)⟩
     have AM:=Nat.le_trans J7 zM.size
     clear zM Xy x0 x1 x2 x3 y0 z0 J7
     gi_wp2
     gi_loopw [36] (fun i wr=>∃k:Nat,i= .int .i64 k∧k≤L.length∧FW w (.func (.func 144) #[] #[]) (L.take k++S) wr∧qc w.heap.size (w.heap.size+3) W wr∧KeepsOthers W wr∧w.heap.size+4≤wr.heap.size) (fun i _=>L.length-(intOf i).toNat)
     case atStart=>exact⟨0,rfl,Nat.zero_le _,by rw[List.take_zero];exact Bz,DH,AG,AM⟩
     case round=>
      clear Bz DH AG AM
      obtain⟨k,rfl,hk,hF,DH,hKO,J7⟩:=hrel
      by_cases zN:k<L.length
      ·obtain⟨b,off,rfl,hb,hc⟩:=hH k zN
       have x0:=(hF.bl.cell (p:=⟨b,off+k,none⟩) hb).trans (hc k zN)
       obtain⟨y,hy,Cj⟩: ∃y:Nat,L[k]=(y:Int)∧y<100:=by
        have:=mo _ (List.getElem_mem zN)
        exact⟨L[k].toNat,by omega,by omega⟩
       rw[show L.getD k 0=(y:Int) by rw[←hy];simp[zN]]at x0
       have HM:Hid (FW w (.func (.func 144) #[] #[]) (L.take (k+1)++S) (wr.setCell ⟨w.heap.size+1+1,y,none⟩ (.bool true))):=hF.mark y Cj (fun j=>by
        rw[List.take_succ_eq_append_getElem zN,hy]
        simp only[List.mem_append,List.mem_singleton,or_assoc]
        exact or_left_comm)
       have y0:=hF.cell y Cj
       have y1:=hF.thaw y
       have zO0:(y:Int)<100:=by omega
       have HB:Hid (qc w.heap.size (w.heap.size+3) W (wr.setCell ⟨w.heap.size+1+1,y,none⟩ (.bool true))):=
        ⟨DH.1.setCell (p:=⟨w.heap.size+1+1,y,none⟩) (by show w.heap.size≤w.heap.size+1+1;omega) _,(heap_setCell_other wr _ _ _ (by show w.heap.size+3≠w.heap.size+1+1;omega)).trans DH.2⟩
       clear hc hy hF DH
       gi_wp2
       go_roundw
       case rel=>exact⟨k+1,by go_num,by omega,HM.out,HB.out,hKO.trans (KeepsOthers.setCell _ _ _),by rw[World.size_setCell];exact J7⟩
       case measure=>simp[intOf];omega
      ·obtain rfl:k=L.length:=by omega
       rw[List.take_length]at hF
       gi_wp2
       refine⟨hKO.from _,DH,?_⟩
       show FW w _ (rq on ids (pre++[(⟨(ix,r),hr⟩:pz (·∈rs))])) _∧_∧_
       rw[HC.out,HS.out]
       exact⟨hF,J7,HGN.out⟩
    ·have HS:Hid (rj on S r.x=S):=by unfold Hid rj;rw[if_neg (by rw[HI.out];exact hm)]
     rw[show decide ((i:Int)∈S)=false by simpa using hm]at y0
     clear hm
     gi_wp2
     refine⟨KeepsFrom.refl _ _,⟨Below.refl _ _,rfl⟩,?_⟩
     show FW w _ (rq on ids (pre++[(⟨(ix,r),hr⟩:pz (·∈rs))])) _∧_∧_
     rw[HC.out,HS.out]
     exact⟨Xy,J7,cG⟩
   case done=>
    rintro D ys W hD hS ⟨Xy,J7,-⟩ hK
    clear cJ Mq xf hF1 bv hfun
    have Jy:rq on ids ys=l.foldr (fun x S=>rj on S x) ids:=by
     have e:rq on ids ys=(ys.map (fun r=>r.1.2)).foldl (fun S r=>rj on S r.x) ids:=by unfold rq;rw[List.foldl_map]
     rw[e,hS,List.foldl_reverse,←tM,List.foldr_map]
    have HFO:Hid (rq on ids ys=l.foldr (fun x S=>rj on S x) ids):=Jy
    obtain⟨S,hSe⟩: ∃S,S=rq on ids ys:=⟨_,rfl⟩
    rw[←hSe]at Xy HFO
    clear hSe hS Jy
    gi_wp2
    refine aB (.tmp 7) rfl (w.heap.size+1+1) rfl S Xy.mm ?_
    simp only[Act.put,List.setIfInBounds_toArray,List.set_cons_zero,List.set_cons_succ]
    have hsc:(storeCells ⟨w.heap.size+1,0,none⟩ (yb S).toList).run Tryz.prog W= .ok () (W.setRow (w.heap.size+1) (yb S)):=nU W _ S [] Xy.rz
    have hms:=sl S
    have bg:=setRow_heap W (w.heap.size+1) _ (yb S) _ _ Xy.rz
    have AG:=(setRow_other W (w.heap.size+1) D (yb S) (by omega)).trans hK
    have zM:Below w.heap.size w (W.setRow (w.heap.size+1) (yb S)):=⟨Xy.bl.os,Xy.bl.tape,Xy.bl.output,by rw[size_setRow];exact Xy.bl.size,fun k hk=>(setRow_other W _ k _ (by omega)).trans (Xy.bl.block k hk)⟩
    gi_wp2
    refine⟨by simp,.inl ⟨_,_,rfl,run_takeDeferred AG,?_⟩⟩
    have hD2:w.heap.size+4≤D:=by omega
    have hDl:D<(W.setRow (w.heap.size+1) (yb S)).heap.size:=zG AG
    have Nw:=grownBy_putObj' (W.setRow (w.heap.size+1) (yb S)) D (.deferred none)
    refine⟨_,aD _ (w.heap.size+1) _ rfl S ((Nw.block _ (by omega) (fun e=>by cases e;omega)).trans bg),?_⟩
    refine⟨by rw[HFO.out],zM.grown Nw zM.size (fun k e=>by cases e;omega)⟩
   case stop=>
    rintro D c pre W _ _ h _
    exact h.elim
end
theorem di{w:World}{a:Option Addr}{l:List Ob}(h:zP w a l)(n:Nat):zP w a (l.take n):=by
 intro i hi
 rw[List.length_take]at hi
 obtain⟨b,off,e,hb,hc⟩:=h i (by omega)
 refine⟨b,off,e,hb,fun j hj=>?_⟩
 rw[List.length_take]at hj
 rw[List.getElem_take]
 exact hc j (by omega)
theorem C4.new(w:World)(x:Ob)(sa:Option Addr)(sc:Nat)(h:yD w sa x.links):C4 w.heap.size 0 x sa sc (w.alloc (.cells #[.int .i64 x.id,.int .i64 x.kind,.slice sa x.links.length sc,.string x.text] 58)):=by
 have C:=xH.new w (.int .i64 x.id) (.int .i64 x.kind) (.slice sa x.links.length sc) (.string x.text) 58
 exact⟨C.lt,C.c0,C.c1,C.c2,C.c3,h.below (zB _ _)⟩
def rJ(on:Ob→List Int)(l:List Ob)(ids:List Int):List Int:=l.foldr (fun x S=>rj on S x) ids
theorem ZJ{on:Ob→List Int}{S:List Int}{x:Ob}{i:Int}:i∈rj on S x↔i∈S∨(x.id∈S∧i∈on x):=by
 unfold rj
 split
 ·rename_i h
  rw[List.mem_append]
  constructor
  ·rintro(q|q)
   ·exact .inr ⟨h,q⟩
   ·exact .inl q
  ·rintro(q|q)
   ·exact .inr q
   ·exact .inl q.2
 ·rename_i h
  constructor
  ·exact .inl
  ·rintro(q|q)
   ·exact q
   ·exact absurd q.1 h
theorem Yl{on:Ob→List Int}{x:Ob}{l:List Ob}{ids:List Int}{i:Int}:i∈rJ on (x::l) ids↔i∈rJ on l ids∨(x.id∈rJ on l ids∧i∈on x):=ZJ
theorem Xx{on:Ob→List Int}{l:List Ob}{ids:List Int}{i:Int}(h:i∈ids):i∈rJ on l ids:=by
 induction l with
 |nil=>exact h
 |cons x l ih=>exact Yl.2 (.inl ih)
theorem dv{l:List Ob}(h:zK l=0): ∀x∈l,1≤x.id∧x.id≤99:=fun x hx=>(xg ((zh.1 h).2.1 x hx).1).1
theorem mA{l:List Ob}(h:zK l=0): ∀x∈l,∀y∈x.links,1≤y∧y<x.id:=fun x hx=>rm _ 0 0 (xg ((zh.1 h).2.1 x hx).1).2.2.2.2.1
theorem dk{l:List Ob}(h:zK l=0): ∀x∈l,x.links.length≤4:=fun x hx=>(xg ((zh.1 h).2.1 x hx).1).2.2.1
theorem TM{l:List Ob}(h:zK l=0): ∀x∈l,x.kind=3→1≤x.links.length:=fun x hx hk=>by
 have:=(xg ((zh.1 h).2.1 x hx).1).2.2.2.2.2
 rcases Nat.eq_zero_or_pos x.links.length with c|c
 ·exact absurd (.inr ⟨hk,c⟩) this
 ·exact c
theorem yy{l:List Ob}{i:Int}:0≤zW l i↔∃x∈l,x.id=i:=by
 constructor
 ·intro h
  rcases xG l i with c|⟨k,c,hk⟩
  ·omega
  ·obtain⟨jB,e⟩:=tH c
   exact⟨_,List.getElem_mem jB,e⟩
 ·rintro⟨x,hx,rfl⟩
  rcases xG l x.id with c|⟨k,c,hk⟩
  ·unfold zW at c
   split at c
   ·omega
   ·rename_i q
    rw[List.findIdx?_eq_none_iff]at q
    have:=q x hx
    simp at this
  ·omega
theorem XQ{l:List Ob}(h:zK l=0): ∀x∈l,∀y∈x.links,∃z∈l,z.id=y:=fun x hx y hy=>by
 obtain⟨j,hj,rfl⟩:=List.getElem_of_mem hy
 exact yy.1 ((mU _ 0).1 ((zh.1 h).2.1 x hx).2 j hj).1
theorem aI{l:List Ob}(h:zK l=0): ∀x∈l,x.kind=3→∀y∈l,y.id∈x.links.tail→y.kind=3:=fun x hx hk y hy hyt=>by
 obtain⟨j,hj,e⟩:=List.getElem_of_mem hyt
 rw[List.length_tail]at hj
 rw[List.getElem_tail]at e
 obtain⟨_,q⟩:=(mU _ 0).1 ((zh.1 h).2.1 x hx).2 (j+1) (by omega)
 rw[e,hk]at q
 obtain⟨k,xl,rfl⟩:=List.getElem_of_mem hy
 rw[gq (tS (zh.1 h).2.2 xl) xl]at q
 have hj1: ¬((j:Int)+1=0):=by omega
 simp only[gn]at q
 simpa[hj1]using q
abbrev vz(l:List Ob)(ids:List Int):List Int:=rJ (fun x=>x.links.tail) l ids
theorem qE{l:List Ob}{ids:List Int}:uK l ids=0↔∀i∈ids,∃x∈l,x.id=i:=by
 unfold uK
 split
 ·rename_i h
  rw[List.all_eq_true]at h
  refine⟨fun _ i hi=>yy.1 (by simpa using h i hi),fun _=>rfl⟩
 ·rename_i h
  refine⟨fun q=>by omega,fun q=>absurd (List.all_eq_true.2 fun i hi=>?_) h⟩
  simpa using yy.2 (q i hi)
theorem JA{w:World}{a:Option Addr}{l:List Ob}(h:zP w a l): ∃rs:List Pl,rs.map Pl.x=l∧
  (rs.length=0∨∃b off,a=some ⟨b,off,none⟩∧b<w.heap.size∧∀k (hk:k<rs.length) j,j<4→w.cell? ⟨b,off+k*4+j,none⟩=(rs[k].cells)[j]?)∧∀r∈rs,yD w r.sa r.x.links:=by
 rcases Nat.eq_zero_or_pos l.length with h0|h0
 ·exact⟨[],by rw[List.eq_nil_of_length_eq_zero h0];rfl,.inl rfl,fun r hr=>by cases hr⟩
 ·obtain⟨b,off,rs,rfl,hb,e1,e2,e3⟩:=RE h h0
  refine⟨rs,e1,.inr ⟨b,off,rfl,hb,fun k hk j hj=>?_⟩,e3⟩
  have hg:=ro rs k j hk hj
  have hj4:j<rs[k].cells.length:=by simpa[Pl.cells]using hj
  rw[List.getElem?_eq_getElem hj4]at hg⊢
  have:=e2 _ _ hg
  rw[show((⟨b,off,none⟩:Addr).add (k*4+j))=⟨b,off+k*4+j,none⟩ by unfold Addr.add;split<;>simp_all<;>omega]at this
  exact this
def Gu(w0:World)(base:Nat)(m:List Ob)(v:Value)(wr:World):Prop:=
 ∃rs:List Pl,rs.map Pl.x=m∧wr.ownsRow base 58 4 v rs.length (xE rs)∧∀r∈rs,yD w0 r.sa r.x.links∧r.x.links.length≤1000
theorem Gu.below{w0:World}{base:Nat}{m:List Ob}{v:Value}{wr wr':World}(h:Gu w0 base m v wr)(hb:Below wr.heap.size wr wr'):Gu w0 base m v wr':=by
 obtain⟨rs,q1,q2,q3⟩:=h
 exact⟨rs,q1,rM q2 (fun g hg=>hb.block g (q2.lt g hg).2),q3⟩
theorem Gu.mono{w0:World}{base base':Nat}{m:List Ob}{v:Value}{wr:World}(h:Gu w0 base m v wr)(hb:base'≤base):Gu w0 base' m v wr:=by
 obtain⟨rs,q1,⟨q2,q4⟩,q3⟩:=h
 refine⟨rs,q1,⟨q2,?_⟩,q3⟩
 rcases q4 with q|⟨g,cap,cur,e1,e2,e3⟩
 ·exact .inl q
 ·exact .inr ⟨g,cap,cur,e1,Nat.le_trans hb e2,e3⟩
theorem Gu.block{w0:World}{base:Nat}{m:List Ob}{v:Value}{wr:World}(h:Gu w0 base m v wr)(g:Nat)(hg:v.ownBlock=some g):base≤g:=by
 obtain⟨rs,_,q2,_⟩:=h
 exact(q2.lt g hg).1
theorem UK{w:World}{sa:Option Addr}{L:List Int}{sc:Nat}(h:yD w sa L)(hs:L.length≤sc):yD w (if sc=1 then sa else sa.map (fun y=>y.add 1)) L.tail:=by
 intro i hi
 rw[List.length_tail]at hi
 obtain⟨b,off,rfl,hb,hc⟩:=h (i+1) (by omega)
 rw[if_neg (by omega)]
 refine⟨b,off+1,rfl,hb,fun j hj=>?_⟩
 rw[List.length_tail]at hj
 have:=hc (j+1) (by omega)
 rw[show off+1+j=off+(j+1) by omega,this]
 simp only[List.getD_eq_getElem?_getD,List.getElem?_tail]
theorem WC(a:Option Addr)(c:Nat)(l:List Ob)(a2:Option Addr)(c2:Nat)(ids:List Int)(w:World)(h:zP w a l)(hroom:rT w a l)(nL:zK l=0)(h2:yD w a2 ids)(Vc:ids.length≤9223372036854775807)(hth:uK l ids=0)
  (Zt: ∀x∈l,x.id∈ids→x.kind=3):
  Calls Tryz.prog 143 #[.slice a l.length c,.func (.func 144) #[] #[],.slice a2 ids.length c2] w fun e w'=>e= .returned (.agg (yb (vz l ids)))∧Below w.heap.size w w':=by
 obtain⟨rs,tM,cJ,hh⟩:=JA h
 have h40:=(zh.1 nL).1
 have hid:=dv nL
 have ae:=mA nL
 have Uu: ∀r∈rs,r.x∈l:=fun r hr=>by rw[←tM];exact List.mem_map.2 ⟨r,hr,rfl⟩
 have aP:rs.length=l.length:=by rw[←tM,List.length_map]
 refine bK a c l a2 c2 ids w (by omega) h2 Vc (fun i hi=>?_) (fun x hx=>by have:=hid x hx;omega) (fun x=>x.kind=3) (fun x=>x.links.tail) (fun x hx _ i hi=>by have:=ae x hx i (List.mem_of_mem_tail hi);have:=hid x hx;omega) Zt (fun x hx hk y hy hyt=>aI nL x hx hk y hy hyt) rs tM cJ ?_
 ·obtain⟨x,hx,rfl⟩:=qE.1 hth i hi
  have:=hid x hx;omega
 ·intro r hr hk W hW
  have h4:=dk nL r.x (Uu r hr)
  have h1:=TM nL r.x (Uu r hr) hk
  have hs:r.x.links.length≤r.sc:=by
   rcases cJ with e|⟨b,off,rfl,hb,hc⟩
   ·rw[List.eq_nil_of_length_eq_zero e]at hr;cases hr
   ·obtain⟨k,xl,rfl⟩:=List.getElem_of_mem hr
    exact(hroom b off rfl k (by omega)).2 rs[k].sa _ rs[k].sc (by rw[hc k xl 2 (by omega)];rfl)
  refine(X2 r.x r.sa r.sc W h1 hs (by omega)).mono ?_
  rintro e W' ⟨rfl,hb⟩
  exact⟨_,_,by rw[List.length_tail],UK (hh r hr) hs,by rw[List.length_tail];omega,hb⟩
def yZ(l:List Ob)(old newer:Int):Int:=if zK l≠0 then zK l else if uK l [old,newer]≠0 then uK l [old,newer]else if l.any (uQ 3 [old,newer])then 7 else 0
def xT(l:List Ob)(old newer:Int):Bool:=decide (yZ l old newer=0)&&decide (old∈vz l [newer])
theorem ZL(w:World)(x y:Int):yD (w.alloc (.cells #[.int .i64 x,.int .i64 y] 3)) (some ⟨w.heap.size,0,none⟩) [x,y]:=by
 intro i hi
 refine⟨_,_,rfl,by simp,fun j hj=>?_⟩
 rw[World.cell?_alloc_at _ _ _ _ rfl]
 match j,hj with
 |0,_=>rfl
 |1,_=>rfl
theorem Qu(w:World)(x:Int):yD (w.alloc (.cells #[.int .i64 x] 3)) (some ⟨w.heap.size,0,none⟩) [x]:=by
 intro i hi
 refine⟨_,_,rfl,by simp,fun j hj=>?_⟩
 rw[World.cell?_alloc_at _ _ _ _ rfl]
 match j,hj with
 |0,_=>rfl
theorem cE(a:Option Addr)(c:Nat)(l:List Ob)(old newer:Int)(w:World)(h:zP w a l)(hroom:rT w a l)(hl:l.length≤9223372036854775807):
  Calls Tryz.prog 87 #[.slice a l.length c,.int .i64 old,.int .i64 newer] w fun e w'=>e= .returned (.tuple #[.bool (xT l old newer),.int .i64 (yZ l old newer)])∧Below w.heap.size w w':=by
 go_enter Tryz.func87,Tryz.ntmps87
 go_wp2_with fail
 refine(vD a c l w h hl).mono ?_
 rintro e w1 ⟨rfl,zM⟩
 by_cases k1:zK l=0
 case neg=>
  have HR:Hid (yZ l old newer=zK l∧xT l old newer=false):=by
   have:yZ l old newer=zK l:=by rw[yZ,if_pos k1]
   exact⟨this,by simp[xT,this,k1]⟩
  have hz:(zK l != 0)=true:=by simpa using k1
  clear k1
  go_wp2
  refine bodyPost_ret (v:=.tuple #[.bool false,.int .i64 (zK l)]) (by simp[results,Tryz.results87,go_sem]) rfl ?_
  exact⟨by rw[HR.out.1,HR.out.2],zM⟩
 have K1:Hid (zK l=0):=k1
 have h40:=(zh.1 k1).1
 rw[k1]
 clear k1
 have Mp:=zB w1 (.cells #[.int .i64 old,.int .i64 newer] 3)
 have XA:=ZL w1 old newer
 have zT:=bt zM Mp
 go_wp2_with fail
 refine(ft a c l (some ⟨w1.heap.size,0,none⟩) 2 [old,newer] _ (h.below zT) hl XA (by simp)).mono ?_
 rintro e w2 ⟨rfl,zZ⟩
 have zj:=bt zT zZ
 clear zM zZ Mp XA zT
 by_cases k2:uK l [old,newer]=0
 case neg=>
  have HR:Hid (yZ l old newer=uK l [old,newer]∧xT l old newer=false):=by
   have:yZ l old newer=uK l [old,newer]:=by rw[yZ,if_neg (fun e=>e K1.out),if_pos k2]
   exact⟨this,by simp[xT,this,k2]⟩
  have hz:(uK l [old,newer] != 0)=true:=by simpa using k2
  clear k2
  go_wp2
  refine bodyPost_ret (v:=.tuple #[.bool false,.int .i64 (uK l [old,newer])]) (by simp[results,Tryz.results87,go_sem]) rfl ?_
  exact⟨by rw[HR.out.1,HR.out.2],zj⟩
 have K2:Hid (uK l [old,newer]=0):=k2
 rw[k2]
 clear k2
 have tu:=zB w2 (.cells #[.int .i64 old,.int .i64 newer] 3)
 have P1:=ZL w2 old newer
 have xL:=bt zj tu
 go_wp2_with fail
 refine(YT a c l 3 (some ⟨w2.heap.size,0,none⟩) 2 [old,newer] _ (h.below xL) hl P1 (by simp)).mono ?_
 rintro e w3 ⟨rfl,yT⟩
 have xZ:=bt xL yT
 clear yT tu P1 xL zj
 by_cases k3:l.any (uQ 3 [old,newer])=true
 case pos=>
  have HR:Hid (yZ l old newer=7∧xT l old newer=false):=by
   have:yZ l old newer=7:=by rw[yZ,if_neg (fun e=>e K1.out),if_neg (fun e=>e K2.out),if_pos k3]
   exact⟨this,by simp[xT,this]⟩
  rw[k3]
  clear k3
  go_wp2
  refine bodyPost_ret (v:=.tuple #[.bool false,.int .i64 7]) (by simp[results,Tryz.results87,go_sem]) rfl ?_
  exact⟨by rw[HR.out.1,HR.out.2],xZ⟩
 have Ve:l.any (uQ 3 [old,newer])=false:=by simpa using k3
 have hth:=qE.1 K2.out
 have Zt: ∀x∈l,x.id∈[old,newer]→x.kind=3:=fun x hx hi=>by
  have:=List.any_eq_false.1 Ve x hx
  unfold uQ at this
  rcases Classical.em (x.kind=3)with q|q
  ·exact q
  ·exact absurd (by simp only[Bool.and_eq_true,decide_eq_true_eq];exact⟨by simpa using q,hi⟩) this
 have HR:Hid (yZ l old newer=0∧xT l old newer=decide (old∈vz l [newer])):=by
  have:yZ l old newer=0:=by rw[yZ,if_neg (fun e=>e K1.out),if_neg (fun e=>e K2.out),if_neg k3]
  exact⟨this,by simp[xT,this]⟩
 obtain⟨i,hi,QZ⟩: ∃i:Nat,old=(i:Int)∧i<100:=by
  obtain⟨x,hx,e⟩:=hth old (by simp)
  have:=dv K1.out x hx
  exact⟨old.toNat,by omega,by omega⟩
 rw[Ve]
 clear k3 Ve
 have JH:=zB w3 (.cells #[.int .i64 newer] 3)
 have hT5:=Qu w3 newer
 have su:=bt xZ JH
 have CS:=WC a c l (some ⟨w3.heap.size,0,none⟩) 1 [newer] _ (h.below su) (hroom.below su) K1.out hT5 (by simp) (qE.2 fun j hj=>hth j (by simp at hj;simp[hj])) (fun x hx hj=>Zt x hx (by simp at hj;simp[hj]))
 clear JH hT5 xZ Zt hth
 obtain⟨R,hR⟩: ∃R,R=vz l [newer]:=⟨_,rfl⟩
 rw[←hR]at CS HR
 clear hR
 subst hi
 go_wp2_with fail
 refine CS.mono ?_
 clear CS
 rintro e w4 ⟨rfl,qY⟩
 have nE:=bt su qY
 clear qY su
 have hms:=sl R
 have si:(w4.alloc (.cells Tryz.zeroCells188 188)).heap[w4.heap.size]? =some (.cells (yb []) 188):=by rw[←ZD];exact heap_alloc_new w4 _
 have hsc:=nU _ w4.heap.size R [] si
 have hA:=zB w4 (.cells Tryz.zeroCells188 188)
 have hmk:=setRow_heap (w4.alloc (.cells Tryz.zeroCells188 188)) w4.heap.size _ (yb R) _ _ si
 have MP:Below w.heap.size w ((w4.alloc (.cells Tryz.zeroCells188 188)).setRow w4.heap.size (yb R)):=by
  have q:=bt nE hA
  exact⟨q.os,q.tape,q.output,by rw[size_setRow];exact q.size,fun k hk=>(setRow_other _ _ k _ (by have:=nE.size;omega)).trans (q.block k hk)⟩
 have zm:((w4.alloc (.cells Tryz.zeroCells188 188)).setRow w4.heap.size (yb R)).cell? ⟨w4.heap.size,i,none⟩=some (.bool (decide ((i:Int)∈R))):=by rw[cell_of_row _ _ _ _ _ _ hmk,ef R i QZ]
 have GS:(i:Int)<100:=by omega
 clear hA si hmk
 go_wp2
 refine bodyPost_ret (v:=.tuple #[.bool (decide ((i:Int)∈R)),.int .i64 0]) (by simp[results,Tryz.results87,go_sem]) rfl ?_
 exact⟨by rw[HR.out.1,HR.out.2],MP⟩
theorem X3{w:World}{a b:Addr}{v:Value}(h:a≠b):(w.setCell a v).cell? b=w.cell? b:=by
 apply World.cell?_setCell_other
 exact h
abbrev fu(W:World)(g o:Nat)(v0 v1 v2 v3:Value):World:=(((W.setCell ⟨g,o,none⟩ v0).setCell ⟨g,o+1,none⟩ v1).setCell ⟨g,o+2,none⟩ v2).setCell ⟨g,o+3,none⟩ v3
theorem ZS(W:World)(g o k:Nat)(v0 v1 v2 v3:Value)(h:k≠g):(fu W g o v0 v1 v2 v3).heap[k]? =W.heap[k]?:=by
 unfold fu
 rw[heap_setCell_other _ _ _ _ h,heap_setCell_other _ _ _ _ h,heap_setCell_other _ _ _ _ h,heap_setCell_other _ _ _ _ h]
theorem df{W0 W:World}{n g o:Nat}{v0 v1 v2 v3:Value}(h:Below n W0 W)(hn:n≤g):Below n W0 (fu W g o v0 v1 v2 v3):=
 (((h.setCell (p:=⟨g,o,none⟩) hn _).setCell (p:=⟨g,o+1,none⟩) hn _).setCell (p:=⟨g,o+2,none⟩) hn _).setCell (p:=⟨g,o+3,none⟩) hn _
def gE(l:List Ob)(i:Int):Prop:=(∃x∈l,x.id=i)∧∀x∈l,x.id=i→x.kind=3
theorem vt{l:List Ob}{a b:Int}:yZ l a b=0↔zK l=0∧gE l a∧gE l b:=by
 unfold yZ
 by_cases h1:zK l=0
 case neg=>
  rw[if_pos h1]
  exact⟨fun e=>absurd e h1,fun e=>absurd e.1 h1⟩
 rw[if_neg (fun e=>e h1)]
 by_cases h2:uK l [a,b]=0
 case neg=>
  rw[if_pos h2]
  refine⟨fun e=>absurd e h2,fun e=>absurd (qE.2 fun i hi=>?_) h2⟩
  simp only[List.mem_cons,List.not_mem_nil,or_false]at hi
  rcases hi with rfl|rfl
  ·exact e.2.1.1
  ·exact e.2.2.1
 rw[if_neg (fun e=>e h2)]
 have ht:=qE.1 h2
 constructor
 ·intro e
  have h3:l.any (uQ 3 [a,b])=false:=by
   cases q:l.any (uQ 3 [a,b])with
   |false=>rfl
   |true=>rw[if_pos q]at e;omega
  have hk: ∀x∈l,x.id∈[a,b]→x.kind=3:=fun x hx hi=>by
   have:=List.any_eq_false.1 h3 x hx
   unfold uQ at this
   rcases Classical.em (x.kind=3)with q|q
   ·exact q
   ·exact absurd (by simp only[Bool.and_eq_true,decide_eq_true_eq];exact⟨by simpa using q,hi⟩) this
  exact⟨h1,⟨ht a (by simp),fun x hx e=>hk x hx (by simp[e])⟩,⟨ht b (by simp),fun x hx e=>hk x hx (by simp[e])⟩⟩
 ·rintro⟨_,ha,hb⟩
  rw[if_neg]
  intro q
  obtain⟨x,hx,hq⟩:=List.any_eq_true.1 q
  unfold uQ at hq
  simp only[Bool.and_eq_true,decide_eq_true_eq,bne_iff_ne,List.mem_cons,List.not_mem_nil,or_false]at hq
  rcases hq.2 with e|e
  ·exact hq.1 (ha.2 x hx e)
  ·exact hq.1 (hb.2 x hx e)
theorem WW{l:List Ob}{a b:Int}:xT l a b=true↔yZ l a b=0∧a∈vz l [b]:=by
 unfold xT
 simp
theorem gy{l:List Ob}{a b:Int}(h:yZ l a b=0):yZ l a a=0∧xT l a a=true:=by
 obtain⟨h1,h2,_⟩:=vt.1 h
 have e:yZ l a a=0:=vt.2 ⟨h1,h2,h2⟩
 exact⟨e,WW.2 ⟨e,Xx (by simp)⟩⟩
theorem rW{l:List Ob}(h:xm l){x y:Ob}(hx:x∈l)(hy:y∈l)(e:x.id=y.id):x=y:=by
 obtain⟨i,hi,rfl⟩:=List.getElem_of_mem hx
 obtain⟨j,hj,rfl⟩:=List.getElem_of_mem hy
 rcases Nat.lt_trichotomy i j with c|c|c
 ·have:=h.lt hi hj c;omega
 ·subst c;rfl
 ·have:=h.lt hj hi c;omega
theorem sH{l:List Ob}(h:xm l){x:Ob}(hx:x∈l):tJ l x.id=x.kind:=by
 obtain⟨i,hi,rfl⟩:=List.getElem_of_mem hx
 exact gq (tS h hi) hi
section
section
open Go.Shelf
def dD(c:Int):Bool:=(decide (97≤c)&&decide (c≤122))||(decide (48≤c)&&decide (c≤57))||c==45
theorem Yy(c:Int)(w:World):Calls Tryz.prog 173 #[.int .i32 c] w fun e w'=>e= .returned (.bool (dD c))∧Below w.heap.size w w':=by
 by_cases h1:97≤c∧c≤122
 ·have a1:decide (97≤c)=true:=by simpa using h1.1
  have a2:decide (c≤122)=true:=by simpa using h1.2
  have HR:Hid (true=dD c):=by unfold Hid dD;simp[h1.1,h1.2]
  clear h1
  go_enter Tryz.func173,Tryz.ntmps173
  go_wp2
  all_goals go_ret
  all_goals exact⟨yI HR.out,Below.refl _ _⟩
 ·have HN:Hid (∀b:Bool,(b=true↔((48≤c∧c≤57)∨c=45))→b=dD c):=fun b hb=>by
   unfold dD
   rw[Bool.eq_iff_iff,hb]
   simp only[Bool.or_eq_true,Bool.and_eq_true,decide_eq_true_eq,beq_iff_eq]
   omega
  go_enter Tryz.func173,Tryz.ntmps173
  go_wp2
  all_goals go_ret
  all_goals refine⟨yI (HN.out _ ?_),Below.refl _ _⟩
  all_goals simp only[Bool.or_eq_true,decide_eq_true_eq,beq_iff_eq,true_iff]
  all_goals first|done|omega
def sU(x:Nat):Bool:=!dD (x:Int)
theorem Wr(w:World):PredGrows Tryz.prog 172 #[] sU w:=by
 intro W x _ _
 show Calls Tryz.prog 172 #[.int .i32 (x:Int)] W _
 go_enter Tryz.func172,Tryz.ntmps172
 go_wp2_with fail
 refine(Yy (x:Int) W).mono ?_
 rintro e w1 ⟨rfl,hb⟩
 go_wp2
 go_ret
 exact⟨rfl,hb⟩
abbrev nI:ByteArray:={data:=#[47]}
def jg(s:ByteArray):List ByteArray:=Lib.splitB nI 0 (Lib.countB s nI) s
theorem jV(s:ByteArray):(jg s).length=Lib.countB s nI+1:=Lib.splitB_all nI (by decide) 0 _ s rfl
def sR(t:ByteArray):Bool:=(t.toList==[])||decide (0≤Lib.idxFunc sU true t)
def yf(s:ByteArray):Int:=if 12<s.size then 2 else if(jg s).any sR then 1 else 0
def xr(w:World):Prop:=∃m,w.cell? ⟨0,0,none⟩=some (.int .i64 m)
theorem xr.lt{w:World}(h:xr w):0<w.heap.size:=by
 obtain⟨m,hm⟩:=h
 rcases Nat.eq_zero_or_pos w.heap.size with h0|h0
 ·have he:w.heap[0]? =none:=Array.getElem?_eq_none (by omega)
  simp[World.cell?,he]at hm
 ·exact h0
theorem xr.below{w w':World}(h:xr w)(hb:Below w.heap.size w w'):xr w':=by
 have hl:=h.lt
 obtain⟨m,hm⟩:=h
 exact⟨m,(hb.cell (p:=⟨0,0,none⟩) hl).trans hm⟩
theorem cZ(s:ByteArray)(w:World)(hg:xr w):
  Calls Tryz.prog 105 #[.string s] w fun e w'=>e= .returned (.int .i64 (yf s))∧Below w.heap.size w w':=by
 by_cases h12:(12:Int)<(s.size:Int)
 ·have HR:Hid (2=yf s):=by unfold Hid yf;rw[if_pos (by omega)]
  go_enter Tryz.func105,Tryz.ntmps105
  go_wp2
  go_ret
  exact⟨zE HR.out,Below.refl _ _⟩
 have HN:Hid (yf s=if(jg s).any sR then 1 else 0):=by unfold Hid yf;rw[if_neg (by omega)]
 obtain⟨mm,RP⟩:=hg
 have XM:=Tryz.strings_Split s nI mm w (by omega) RP (by decide)
 have hA:=zB w (.cells ((jg s).map Value.string).toArray 9)
 have pF:=heap_alloc_new w (.cells ((jg s).map Value.string).toArray 9)
 have Le:(jg s).length≤1000:=by
  have h1:=jV s
  have h2:=Lib.countB_le nI (by decide) s.size s (Nat.le_refl _)
  omega
 rw[←jV s]at XM
 obtain⟨P,hP⟩: ∃P,P=jg s:=⟨_,rfl⟩
 have Cy:Calls Tryz.prog 170 #[.string s,.string nI] w fun e w'=>e= .returned (.slice (some ⟨w.heap.size,0,none⟩) P.length P.length)∧w'=w.alloc (.cells (P.map Value.string).toArray 9):=by rw[hP];exact XM
 rw[←hP]at HN hA pF Le
 clear XM hP RP
 go_enter Tryz.func105,Tryz.ntmps105
 go_wp2_with fail
 refine Cy.mono ?_
 clear Cy
 rintro e w1 ⟨rfl,rfl⟩
 have xf: ∀k (hk:k<P.length),(w.alloc (.cells (P.map Value.string).toArray 9)).cell? ⟨w.heap.size,k,none⟩=some (.string P[k]):=fun k hk=>by
  rw[cell_of_row _ _ k _ _ _ pF]
  simp[hk]
 have hwl:w.heap.size<(w.alloc (.cells (P.map Value.string).toArray 9)).heap.size:=zG pF
 clear pF
 go_wp2_with fail
 generalize w.alloc (.cells (P.map Value.string).toArray 9)=W1 at *
 go_loopw [11] (fun i wr=>∃k:Nat,i= .int .i64 k∧k≤P.length∧Below W1.heap.size W1 wr∧Hid (∀t∈P.take k,sR t=false)) (fun i _=>P.length-(intOf i).toNat)
 case atStart=>exact⟨0,rfl,Nat.zero_le _,Below.refl _ _,fun t ht=>by simp at ht⟩
 case round=>
  obtain⟨k,rfl,hk,hB,H⟩:=hrel
  by_cases zN:k<P.length
  ·have x0:=(hB.cell (p:=⟨w.heap.size,k,none⟩) hwl).trans (xf k zN)
   have XB:(k:Int)<(P.length:Int):=by omega
   have HT:Hid (P[k]∈P):=List.getElem_mem zN
   have HTk:Hid (P.take (k+1)=P.take k++[P[k]]):=List.take_succ_eq_append_getElem zN
   generalize P[k]=t at *
   clear xf
   have qM:=bt hA hB
   have hcf:=Tryz.strings_ContainsFunc_grows 172 #[] (enters_of Tryz.func172 (by kernel_rfl) rfl) sU t wr (Wr wr)
   by_cases h0:t.toList=[]
   ·have HR:Hid (1=yf s):=by
     unfold Hid
     rw[HN.out,if_pos]
     exact List.any_eq_true.2 ⟨t,HT.out,by simp[sR,h0]⟩
    have LZ:(t.toList==[])=true:=by simpa using h0
    clear hcf
    go_wp2
    go_ret
    exact⟨zE HR.out,qM⟩
   ·have LZ:(t.toList==[])=false:=by simpa using h0
    go_wp2_with fail
    refine hcf.mono ?_
    clear hcf
    rintro e w5 ⟨rfl,xu⟩
    have su:=bt hB xu
    have Gw:=bt qM xu
    have qN:Hid (sR t=decide (0≤Lib.idxFunc sU true t)):=by unfold Hid sR;rw[LZ,Bool.false_or]
    generalize decide (0≤Lib.idxFunc sU true t)=d at *
    clear xu hB qM h0 x0
    cases d with
    |true=>
     have HR:Hid (1=yf s):=by
      unfold Hid
      rw[HN.out,if_pos]
      exact List.any_eq_true.2 ⟨t,HT.out,qN.out⟩
     go_wp2
     go_ret
     exact⟨zE HR.out,Gw⟩
    |false=>
     have HH:Hid (∀u∈P.take (k+1),sR u=false):=fun u hu=>by
      rw[HTk.out]at hu
      rcases List.mem_append.1 hu with q|q
      ·exact H.out u q
      ·rw[List.mem_singleton.1 q];exact qN.out
     go_wp2
     go_roundw
     case rel=>exact⟨k+1,by go_num,by omega,su,HH⟩
     case measure=>simp[intOf];omega
  ·have HR:Hid (0=yf s):=by
    unfold Hid
    rw[HN.out,if_neg]
    intro q
    obtain⟨t,ht,hb⟩:=List.any_eq_true.1 q
    rw[H.out t (by rw[List.take_of_length_le (by omega)];exact ht)]at hb
    cases hb
   go_wp2
   go_ret
   exact⟨zE HR.out,(bt hA hB)⟩
end
structure Rf where
 name:ByteArray
 id:Int
abbrev Rf.val(r:Rf):Value:=.agg #[.string r.name,.int .i64 r.id]
def S7(w:World)(b o:Nat)(r:Rf):Prop:=w.cell? ⟨b,o,none⟩=some (.string r.name)∧w.cell? ⟨b,o+1,none⟩=some (.int .i64 r.id)
def yU(w:World)(a:Option Addr)(l:List Rf):Prop:=
 ∀i,i<l.length→∃b off,a=some ⟨b,off,none⟩∧b<w.heap.size∧∀i (h:i<l.length),S7 w b (off+i*2) l[i]
theorem yU.below{w w':World}{a:Option Addr}{l:List Rf}(h:yU w a l)(hb:Below w.heap.size w w'):yU w' a l:=by
 intro i hi
 obtain⟨b,off,e,zN,hc⟩:=h i hi
 exact⟨b,off,e,Nat.lt_of_lt_of_le zN hb.size,fun j hj=>⟨(hb.cell (p:=⟨b,off+j*2,none⟩) zN).trans (hc j hj).1,(hb.cell (p:=⟨b,off+j*2+1,none⟩) zN).trans (hc j hj).2⟩⟩
def xV(P:Rf→Bool)(l:List Rf):Int:=match l.findIdx? P with|some i=>(i:Int)|none=>-1
theorem qC{P:Rf→Bool}{l:List Rf}{k:Nat}(hk:k<l.length)(pQ: ∀j (h:j<l.length),j<k→P l[j]=false)(h:P l[k]=true):xV P l=k:=by
 have:l.findIdx? P=some k:=by
  rw[List.findIdx?_eq_some_iff_getElem]
  exact⟨hk,h,fun j hj=>by simpa using pQ j (by omega) hj⟩
 simp[xV,this]
theorem sr{P:Rf→Bool}{l:List Rf}(pQ: ∀j (h:j<l.length),P l[j]=false):xV P l= -1:=by
 have:l.findIdx? P=none:=by
  rw[List.findIdx?_eq_none_iff]
  intro x hx
  obtain⟨j,hj,rfl⟩:=List.getElem_of_mem hx
  exact pQ j hj
 simp[xV,this]
theorem ug(P:Rf→Bool)(l:List Rf):(xV P l= -1∧∀x∈l,P x=false)∨∃i:Nat,xV P l=i∧∃hi:i<l.length,P l[i]=true∧∀j (hj:j<l.length),j<i→P l[j]=false:=by
 unfold xV
 cases h:l.findIdx? P with
 |none=>
  rw[List.findIdx?_eq_none_iff]at h
  exact .inl ⟨rfl,h⟩
 |some i=>
  rw[List.findIdx?_eq_some_iff_getElem]at h
  obtain⟨h1,h2,h3⟩:=h
  exact .inr ⟨i,rfl,h1,h2,fun j _ Vp=>by simpa using h3 j Vp⟩
theorem bC{P:Rf→Bool}{l:List Rf}:decide (0≤xV P l)=l.any P:=by
 rcases ug P l with⟨h1,h2⟩|⟨i,h1,hi,h2,_⟩
 ·rw[h1,show l.any P=false from List.any_eq_false.2 (fun x hx=>by simp[h2 x hx])]
  simp
 ·rw[h1,show l.any P=true from List.any_eq_true.2 ⟨_,List.getElem_mem hi,h2⟩]
  simp
def yt(nm:ByteArray)(r:Rf):Bool:=r.name.toList==nm.toList
def inPlace(nm:ByteArray)(r:Rf):Bool:=Lib.hasPrefix r.name.data.toList (nm++nI).data.toList
theorem Pd(x:Rf)(nm:ByteArray)(p:Nat)(w:World)(hp:w.cell? ⟨p,0,none⟩=some (.string nm))(zN:p<w.heap.size):
  Calls Tryz.prog 110 #[x.val,.pointer (some ⟨p,0,none⟩)] w fun e w'=>e= .returned (.bool (yt nm x))∧Below w.heap.size w w':=by
 go_enter Tryz.func110,Tryz.ntmps110
 go_wp2
 go_ret
 exact⟨rfl,zB _ _⟩
theorem YF(x:Rf)(nm:ByteArray)(hn:nm.size≤1000)(p:Nat)(w:World)(hp:w.cell? ⟨p,0,none⟩=some (.string nm))(zN:p<w.heap.size):
  Calls Tryz.prog 182 #[x.val,.pointer (some ⟨p,0,none⟩)] w fun e w'=>e= .returned (.bool (inPlace nm x))∧Below w.heap.size w w':=by
 have hA:=zB w (.cells #[.string x.name,.int .i64 x.id] 65)
 have qu:=(hA.cell (p:=⟨p,0,none⟩) zN).trans hp
 have eJ:(nm.size:Int)+1≤9223372036854775807:=by omega
 go_enter Tryz.func182,Tryz.ntmps182
 go_wp2_with fail
 refine(Tryz.strings_HasPrefix x.name (nm++nI) _).mono ?_
 rintro e w1 ⟨rfl,rfl⟩
 go_wp2
 go_ret
 exact⟨rfl,hA⟩
theorem YX(a:Option Addr)(c:Nat)(l:List Rf)(nm:ByteArray)(p:Nat)(w:World)(h:yU w a l)(hl:l.length≤9223372036854775807)(hp:w.cell? ⟨p,0,none⟩=some (.string nm))(zN:p<w.heap.size):
  Calls Tryz.prog 109 #[.slice a l.length c,.func (.func 110) #[] #[.pointer (some ⟨p,0,none⟩)]] w fun e w'=>e= .returned (.int .i64 (xV (yt nm) l))∧Below w.heap.size w w':=by
 go_enter Tryz.func109,Tryz.ntmps109
 go_wp2
 go_loopw [8] (fun i wr=>∃k:Nat,i= .int .i64 k∧k≤l.length∧Below w.heap.size w wr∧Hid (∀j (hj:j<l.length),j<k→(yt nm) l[j]=false)) (fun i _=>l.length-(intOf i).toNat)
 case atStart=>exact⟨0,rfl,Nat.zero_le _,Below.refl _ _,fun j _ h=>absurd h (Nat.not_lt_zero j)⟩
 case round=>
  obtain⟨k,rfl,hk,hB,H⟩:=hrel
  by_cases xl:k<l.length
  ·obtain⟨b,off,rfl,hb,hc⟩:=(h.below hB) k xl
   obtain⟨x0,x1⟩:=hc k xl
   have mP:wr.cell? ⟨p,0,none⟩=some (.string nm):=(hB.cell (p:=⟨p,0,none⟩) zN).trans hp
   have rg:=Pd l[k] nm p wr mP (Nat.lt_of_lt_of_le zN hB.size)
   clear mP
   clear hc
   go_wp2_with fail
   refine rg.mono ?_
   clear rg
   rintro e w1 ⟨rfl,zM⟩
   have zT:=bt hB zM
   clear zM x0 x1
   by_cases hq:(yt nm) l[k]=true
   ·have HR:Hid (xV (yt nm) l=k):=qC xl H.out hq
    rw[hq]
    clear hq
    go_wp2
    go_ret
    exact⟨zE HR.out.symm,zT⟩
   ·have rU:(yt nm) l[k]=false:=by simpa using hq
    have HN:Hid (∀j (hj:j<l.length),j<k+1→(yt nm) l[j]=false):=fun j hj hjk=>by
     rcases Nat.lt_or_ge j k with h1|h1
     ·exact H.out j hj h1
     ·have:j=k:=by omega
      subst this
      exact rU
    rw[rU]
    clear hq rU
    go_wp2
    go_roundw
    case rel=>exact⟨k+1,by go_num,by omega,zT,HN⟩
    case measure=>simp[intOf];omega
  ·have HR:Hid (xV (yt nm) l= -1):=sr (fun j hj=>H.out j hj (by omega))
   go_wp2
   go_ret
   exact⟨zE HR.out.symm,hB⟩
theorem dS(a:Option Addr)(c:Nat)(l:List Rf)(nm:ByteArray)(hn:nm.size≤1000)(p:Nat)(w:World)(h:yU w a l)(hl:l.length≤9223372036854775807)(hp:w.cell? ⟨p,0,none⟩=some (.string nm))(zN:p<w.heap.size):
  Calls Tryz.prog 109 #[.slice a l.length c,.func (.func 182) #[] #[.pointer (some ⟨p,0,none⟩)]] w fun e w'=>e= .returned (.int .i64 (xV (inPlace nm) l))∧Below w.heap.size w w':=by
 go_enter Tryz.func109,Tryz.ntmps109
 go_wp2
 go_loopw [8] (fun i wr=>∃k:Nat,i= .int .i64 k∧k≤l.length∧Below w.heap.size w wr∧Hid (∀j (hj:j<l.length),j<k→(inPlace nm) l[j]=false)) (fun i _=>l.length-(intOf i).toNat)
 case atStart=>exact⟨0,rfl,Nat.zero_le _,Below.refl _ _,fun j _ h=>absurd h (Nat.not_lt_zero j)⟩
 case round=>
  obtain⟨k,rfl,hk,hB,H⟩:=hrel
  by_cases xl:k<l.length
  ·obtain⟨b,off,rfl,hb,hc⟩:=(h.below hB) k xl
   obtain⟨x0,x1⟩:=hc k xl
   have mP:wr.cell? ⟨p,0,none⟩=some (.string nm):=(hB.cell (p:=⟨p,0,none⟩) zN).trans hp
   have rg:=YF l[k] nm hn p wr mP (Nat.lt_of_lt_of_le zN hB.size)
   clear mP
   clear hc
   go_wp2_with fail
   refine rg.mono ?_
   clear rg
   rintro e w1 ⟨rfl,zM⟩
   have zT:=bt hB zM
   clear zM x0 x1
   by_cases hq:(inPlace nm) l[k]=true
   ·have HR:Hid (xV (inPlace nm) l=k):=qC xl H.out hq
    rw[hq]
    clear hq
    go_wp2
    go_ret
    exact⟨zE HR.out.symm,zT⟩
   ·have rU:(inPlace nm) l[k]=false:=by simpa using hq
    have HN:Hid (∀j (hj:j<l.length),j<k+1→(inPlace nm) l[j]=false):=fun j hj hjk=>by
     rcases Nat.lt_or_ge j k with h1|h1
     ·exact H.out j hj h1
     ·have:j=k:=by omega
      subst this
      exact rU
    rw[rU]
    clear hq rU
    go_wp2
    go_roundw
    case rel=>exact⟨k+1,by go_num,by omega,zT,HN⟩
    case measure=>simp[intOf];omega
  ·have HR:Hid (xV (inPlace nm) l= -1):=sr (fun j hj=>H.out j hj (by omega))
   go_wp2
   go_ret
   exact⟨zE HR.out.symm,hB⟩
def Zz(l:List Rf)(nm:ByteArray):Bool:=l.any (inPlace nm)
def kH(l:List Rf)(x:Rf):Bool:=Zz l x.name
theorem jW(a:Option Addr)(c:Nat)(l:List Rf)(nm:ByteArray)(hn:nm.size≤1000)(p:Nat)(w:World)(h:yU w a l)(hl:l.length≤9223372036854775807)(hp:w.cell? ⟨p,0,none⟩=some (.string nm))(zN:p<w.heap.size):
  Calls Tryz.prog 124 #[.slice a l.length c,.func (.func 182) #[] #[.pointer (some ⟨p,0,none⟩)]] w fun e w'=>e= .returned (.bool (Zz l nm))∧Below w.heap.size w w':=by
 have HR:Hid (decide (0≤xV (inPlace nm) l)=Zz l nm):=bC
 go_enter Tryz.func124,Tryz.ntmps124
 go_wp2_with fail
 refine(dS a c l nm hn p w h hl hp zN).mono ?_
 rintro e w1 ⟨rfl,hb⟩
 go_wp2
 go_ret
 exact⟨yI HR.out,hb⟩
theorem Xa(a:Option Addr)(c:Nat)(l:List Rf)(nm:ByteArray)(hn:nm.size≤1000)(w:World)(h:yU w a l)(hl:l.length≤9223372036854775807):
  Calls Tryz.prog 126 #[.slice a l.length c,.string nm] w fun e w'=>e= .returned (.bool (Zz l nm))∧Below w.heap.size w w':=by
 have Uk: ∀(fn:Fn) (first cap:Array Value) (w:World),(Instr.makeFunc fn first cap).run Tryz.prog w= .ok (.func fn first cap) w:=fun _ _ _ _=>rfl
 have hp:(w.alloc (.cells #[.string nm] 9)).cell? ⟨w.heap.size,0,none⟩=some (.string nm):=by rw[World.cell?_alloc_at _ _ _ _ rfl];rfl
 go_enter Tryz.func126,Tryz.ntmps126
 go_wp2_with fail
 refine(jW a c l nm hn w.heap.size _ (h.below (zB _ _)) hl hp (by simp)).mono ?_
 rintro e w1 ⟨rfl,hb⟩
 have hB:=(zB _ _).trans (hb.mono (by simp))
 go_wp2
 go_ret
 exact⟨rfl,hB⟩
theorem X7(x:Rf)(hn:x.name.size≤1000)(a:Option Addr)(c:Nat)(l:List Rf)(p:Nat)(w:World)(h:yU w a l)(hl:l.length≤9223372036854775807)(hp:w.cell? ⟨p,0,none⟩=some (.slice a l.length c))(zN:p<w.heap.size):
  Calls Tryz.prog 125 #[x.val,.pointer (some ⟨p,0,none⟩)] w fun e w'=>e= .returned (.bool (kH l x))∧Below w.heap.size w w':=by
 have hA:=zB w (.cells #[.string x.name,.int .i64 x.id] 65)
 have qu:=(hA.cell (p:=⟨p,0,none⟩) zN).trans hp
 go_enter Tryz.func125,Tryz.ntmps125
 go_wp2_with fail
 refine(Xa a c l x.name hn _ (h.below hA) hl).mono ?_
 rintro e w1 ⟨rfl,hb⟩
 have hB:=bt hA hb
 clear qu hA hb
 go_wp2
 go_ret
 exact⟨rfl,hB⟩
theorem et(a:Option Addr)(c:Nat)(l:List Rf)(hn: ∀x∈l,x.name.size≤1000)(p:Nat)(w:World)(h:yU w a l)(hl:l.length≤9223372036854775807)(hp:w.cell? ⟨p,0,none⟩=some (.slice a l.length c))(zN:p<w.heap.size):
  Calls Tryz.prog 109 #[.slice a l.length c,.func (.func 125) #[] #[.pointer (some ⟨p,0,none⟩)]] w fun e w'=>e= .returned (.int .i64 (xV (kH l) l))∧Below w.heap.size w w':=by
 go_enter Tryz.func109,Tryz.ntmps109
 go_wp2
 go_loopw [8] (fun i wr=>∃k:Nat,i= .int .i64 k∧k≤l.length∧Below w.heap.size w wr∧Hid (∀j (hj:j<l.length),j<k→(kH l) l[j]=false)) (fun i _=>l.length-(intOf i).toNat)
 case atStart=>exact⟨0,rfl,Nat.zero_le _,Below.refl _ _,fun j _ h=>absurd h (Nat.not_lt_zero j)⟩
 case round=>
  obtain⟨k,rfl,hk,hB,H⟩:=hrel
  by_cases xl:k<l.length
  ·obtain⟨b,off,rfl,hb,hc⟩:=(h.below hB) k xl
   obtain⟨x0,x1⟩:=hc k xl
   have mP:wr.cell? ⟨p,0,none⟩=some (.slice (some ⟨b,off,none⟩) l.length c):=(hB.cell (p:=⟨p,0,none⟩) zN).trans hp
   have rg:=X7 l[k] (hn _ (List.getElem_mem xl)) (some ⟨b,off,none⟩) c l p wr (h.below hB) hl mP (Nat.lt_of_lt_of_le zN hB.size)
   clear mP
   clear hc
   go_wp2_with fail
   refine rg.mono ?_
   clear rg
   rintro e w1 ⟨rfl,zM⟩
   have zT:=bt hB zM
   clear zM x0 x1
   by_cases hq:(kH l) l[k]=true
   ·have HR:Hid (xV (kH l) l=k):=qC xl H.out hq
    rw[hq]
    clear hq
    go_wp2
    go_ret
    exact⟨zE HR.out.symm,zT⟩
   ·have rU:(kH l) l[k]=false:=by simpa using hq
    have HN:Hid (∀j (hj:j<l.length),j<k+1→(kH l) l[j]=false):=fun j hj hjk=>by
     rcases Nat.lt_or_ge j k with h1|h1
     ·exact H.out j hj h1
     ·have:j=k:=by omega
      subst this
      exact rU
    rw[rU]
    clear hq rU
    go_wp2
    go_roundw
    case rel=>exact⟨k+1,by go_num,by omega,zT,HN⟩
    case measure=>simp[intOf];omega
  ·have HR:Hid (xV (kH l) l= -1):=sr (fun j hj=>H.out j hj (by omega))
   go_wp2
   go_ret
   exact⟨zE HR.out.symm,hB⟩
theorem jt(a:Option Addr)(c:Nat)(l:List Rf)(hn: ∀x∈l,x.name.size≤1000)(p:Nat)(w:World)(h:yU w a l)(hl:l.length≤9223372036854775807)(hp:w.cell? ⟨p,0,none⟩=some (.slice a l.length c))(zN:p<w.heap.size):
  Calls Tryz.prog 124 #[.slice a l.length c,.func (.func 125) #[] #[.pointer (some ⟨p,0,none⟩)]] w fun e w'=>e= .returned (.bool (l.any (kH l)))∧Below w.heap.size w w':=by
 have HR:Hid (decide (0≤xV (kH l) l)=l.any (kH l)):=bC
 go_enter Tryz.func124,Tryz.ntmps124
 go_wp2_with fail
 refine(et a c l hn p w h hl hp zN).mono ?_
 rintro e w1 ⟨rfl,hb⟩
 go_wp2
 go_ret
 exact⟨yI HR.out,hb⟩
def gh(l:List Rf)(nm:ByteArray):Int:=if yf nm≠0 then yf nm else if xV (yt nm) l<0 then 5 else 0
def jm(l:List Rf)(nm:ByteArray):Int:=if gh l nm≠0 then 0 else(l[(xV (yt nm) l).toNat]?.map Rf.id).getD 0
theorem Kj(a:Option Addr)(c:Nat)(l:List Rf)(nm:ByteArray)(w:World)(hg:xr w)(h:yU w a l)(hl:l.length≤9223372036854775807):
  Calls Tryz.prog 60 #[.slice a l.length c,.string nm] w fun e w'=>e= .returned (.tuple #[.int .i64 (jm l nm),.int .i64 (gh l nm)])∧Below w.heap.size w w':=by
 have Uk: ∀(fn:Fn) (first cap:Array Value) (w:World),(Instr.makeFunc fn first cap).run Tryz.prog w= .ok (.func fn first cap) w:=fun _ _ _ _=>rfl
 have hA:=zB w (.cells #[.string nm] 9)
 have hp:(w.alloc (.cells #[.string nm] 9)).cell? ⟨w.heap.size,0,none⟩=some (.string nm):=by rw[World.cell?_alloc_at _ _ _ _ rfl];rfl
 have gB:w.heap.size<(w.alloc (.cells #[.string nm] 9)).heap.size:=by simp
 go_enter Tryz.func60,Tryz.ntmps60
 go_wp2_with fail
 refine(cZ nm _ (hg.below hA)).mono ?_
 rintro e w1 ⟨rfl,zM⟩
 have qu:=(zM.cell (p:=⟨w.heap.size,0,none⟩) gB).trans hp
 have RJ:=Nat.lt_of_lt_of_le gB zM.size
 have zT:=bt hA zM
 clear hp gB zM hA
 by_cases hz:yf nm=0
 case neg=>
  have HR:Hid (gh l nm=yf nm∧jm l nm=0):=by
   have e:gh l nm=yf nm:=by rw[gh,if_pos hz]
   exact⟨e,by rw[jm,if_pos (by rw[e];exact hz)]⟩
  have z1:(yf nm != 0)=true:=by simpa using hz
  clear hz
  go_wp2
  refine bodyPost_ret (v:=.tuple #[.int .i64 0,.int .i64 (yf nm)]) (by simp[results,Tryz.results60,go_sem]) rfl ?_
  exact⟨by rw[HR.out.1,HR.out.2],zT⟩
 have HE:Hid (gh l nm=if xV (yt nm) l<0 then 5 else 0):=by unfold Hid gh;rw[if_neg (fun e=>e hz)]
 rw[hz]
 clear hz
 go_wp2_with fail
 refine(YX a c l nm w.heap.size w1 (h.below zT) hl qu RJ).mono ?_
 rintro e w2 ⟨rfl,zZ⟩
 have zj:=bt zT zZ
 clear zZ zT qu RJ
 rcases ug (yt nm) l with⟨h1,-⟩|⟨i,h1,hi,-,-⟩
 ·have HR:Hid (gh l nm=5∧jm l nm=0):=by
   have e:gh l nm=5:=by rw[HE.out,if_pos (by omega)]
   exact⟨e,by rw[jm,if_pos (by rw[e];decide)]⟩
  rw[h1]
  clear h1
  go_wp2
  refine bodyPost_ret (v:=.tuple #[.int .i64 0,.int .i64 5]) (by simp[results,Tryz.results60,go_sem]) rfl ?_
  exact⟨by rw[HR.out.1,HR.out.2],zj⟩
 ·have HR:Hid (gh l nm=0∧jm l nm=l[i].id):=by
   have e:gh l nm=0:=by rw[HE.out,if_neg (by omega)]
   refine⟨e,?_⟩
   rw[jm,if_neg (fun q=>q e),h1]
   simp[hi]
  rw[h1]
  clear h1
  obtain⟨b,off,rfl,hb,hc⟩:=(h.below zj) i hi
  obtain⟨x0,x1⟩:=hc i hi
  have Y5:(i:Int)<(l.length:Int):=by omega
  clear hc
  go_wp2
  refine bodyPost_ret (v:=.tuple #[.int .i64 l[i].id,.int .i64 0]) (by simp[results,Tryz.results60,go_sem]) rfl ?_
  exact⟨by rw[HR.out.1,HR.out.2],zj⟩
def xS(l:List Ob)(id:Int):Int:=if zW l id<0 then 5 else if tJ l id≠3 then 7 else 0
theorem fm(a:Option Addr)(c:Nat)(l:List Ob)(id:Int)(w:World)(h:zP w a l)(he:zK l=0):
  Calls Tryz.prog 123 #[.slice a l.length c,.int .i64 id] w fun e w'=>e= .returned (.int .i64 (xS l id))∧Below w.heap.size w w':=by
 rcases xG l id with hp|⟨i,hp,hi⟩
 ·have HR:Hid (5=xS l id):=by unfold Hid xS;rw[if_pos (by omega)]
  have hf:=Zm a c l id w h he hp
  clear hp he
  go_enter Tryz.func123,Tryz.ntmps123
  go_wp2_with fail
  refine hf.mono ?_
  clear hf
  rintro e w1 ⟨rfl,hb⟩
  have hB:=hb.trans ((zB w1 (.cells #[.int .i64 0,.int .i64 0,.slice none 0 0,.string {data:=#[]}] 58)).mono hb.size)
  go_wp2
  go_ret
  exact⟨zE HR.out,hB⟩
 ·have hk:=gq hp hi
  have hf:=Sj a c l id i w h he hp hi
  have HC:Hid (xS l id=if l[i].kind≠3 then 7 else 0):=by unfold Hid xS;rw[if_neg (by omega),hk]
  clear he
  go_enter Tryz.func123,Tryz.ntmps123
  go_wp2_with fail
  refine hf.mono ?_
  clear hf
  rintro e w1 ⟨ua,uc,rfl,hua,hb⟩
  have hB:=hb.trans ((zB w1 (.cells #[.int .i64 l[i].id,.int .i64 l[i].kind,.slice ua l[i].links.length uc,.string l[i].text] 58)).mono hb.size)
  by_cases h3:l[i].kind=3
  ·have HR:Hid (0=xS l id):=by unfold Hid;rw[HC.out,if_neg (fun e=>e h3)]
   rw[h3]at hB
   clear HC hk
   go_wp2
   go_ret
   exact⟨zE HR.out,hB⟩
  ·have HR:Hid (7=xS l id):=by unfold Hid;rw[HC.out,if_pos h3]
   have z1:(l[i].kind != 3)=true:=by simpa using h3
   clear HC hk
   go_wp2
   go_ret
   exact⟨zE HR.out,hB⟩
def JO(x y:ByteArray):Bool:=Op.bytesLess x.toList y.toList||x.toList==y.toList
def uG(o:List Ob):ByteArray→List Rf→Int
 |_,[]=>0
 |last,r::rs=>if yf r.name≠0 then yf r.name else if JO r.name last then 4 else if xS o r.id≠0 then xS o r.id else uG o r.name rs
def yG(l:List Rf)(o:List Ob):Int:=
 if zK o≠0 then zK o else if 8<l.length then 2 else if uG o {data:=#[]} l≠0 then uG o {data:=#[]} l else if l.any (kH l)then 6 else 0
theorem pb{s:ByteArray}(h:yf s=0):s.size≤12:=by
 unfold yf at h
 split at h
 ·omega
 ·omega
theorem gx{o:List Ob}: ∀(l:List Rf) (last:ByteArray),uG o last l=0→∀r∈l,yf r.name=0
 |[],_,_=>fun r hr=>by cases hr
 |x::l,last,h=>by
  rw[uG]at h
  split at h
  ·rename_i q;exact absurd h q
  rename_i q1
  split at h
  ·omega
  split at h
  ·rename_i q;exact absurd h q
  intro r hr
  rcases List.mem_cons.1 hr with rfl|hr
  ·exact Classical.byContradiction q1
  ·exact gx l _ h r hr
theorem qi(a:Option Addr)(c:Nat)(l:List Rf)(ao:Option Addr)(co:Nat)(o:List Ob)(w:World)(hg:xr w)(h:yU w a l)(hl:l.length≤9223372036854775807)(ho:zP w ao o)(jF:o.length≤9223372036854775807):
  Calls Tryz.prog 69 #[.slice a l.length c,.slice ao o.length co] w fun e w'=>e= .returned (.int .i64 (yG l o))∧Below w.heap.size w w':=by
 have Uk: ∀(fn:Fn) (first cap:Array Value) (w:World),(Instr.makeFunc fn first cap).run Tryz.prog w= .ok (.func fn first cap) w:=fun _ _ _ _=>rfl
 have hA:=zB w (.cells #[.slice a l.length c] 34)
 have ka:(w.alloc (.cells #[.slice a l.length c] 34)).cell? ⟨w.heap.size,0,none⟩=some (.slice a l.length c):=by rw[World.cell?_alloc_at _ _ _ _ rfl];rfl
 have Xm:w.heap.size<(w.alloc (.cells #[.slice a l.length c] 34)).heap.size:=by simp
 go_enter Tryz.func69,Tryz.ntmps69
 go_wp2_with fail
 refine(vD ao co o _ (ho.below hA) jF).mono ?_
 rintro e w1 ⟨rfl,zM⟩
 have zT:=bt hA zM
 have qu:=(zM.cell (p:=⟨w.heap.size,0,none⟩) Xm).trans ka
 have RJ:=Nat.lt_of_lt_of_le Xm zM.size
 clear zM hA ka Xm
 by_cases k1:zK o=0
 case neg=>
  have HR:Hid (zK o=yG l o):=by unfold Hid yG;rw[if_pos k1]
  have z1:(zK o != 0)=true:=by simpa using k1
  clear k1
  go_wp2
  go_ret
  exact⟨zE HR.out,zT⟩
 have K1:Hid (zK o=0):=k1
 rw[k1]
 clear k1
 by_cases k2:(8:Int)<(l.length:Int)
 case pos=>
  have HR:Hid (2=yG l o):=by unfold Hid yG;rw[if_neg (fun e=>e K1.out),if_pos (by omega)]
  go_wp2
  go_ret
  exact⟨zE HR.out,zT⟩
 have HE:Hid (yG l o=if uG o {data:=#[]} l≠0 then uG o {data:=#[]} l else if l.any (kH l)then 6 else 0):=by unfold Hid yG;rw[if_neg (fun e=>e K1.out),if_neg (by omega)]
 have YH:=hg.below zT
 have h1:=h.below zT
 have bO:=ho.below zT
 go_wp2
 go_loopw [6,21] (fun v i wr=>∃(k:Nat) (last:ByteArray),v= .string last∧i= .int .i64 k∧k≤l.length∧Below w1.heap.size w1 wr∧Hid (uG o {data:=#[]} l=uG o last (l.drop k))) (fun _ i _=>l.length-(intOf i).toNat)
 case atStart=>exact⟨0,_,rfl,rfl,Nat.zero_le _,Below.refl _ _,rfl⟩
 case round=>
  obtain⟨k,last,rfl,rfl,hk,hB,H⟩:=hrel
  have qM:=bt zT hB
  by_cases zN:k<l.length
  ·obtain⟨b,off,rfl,hb,hc⟩:=(h1.below hB) k zN
   obtain⟨x0,x1⟩:=hc k zN
   have tu:=zB wr (.cells #[.string l[k].name,.int .i64 l[k].id] 65)
   have HD:Hid (uG o {data:=#[]} l=if yf l[k].name≠0 then yf l[k].name else if JO l[k].name last then 4 else if xS o l[k].id≠0 then xS o l[k].id else uG o l[k].name (l.drop (k+1))):=by
    unfold Hid
    rw[H.out,List.drop_eq_getElem_cons zN,uG]
   have UT:=(YH.below hB).below tu
   have Fu:=(bO.below hB).below tu
   have Dg:=bt hB tu
   have si:(wr.alloc (.cells #[.string l[k].name,.int .i64 l[k].id] 65)).heap[wr.heap.size]? =some (.cells #[.string l[k].name,.int .i64 l[k].id] 65):=heap_alloc_new wr _
   obtain⟨nm,eE⟩: ∃nm,nm=l[k].name:=⟨_,rfl⟩
   obtain⟨id,hid⟩: ∃id,id=l[k].id:=⟨_,rfl⟩
   rw[←eE,←hid]at HD
   rw[←eE,←hid]at UT Fu Dg si
   rw[←eE]at x0
   rw[←hid]at x1
   clear hc tu eE hid H
   go_wp2_with fail
   refine(cZ nm _ UT).mono ?_
   rintro e w3 ⟨rfl,yT⟩
   have XF:=zA5 yT si
   have xL:=bt Dg yT
   have gA:=Fu.below yT
   have hwl:=Nat.lt_of_lt_of_le (zG si) yT.size
   obtain⟨Bx,hBx⟩: ∃Bx,Bx=wr.heap.size:=⟨_,rfl⟩
   rw[←hBx]at XF hwl
   rw[←hBx]
   clear yT UT Fu Dg si hBx x0 x1
   have y0:w3.cell? ⟨Bx,0,none⟩=some (.string nm):=by rw[cell_of_row w3 _ _ _ _ _ XF];rfl
   have y1:w3.cell? ⟨Bx,1,none⟩=some (.int .i64 id):=by rw[cell_of_row w3 _ _ _ _ _ XF];rfl
   have N8:=bt zT xL
   by_cases k3:yf nm=0
   case neg=>
    have HR:Hid (yf nm=yG l o):=by
     unfold Hid
     rw[if_pos k3]at HD
     have e:uG o {data:=#[]} l=yf nm:=HD
     rw[HE.out,e,if_pos k3]
    have z1:(yf nm != 0)=true:=by simpa using k3
    clear k3
    go_wp2
    go_ret
    exact⟨zE HR.out,N8⟩
   have Mj:Hid (uG o {data:=#[]} l=if JO nm last then 4 else if xS o id≠0 then xS o id else uG o nm (l.drop (k+1))):=by
    unfold Hid
    rw[HD.out,if_neg (fun e=>e k3)]
   rw[k3]
   clear k3 HD
   by_cases k4:JO nm last=true
   ·have HR:Hid (4=yG l o):=by
     unfold Hid
     rw[HE.out,Mj.out,if_pos k4,if_pos (by decide)]
    have z2:(Op.bytesLess nm.toList last.toList||nm.toList==last.toList)=true:=k4
    clear k4
    go_wp2
    go_ret
    exact⟨zE HR.out,N8⟩
   ·have k4':JO nm last=false:=by simpa using k4
    have z2:(Op.bytesLess nm.toList last.toList||nm.toList==last.toList)=false:=k4'
    have LV:Hid (uG o {data:=#[]} l=if xS o id≠0 then xS o id else uG o nm (l.drop (k+1))):=by
     unfold Hid
     rw[Mj.out,if_neg k4]
    clear k4 k4' Mj
    go_wp2_with fail
    refine(fm ao co o id w3 gA K1.out).mono ?_
    rintro e w5 ⟨rfl,xu⟩
    have su:=bt xL xu
    have Gw:=bt zT su
    clear xu xL N8 gA y0 y1 XF hwl
    by_cases k5:xS o id=0
    case neg=>
     have HR:Hid (xS o id=yG l o):=by
      unfold Hid
      rw[HE.out,LV.out,if_pos k5,if_pos k5]
     have z3:(xS o id != 0)=true:=by simpa using k5
     clear k5
     go_wp2
     go_ret
     exact⟨zE HR.out,Gw⟩
    have HD3:Hid (uG o {data:=#[]} l=uG o nm (l.drop (k+1))):=by
     unfold Hid
     rw[LV.out,if_neg (fun e=>e k5)]
    rw[k5]
    clear k5 LV
    go_wp2
    go_roundw
    case rel=>exact⟨k+1,nm,rfl,by go_num,by omega,su,HD3⟩
    case measure=>simp[intOf];omega
  ·have sW:uG o {data:= #[]} l=0:=by rw[H.out,List.drop_of_length_le (by omega)];rfl
   have nb:Hid (yG l o=if l.any (kH l)then 6 else 0):=by unfold Hid;rw[HE.out,if_neg (fun e=>e sW)]
   have hn:=gx l _ sW
   have mP:=(hB.cell (p:=⟨w.heap.size,0,none⟩) RJ).trans qu
   have TC:=jt a c l (fun x hx=>by have:=pb (hn x hx);omega) w.heap.size wr (h1.below hB) hl mP (Nat.lt_of_lt_of_le RJ hB.size)
   clear sW hn HE H
   go_wp2_with fail
   refine TC.mono ?_
   clear TC
   rintro e w6 ⟨rfl,qY⟩
   have My:=bt qM qY
   clear qY mP
   cases hq:l.any (kH l)with
   |true=>
    have HR:Hid (6=yG l o):=by unfold Hid;rw[nb.out,if_pos hq]
    clear hq nb
    go_wp2
    go_ret
    exact⟨zE HR.out,My⟩
   |false=>
    have HR:Hid (0=yG l o):=by unfold Hid;rw[nb.out,if_neg (by rw[hq];decide)]
    clear hq nb
    go_wp2
    go_ret
    exact⟨zE HR.out,My⟩
theorem rx: ∀a b:List UInt8,Op.bytesLess a b=false→a≠b→Op.bytesLess b a=true
 |[],[],_,h=>absurd rfl h
 |_::_,[],_,_=>rfl
 |[],_::_,h,_=>by cases h
 |x::a,y::b,h,yM=>by
  simp only[Op.bytesLess,Bool.or_eq_false_iff,Bool.and_eq_false_iff,decide_eq_false_iff_not]at h
  simp only[Op.bytesLess,Bool.or_eq_true,Bool.and_eq_true,decide_eq_true_eq,beq_iff_eq]
  by_cases e:x=y
  ·subst e
   refine .inr ⟨rfl,rx a b ?_ (fun q=>yM (by rw[q]))⟩
   rcases h.2 with q|q
   ·simp at q
   ·exact q
  ·refine .inl ?_
   have h1:=h.1
   rw[UInt8.not_lt]at h1
   exact UInt8.lt_of_le_of_ne h1 (fun q=>e q.symm)
theorem vq: ∀a:List UInt8,Op.bytesLess a a=false
 |[]=>rfl
 |x::a=>by simp[Op.bytesLess,vq a]
theorem tL: ∀a b c:List UInt8,Op.bytesLess a b=true→Op.bytesLess b c=true→Op.bytesLess a c=true
 |a,[],_,h,_=>by cases a<;>simp[Op.bytesLess]at h
 |_,_::_,[],_,h=>by cases h
 |[],_::_,_::_,_,_=>rfl
 |x::a,y::b,z::c,h1,h2=>by
  simp only[Op.bytesLess,Bool.or_eq_true,Bool.and_eq_true,decide_eq_true_eq,beq_iff_eq]at h1 h2⊢
  rcases h1 with h1|⟨e1,h1⟩
  ·rcases h2 with h2|⟨e2,h2⟩
   ·exact .inl (UInt8.lt_trans h1 h2)
   ·rw[←e2];exact .inl h1
  ·rcases h2 with h2|⟨e2,h2⟩
   ·rw[e1];exact .inl h2
   ·exact .inr ⟨by rw[e1,e2],tL a b c h1 h2⟩
def tT(x y:ByteArray):Prop:=Op.bytesLess x.toList y.toList=true
theorem Yj{x y:ByteArray}:JO x y=false↔tT y x:=by
 unfold JO tT
 rw[Bool.or_eq_false_iff]
 constructor
 ·rintro⟨h1,h2⟩
  exact rx _ _ h1 (by simpa using h2)
 ·intro h
  have h1:Op.bytesLess x.toList y.toList=false:=by
   cases q:Op.bytesLess x.toList y.toList with
   |false=>rfl
   |true=>have:=tL _ _ _ q h;rw[vq]at this;cases this
  refine⟨h1,?_⟩
  cases q:x.toList==y.toList with
  |false=>rfl
  |true=>
   rw[beq_iff_eq]at q
   rw[q,vq]at h
   cases h
theorem tT.trans{x y z:ByteArray}(h1:tT x y)(h2:tT y z):tT x z:=tL _ _ _ h1 h2
theorem tT.ne{x y:ByteArray}(h:tT x y):(x.toList==y.toList)=false:=by
 cases q:x.toList==y.toList with
 |false=>rfl
 |true=>
  rw[beq_iff_eq]at q
  unfold tT at h
  rw[q,vq]at h
  cases h
theorem uI{o:List Ob}: ∀(l:List Rf) (last:ByteArray),uG o last l=0↔(∀r∈l,yf r.name=0∧xS o r.id=0∧tT last r.name)∧l.Pairwise (fun x y=>tT x.name y.name)
 |[],_=>by simp[uG]
 |x::l,last=>by
  rw[uG,List.pairwise_cons]
  constructor
  ·intro h
   split at h
   ·rename_i q;exact absurd h q
   rename_i q1
   split at h
   ·omega
   rename_i q2
   split at h
   ·rename_i q;exact absurd h q
   rename_i q3
   obtain⟨h1,h2⟩:=(uI l x.name).1 h
   have hx:tT last x.name:=Yj.1 (by simpa using q2)
   refine⟨fun r hr=>?_,fun y hy=>(h1 y hy).2.2,h2⟩
   rcases List.mem_cons.1 hr with rfl|hr
   ·exact⟨Classical.byContradiction q1,Classical.byContradiction q3,hx⟩
   ·exact⟨(h1 r hr).1,(h1 r hr).2.1,hx.trans (h1 r hr).2.2⟩
  ·rintro⟨h1,h2,h3⟩
   obtain⟨e1,e2,e3⟩:=h1 x (by simp)
   rw[if_neg (fun e=>e e1),if_neg (by rw[Yj.2 e3];decide),if_neg (fun e=>e e2)]
   exact(uI l x.name).2 ⟨fun r hr=>⟨(h1 r (by simp[hr])).1,(h1 r (by simp[hr])).2.1,h2 r hr⟩,h3⟩
theorem xc{l:List Rf}{o:List Ob}:yG l o=0↔zK o=0∧l.length≤8∧uG o {data:=#[]} l=0∧∀x∈l,∀y∈l,inPlace x.name y=false:=by
 unfold yG
 constructor
 ·intro h
  split at h
  ·rename_i q;exact absurd h q
  rename_i q1
  split at h
  ·omega
  split at h
  ·rename_i q;exact absurd h q
  rename_i q3
  split at h
  ·omega
  rename_i q4
  refine⟨Classical.byContradiction q1,by omega,Classical.byContradiction q3,fun x hx y hy=>?_⟩
  cases q:inPlace x.name y with
  |false=>rfl
  |true=>exact absurd (List.any_eq_true.2 ⟨x,hx,List.any_eq_true.2 ⟨y,hy,q⟩⟩) q4
 ·rintro⟨h1,h2,h3,h4⟩
  rw[if_neg (fun e=>e h1),if_neg (by omega),if_neg (fun e=>e h3),if_neg]
  intro q
  obtain⟨x,hx,q⟩:=List.any_eq_true.1 q
  obtain⟨y,hy,q⟩:=List.any_eq_true.1 q
  rw[h4 x hx y hy]at q
  cases q
theorem WT{l:List Rf}{o:List Ob}(h:yG l o=0){r:Rf}(hr:r∈l):yZ o r.id r.id=0∧xT o r.id r.id=true:=by
 obtain⟨hc,_,he,_⟩:=xc.1 h
 have hk:=(((uI _ _).1 he).1 r hr).2.1
 unfold xS at hk
 split at hk
 ·omega
 rename_i q1
 split at hk
 ·omega
 rename_i q2
 have Zt:tJ o r.id=3:=Classical.byContradiction q2
 obtain⟨x,hx,ex⟩:=yy.1 (show 0≤zW o r.id by omega)
 have AX:=(zh.1 hc).2.2
 have hC:gE o r.id:=⟨⟨x,hx,ex⟩,fun y hy ey=>by rw[←sH AX hy,ey];exact Zt⟩
 exact gy (vt.2 ⟨hc,hC,hC⟩)
theorem Tryz.info65:(Tryz.prog.info? 65).map (fun i=>(i.zero,i.size,i.bytes))=some (some (.agg #[.string {data:=#[]},.int .i64 0]),2,24):=by kernel_rfl
def Rf.cells(r:Rf):List Value:=[.string r.name,.int .i64 r.id]
def xM:List Rf→List Value
 |[]=>[]
 |r::rs=>r.cells++xM rs
theorem sj(A B:List Rf):xM (A++B)=xM A++xM B:=by
 induction A with
 |nil=>rfl
 |cons r A ih=>simp[xM,ih]
theorem va(A:List Rf):(xM A).length=A.length*2:=by
 induction A with
 |nil=>rfl
 |cons r A ih=>simp[xM,ih,Rf.cells];omega
theorem Xp(A:List Rf): ∀v∈xM A,v.oneCell'=true:=by
 induction A with
 |nil=>intro v h;cases h
 |cons r A ih=>
  intro v h
  rcases List.mem_append.1 h with h|h
  ·simp only[Rf.cells,List.mem_cons,List.not_mem_nil,or_false]at h
   rcases h with rfl|rfl<;>rfl
  ·exact ih v h
theorem pC(A:List Rf)(i j:Nat)(hi:i<A.length)(hj:j<2):(xM A)[i*2+j]? =(A[i].cells)[j]?:=by
 induction A generalizing i with
 |nil=>simp at hi
 |cons r A ih=>
  cases i with
  |zero=>
   simp only[xM,Nat.zero_mul,Nat.zero_add,List.getElem_cons_zero]
   exact List.getElem?_append_left (by simpa[Rf.cells]using hj)
  |succ i=>
   have:=ih i (by simpa using hi)
   rw[List.getElem_cons_succ,←this]
   simp only[xM]
   rw[List.getElem?_append_right (by simp[Rf.cells];omega)]
   congr 1
   simp[Rf.cells];omega
theorem TA{w:World}{b off:Nat}{m:List Rf}(h: ∀k (hk:k<m.length),S7 w b (off+k*2) m[k]): ∀j u,(xM m)[j]? =some u→w.cell? ((⟨b,off,none⟩:Addr).add j)=some u:=by
 intro j u hj
 have vd:(⟨b,off,none⟩:Addr).add j=⟨b,off+j,none⟩:=by unfold Addr.add;split<;>simp_all
 rw[vd]
 have zN:j<m.length*2:=by
  rcases Nat.lt_or_ge j (m.length*2)with q|q
  ·exact q
  ·rw[List.getElem?_eq_none (by rw[va];exact q)]at hj;cases hj
 have hk:j/2<m.length:=by omega
 have hr:=pC m (j/2) (j%2) hk (by omega)
 rw[show j/2*2+j%2=j by omega,hj]at hr
 obtain⟨c0,c1⟩:=h (j/2) hk
 rcases Nat.mod_two_eq_zero_or_one j with e|e
 ·rw[e]at hr
  rw[show off+j=off+j/2*2 by omega,c0]
  simpa[Rf.cells]using hr.symm
 ·rw[e]at hr
  rw[show off+j=off+j/2*2+1 by omega,c1]
  simpa[Rf.cells]using hr.symm
theorem LF(w:World)(base:Nat)(ty:TypeId)(v:Value)(xs:List Rf)(yj:w.ownsRow base 65 2 v xs.length (xM xs))(b off c:Nat)(m:List Rf)(h: ∀k (hk:k<m.length),S7 w b (off+k*2) m[k])(hlen:xs.length+m.length≤1000)(xq:base≤w.heap.size):
  ∃v' w',(Builtin.append_ #[34,34] ty #[v,.slice (some ⟨b,off,none⟩) m.length c]).run Tryz.prog w= .ok v' w'∧w'.ownsRow base 65 2 v' (xs++m).length (xM (xs++m))∧w.grownBy w' v.ownBlock:=by
 obtain⟨i0,sN,sW,xQ,pS⟩:=info_parts Tryz.info65
 obtain⟨v',w',hr,q1,q2,_⟩:=run_append_own (P:=Tryz.prog) w base 34 ty 65 i0 _ 2 24 Tryz.underlying34 sN sW xQ pS rfl (by omega) v xs.length (xM xs) yj ⟨b,off,none⟩ m.length c (xM m) (va m) (TA h) (Xp m) (by unfold maxLen;omega) (by omega) xq
 exact⟨v',w',hr,by rw[List.length_append,sj];exact q1,q2⟩
theorem qJ{w:World}{base:Nat}{v:Value}{xs:List Rf}(h:w.ownsRow base 65 2 v xs.length (xM xs)): ∃a c,v= .slice a xs.length c∧yU w a xs:=by
 rcases h.2 with⟨rfl,e⟩|⟨g,cap,cur,rfl,h1,h2,h3,h4,h5,h6⟩
 ·rw[e]
  exact⟨none,0,rfl,fun i hi=>by omega⟩
 ·refine⟨_,_,rfl,fun i hi=>⟨g,0,rfl,zG h2,fun k hk=>?_⟩⟩
  have hc: ∀j,j<2→w.cell? ⟨g,0+k*2+j,none⟩=(xs[k].cells)[j]?:=fun j hj=>by
   rw[Nat.zero_add,cell_of_row w g _ _ _ _ h2,←pC xs k j hk hj,←h6,List.getElem?_take,if_pos (by omega)]
   simp
  exact⟨by simpa[Rf.cells]using hc 0 (by omega),by simpa[Rf.cells]using hc 1 (by omega)⟩
end
end Go.Proofs.YtehmlpkapjdhkaaGreatDoor
