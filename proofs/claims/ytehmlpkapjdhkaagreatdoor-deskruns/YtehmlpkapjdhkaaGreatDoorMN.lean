import Derived.Test.YtehmlpkapjdhkaaGreatDoorMT
namespace Go.Proofs.YtehmlpkapjdhkaaGreatDoor
set_option maxHeartbeats 16000000
open Go.RowKit
set_option maxRecDepth 100000
theorem yg(n lo hi:Int)(w:World):
  Calls Tryz.prog 147 #[.int .i64 n,.int .i64 lo,.int .i64 hi] w fun e w'=>e= .returned (.bool (ur n lo hi))∧w'=w:=by
 go_enter Tryz.func147,Tryz.ntmps147
 go_wp2
 all_goals go_ret
 all_goals exact⟨by simp[ur];omega,rfl⟩
def sn(kind:Int)(L:List Int)(k:Nat):Int:=if k=0 then 0 else if kind=3∧k=1 then 0 else L.getD (k-1) 0
theorem eK{id kind:Int}{L:List Int}{k:Nat}{r:Int}(zN:k<L.length)(H:r=yR id kind k (sn kind L k) (L.drop k))(h:1≤L[k]∧L[k]<id)(h2:sn kind L k<L[k]):r=yR id kind (k+1) (sn kind L (k+1)) (L.drop (k+1)):=by
 have e:sn kind L (k+1)=if kind=3∧k=0 then sn kind L k else L[k]:=by
  unfold sn
  rw[if_neg (by omega),Nat.add_sub_cancel]
  by_cases h3:kind=3∧k=0
  ·rw[if_pos h3,if_pos (by omega),if_pos h3.2]
  ·rw[if_neg h3,if_neg (by omega)];simp[zN]
 rw[H,qW zN,yR,if_neg (by omega),if_neg (by omega),e]
theorem Wq{id kind:Int}{L:List Int}{k:Nat}{r:Int}(zN:k<L.length)(H:r=yR id kind k (sn kind L k) (L.drop k))(h:1≤L[k]∧L[k]<id)(hk:0<k)(hn: ¬(kind=3∧k=1))(h2:L[k]≤L.getD (k-1) 0):r=4:=by
 refine jI zN H h ?_
 rw[sn,if_neg (by omega),if_neg hn];exact h2
theorem MX{kind:Int}{L:List Int}{k:Nat}{x:Int}(hk:k=0∨(kind=3∧k=1))(h:1≤x):sn kind L k<x:=by
 unfold sn
 rcases hk with rfl|h3
 ·simp;omega
 ·rw[if_neg (by omega),if_pos h3];omega
theorem GW{kind:Int}{L:List Int}{k:Nat}{x:Int}(hk:0<k)(hn: ¬(kind=3∧k=1))(h:L.getD (k-1) 0<x):sn kind L k<x:=by
 rw[sn,if_neg (by omega),if_neg hn];exact h
theorem pD{x lo hi:Int}(h:lo≤x∧x≤hi):ur x lo hi=true:=by simp[ur,h]
theorem qL{x lo hi:Int}(h: ¬(lo≤x∧x≤hi)):ur x lo hi=false:=by simp only[ur,decide_eq_false_iff_not];exact h
def sq(w:World)(id kind:Int)(a:Option Addr)(c:Nat)(L:List Int)(t:ByteArray)(wr:World):Prop:=∃n,wr=(w.alloc (.cells #[.int .i64 id,.int .i64 kind,.slice a L.length c,.string t] 58)).drewN n
theorem sq.drewN{w:World}{id kind:Int}{a:Option Addr}{c:Nat}{L:List Int}{t:ByteArray}{wr:World}(h:sq w id kind a c L t wr)(m:Nat):sq w id kind a c L t (wr.drewN m):=by
 obtain⟨n,rfl⟩:=h
 exact⟨n+m,by simp⟩
theorem sq.c0{w:World}{id kind:Int}{a:Option Addr}{c:Nat}{L:List Int}{t:ByteArray}{wr:World}(h:sq w id kind a c L t wr):wr.cell? ⟨w.heap.size,0,none⟩=some (.int .i64 id):=by
 obtain⟨n,rfl⟩:=h
 simp[go_sem]
theorem sq.c1{w:World}{id kind:Int}{a:Option Addr}{c:Nat}{L:List Int}{t:ByteArray}{wr:World}(h:sq w id kind a c L t wr):wr.cell? ⟨w.heap.size,1,none⟩=some (.int .i64 kind):=by
 obtain⟨n,rfl⟩:=h
 simp[go_sem]
theorem sq.c2{w:World}{id kind:Int}{a:Option Addr}{c:Nat}{L:List Int}{t:ByteArray}{wr:World}(h:sq w id kind a c L t wr):wr.cell? ⟨w.heap.size,2,none⟩=some (.slice a L.length c):=by
 obtain⟨n,rfl⟩:=h
 simp[go_sem]
theorem sq.c3{w:World}{id kind:Int}{a:Option Addr}{c:Nat}{L:List Int}{t:ByteArray}{wr:World}(h:sq w id kind a c L t wr):wr.cell? ⟨w.heap.size,3,none⟩=some (.string t):=by
 obtain⟨n,rfl⟩:=h
 simp[go_sem]
theorem sq.below{w:World}{id kind:Int}{a:Option Addr}{c:Nat}{L:List Int}{t:ByteArray}{wr:World}(h:sq w id kind a c L t wr):Below w.heap.size w wr:=by
 obtain⟨n,rfl⟩:=h
 exact yB (zB _ _) n
theorem sq.link{w:World}{id kind:Int}{a:Option Addr}{c:Nat}{L:List Int}{t:ByteArray}{wr:World}(hS:sq w id kind a c L t wr)(h:yD w a L){k:Nat}(zN:k<L.length):
  ∀b off,a=some ⟨b,off,none⟩→wr.cell? ⟨b,off+k,none⟩=some (.int .i64 (L.getD k 0)):=by
 intro b off e
 obtain⟨b',kQ,e',_,hc⟩:=h.below hS.below k zN
 rw[e]at e'
 cases e'
 exact hc k zN
theorem sO(id kind:Int)(a:Option Addr)(c:Nat)(L:List Int)(t:ByteArray)(w:World)
  (h:yD w a L) (l:L.length≤9223372036854775807):
  Calls Tryz.prog 118 #[.agg #[.int .i64 id,.int .i64 kind,.slice a L.length c,.string t]] w
   fun e w'=>e= .returned (.int .i64 (xC id kind L t.size))∧Below w.heap.size w w':=by
 have h':=h.below (zB w (.cells #[.int .i64 id,.int .i64 kind,.slice a L.length c,.string t] 58))
 have hB:=zB w (.cells #[.int .i64 id,.int .i64 kind,.slice a L.length c,.string t] 58)
 go_enter Tryz.func118,Tryz.ntmps118
 go_wp2_with fail
 refine(yg id 1 99 _).mono ?_
 rintro e w1 ⟨rfl,rfl⟩
 by_cases hid:1≤id∧id≤99
 ·rw[pD hid]
  go_wp2_with fail
  refine(yg kind 1 3 _).mono ?_
  rintro e w1 ⟨rfl,rfl⟩
  by_cases XB:1≤kind∧kind≤3
  ·rw[pD XB]
   by_cases ei:(4:Int)<(L.length:Int)∨(8:Int)<(t.size:Int)
   ·go_wp2_with fail
    all_goals (go_ret;exact⟨zE (YV hid XB ei).symm,hB⟩)
   ·have br:(L.length:Int)≤4∧(t.size:Int)≤8:=by omega
    have FJ:=br.1
    have CK:=br.2
    have hd1:decide ((4:Int)<(L.length:Int))=false:=by simp;omega
    have Aa:decide ((8:Int)<(t.size:Int))=false:=by simp;omega
    clear ei
    go_wp2_with fail
    have S0:sq w id kind a c L t (w.alloc (.cells #[.int .i64 id,.int .i64 kind,.slice a L.length c,.string t] 58)):=⟨0,rfl⟩
    go_loopw [3] (fun i wr=>∃k:Nat,i= .int .i64 k∧k≤L.length∧Hid (yR id kind 0 0 L=yR id kind k (sn kind L k) (L.drop k))∧sq w id kind a c L t wr) (fun i _=>L.length-(intOf i).toNat)
    case atStart=>exact⟨0,rfl,Nat.zero_le _,rfl,S0⟩
    case round=>
     clear S0 h' hB
     obtain⟨k,rfl,hk,H,HW⟩:=hrel
     have q0:=HW.c0
     have q1:=HW.c1
     have q2:=HW.c2
     by_cases zN:k<L.length
     ·have hc:=HW.link h zN
      have vg:(k:Int)<(L.length:Int):=by omega
      have ri:IntKind.i64.wrap (id-1)=id-1:=by simp[IntKind.wrap,IntKind.bits,IntKind.signed];omega
      obtain⟨b1,o1,rfl,_,_⟩:=h k zN
      have xa:wr.cell? ⟨b1,o1+k,none⟩=some (.int .i64 L[k]):=by have:=hc b1 o1 rfl;simpa[zN]using this
      by_cases fT:1≤L[k]∧L[k]<id
      ·have hbt:ur L[k] 1 (id-1)=true:=pD (by omega)
       by_cases h0:k=0
       ·have hg:decide (0<k)=false:=by simp;omega
        have HH:Hid (yR id kind 0 0 L=yR id kind (k+1) (sn kind L (k+1)) (L.drop (k+1))):=eK zN H.out fT (MX (Or.inl h0) fT.1)
        clear h0 hc
        go_wp2
        go_quiet ((go_at_call 147;exact Calls.quiet_of_same (yg _ _ _ _)))
        go_wp2
        go_quiet (fail)
        go_wp2
        go_roundw
        case rel=>exact⟨k+1,by go_num,by omega,HH,HW.drewN _⟩
        case measure=>simp[intOf];omega
       ·have hg:decide (0<k)=true:=by simp;omega
        have Pk:0<k:=by omega
        have hp:wr.cell? ⟨b1,o1+(k-1),none⟩=some (.int .i64 (L.getD (k-1) 0)):=HW.link h (show k-1<L.length by omega) b1 o1 rfl
        have hi1:(0:Int)≤(k:Int)-1:=by omega
        have J3:(k:Int)-1<(L.length:Int):=by omega
        by_cases h3:kind=3
        ·have e3:(kind==3)=true:=by simpa using h3
         by_cases h1:k=1
         ·have e1:((k:Int)==1)=true:=by simp;omega
          have HH:Hid (yR id kind 0 0 L=yR id kind (k+1) (sn kind L (k+1)) (L.drop (k+1))):=eK zN H.out fT (MX (Or.inr ⟨h3,h1⟩) fT.1)
          clear h0 hc h3 h1
          go_wp2
          go_quiet ((go_at_call 147;exact Calls.quiet_of_same (yg _ _ _ _)))
          go_wp2
          go_quiet (fail)
          go_wp2
          go_roundw
          case rel=>exact⟨k+1,by go_num,by omega,HH,HW.drewN _⟩
          case measure=>simp[intOf];omega
         ·have e1:((k:Int)==1)=false:=by simp;omega
          have hn: ¬(kind=3∧k=1):=fun e=>h1 e.2
          generalize hy:L.getD (k-1) 0=y at *
          by_cases hy2:L[k]≤y
          ·have e4:yR id kind 0 0 L=4:=Wq zN H.out fT Pk hn (by rw[hy];exact hy2)
           have HR:Hid (xC id kind L t.size=4):=by unfold Hid;rw[jc hid XB br (by rw[e4];decide),e4]
           clear hc e4 hy h3
           go_wp2
           go_quiet ((go_at_call 147;exact Calls.quiet_of_same (yg _ _ _ _)))
           go_wp2
           go_quiet (fail)
           go_wp2
           go_ret
           exact⟨zE HR.out.symm,((HW.drewN _).drewN _).below⟩
          ·have HH:Hid (yR id kind 0 0 L=yR id kind (k+1) (sn kind L (k+1)) (L.drop (k+1))):=eK zN H.out fT (GW Pk hn (by rw[hy];omega))
           clear hc hy h3
           go_wp2
           go_quiet ((go_at_call 147;exact Calls.quiet_of_same (yg _ _ _ _)))
           go_wp2
           go_quiet (fail)
           go_wp2
           go_roundw
           case rel=>exact⟨k+1,by go_num,by omega,HH,HW.drewN _⟩
           case measure=>simp[intOf];omega
        ·have e3:(kind==3)=false:=by simpa using h3
         have hn: ¬(kind=3∧k=1):=fun e=>h3 e.1
         generalize hy:L.getD (k-1) 0=y at *
         by_cases hy2:L[k]≤y
         ·have e4:yR id kind 0 0 L=4:=Wq zN H.out fT Pk hn (by rw[hy];exact hy2)
          have HR:Hid (xC id kind L t.size=4):=by unfold Hid;rw[jc hid XB br (by rw[e4];decide),e4]
          clear hc e4 hy h3
          go_wp2
          go_quiet ((go_at_call 147;exact Calls.quiet_of_same (yg _ _ _ _)))
          go_wp2
          go_quiet (fail)
          go_wp2
          go_ret
          exact⟨zE HR.out.symm,((HW.drewN _).drewN _).below⟩
         ·have HH:Hid (yR id kind 0 0 L=yR id kind (k+1) (sn kind L (k+1)) (L.drop (k+1))):=eK zN H.out fT (GW Pk hn (by rw[hy];omega))
          clear hc hy h3
          go_wp2
          go_quiet ((go_at_call 147;exact Calls.quiet_of_same (yg _ _ _ _)))
          go_wp2
          go_quiet (fail)
          go_wp2
          go_roundw
          case rel=>exact⟨k+1,by go_num,by omega,HH,HW.drewN _⟩
          case measure=>simp[intOf];omega
      ·have hbf:ur L[k] 1 (id-1)=false:=qL (by omega)
       have e4:yR id kind 0 0 L=3:=qK zN H.out (by omega)
       have HR:Hid (xC id kind L t.size=3):=by unfold Hid;rw[jc hid XB br (by rw[e4];decide),e4]
       clear hc e4
       go_wp2
       go_quiet ((go_at_call 147;exact Calls.quiet_of_same (yg _ _ _ _)))
       go_wp2
       go_ret
       exact⟨zE HR.out.symm,(HW.drewN _).below⟩
     ·have e4:yR id kind 0 0 L=0:=Ul hk zN H.out
      have HZ:Hid (yR id kind 0 0 L=0):=e4
      have q3:=HW.c3
      clear e4 H
      by_cases k1:kind=1
      ·subst k1
       cases L with
       |nil=>
        go_wp2
        go_ret
        exact⟨zE (aj hid XB br HZ.out (by simp)).symm,HW.below⟩
       |cons x xs=>
        have bT: ¬((k:Int)<(xs.length:Int)+1):=by simp at zN;omega
        go_wp2
        go_ret
        exact⟨zE (eN hid XB br HZ.out (by simp)).symm,HW.below⟩
      ·by_cases k3:kind=3
       ·subst k3
        cases L with
        |nil=>
         go_wp2
         go_ret
         exact⟨zE (eN hid XB br HZ.out (by simp)).symm,HW.below⟩
        |cons x xs=>
         have yM:(((x::xs).length:Int)==0)=false:=by simp;omega
         have MC:((xs.length:Int)+1==0)=false:=by simp;omega
         have bT: ¬((k:Int)<(xs.length:Int)+1):=by simp at zN;omega
         go_wp2
         go_ret
         exact⟨zE (aj hid XB br HZ.out (by simp)).symm,HW.below⟩
       ·have e1:(kind==1)=false:=by simpa using k1
        have e3:(kind==3)=false:=by simpa using k3
        go_wp2
        go_ret
        exact⟨zE (aj hid XB br HZ.out (by omega)).symm,HW.below⟩
  ·rw[qL XB]
   go_wp2
   go_ret
   exact⟨zE (YN hid (by omega)).symm,hB⟩
 ·rw[qL hid]
  go_wp2
  go_ret
  exact⟨zE (bL (by omega)).symm,hB⟩
def yS:List Ob→Int→Int
 |[],_=>0
 |o::r,x=>if o.id=x then o.kind else yS r x
theorem cB{l:List Ob}{k:Nat}(x:Int)(hk:k<l.length):yS (l.drop k) x=if l[k].id=x then l[k].kind else yS (l.drop (k+1)) x:=by
 rw[List.drop_eq_getElem_cons hk,yS]
theorem ju{x:Int}: ∀{l:List Ob},yS l x≠0→∃i,∃h:i<l.length,l[i].id=x∧(∀j (hj:j<l.length),j<i→l[j].id≠x)∧yS l x=l[i].kind
 |[],h=>absurd rfl h
 |o::r,h=>by
  unfold yS at h⊢
  by_cases c:o.id=x
  ·rw[if_pos c]
   exact⟨0,by simp,c,fun j _ hj=>absurd hj (Nat.not_lt_zero j),rfl⟩
  ·rw[if_neg c]at h⊢
   obtain⟨i,hi,e1,e2,e3⟩:=ju h
   refine⟨i+1,by simp;omega,e1,fun j hj Vp=>?_,e3⟩
   cases j with
   |zero=>exact c
   |succ j=>exact e2 j (by simp at hj;omega) (by omega)
theorem QP{l:List Ob}{n:Nat}{x:Int}(h:yS (l.take n) x≠0): ∃i,∃h:i<l.length,i<n∧zW l x=i∧tJ l x=l[i].kind∧yS (l.take n) x=l[i].kind:=by
 obtain⟨i,hi,e1,e2,e3⟩:=ju h
 rw[List.length_take]at hi
 have Vc:i<l.length:=by omega
 rw[List.getElem_take]at e1 e3
 have hp:zW l x=i:=sg Vc (fun j hj Vp=>by
  have:=e2 j (by rw[List.length_take];omega) Vp
  rw[List.getElem_take]at this
  simpa using this) (by simpa using e1)
 refine⟨i,Vc,by omega,hp,?_,e3⟩
 unfold tJ
 rw[hp]
 simp[Vc]
def PX(kind:Int)(k:Nat)(tk:Int):Prop:=¬(kind=2∧tk=3)∧¬(kind=3∧k=0∧tk≠2)∧¬(kind=3∧0<k∧tk≠3)
theorem ca(a:Option Addr)(c:Nat)(l:List Ob)(id:Int)(w:World)(h:zP w a l)(hl:l.length≤9223372036854775807):
  Calls Tryz.prog 119 #[.slice a l.length c,.int .i64 id] w fun e w'=>e= .returned (.int .i64 (yS l id))∧w'=w:=by
 go_enter Tryz.func119,Tryz.ntmps119
 go_wp2
 go_loop [5] (fun i=>∃k:Nat,i= .int .i64 k∧k≤l.length∧Hid (yS l id=yS (l.drop k) id)) (fun i=>l.length-(intOf i).toNat)
 case atStart=>exact⟨0,rfl,Nat.zero_le _,rfl⟩
 case round=>
  obtain⟨k,rfl,hk,H⟩:=hrel
  by_cases zN:k<l.length
  ·obtain⟨b,off,rfl,hb,hc⟩:=h k zN
   obtain⟨sa,sc,x0,x1,_⟩:=hc k zN
   clear hc
   by_cases hq:l[k].id=id
   ·have HR:Hid (yS l id=l[k].kind):=H.out.trans ((cB id zN).trans (if_pos hq))
    have rU:(l[k].id==id)=true:=by simpa using hq
    clear hq
    go_wp2
    go_ret
    exact⟨zE HR.out.symm,rfl⟩
   ·have HN:Hid (yS l id=yS (l.drop (k+1)) id):=H.out.trans ((cB id zN).trans (if_neg hq))
    have rU:(l[k].id==id)=false:=by simpa using hq
    clear hq
    go_wp2
    go_round
    case rel=>exact⟨k+1,by go_num,by omega,HN⟩
    case measure=>simp[intOf];omega
  ·have HR:Hid (yS l id=0):=by unfold Hid;rw[H.out,List.drop_of_length_le (by omega)];rfl
   go_wp2
   go_ret
   exact⟨zE HR.out.symm,rfl⟩
theorem fN(a:Option Addr)(c:Nat)(l:List Ob)(k:Nat)(hk:k≤l.length)(id:Int)(w:World)(h:zP w a l)(hl:l.length≤9223372036854775807):
  Calls Tryz.prog 119 #[.slice a k c,.int .i64 id] w fun e w'=>e= .returned (.int .i64 (yS (l.take k) id))∧w'=w:=by
 have:=ca a c (l.take k) id w (di h k) (by rw[List.length_take];omega)
 rwa[List.length_take,Nat.min_eq_left hk]at this
def xB(l:List Ob)(id:Int):Int:=if yS l id=0 then 5 else if yS l id≠3 then 7 else 0
theorem jM{l:List Ob}{id:Int}(h:xB l id=0):yS l id=3:=by
 unfold xB at h
 by_cases h0:yS l id=0
 ·rw[if_pos h0]at h;cases h
 ·rw[if_neg h0]at h
  exact Classical.byContradiction fun q=>by rw[if_pos q]at h;cases h
theorem fS(a:Option Addr)(c:Nat)(l:List Ob)(id:Int)(w:World)(h:zP w a l)(hl:l.length≤9223372036854775807):
  Calls Tryz.prog 121 #[.slice a l.length c,.int .i64 id] w fun e w'=>e= .returned (.int .i64 (xB l id))∧w'=w:=by
 go_enter Tryz.func121,Tryz.ntmps121
 go_wp2_with fail
 refine(ca a c l id w h hl).mono ?_
 rintro e w1 ⟨rfl,rfl⟩
 by_cases h0:yS l id=0
 ·have HR:Hid (xB l id=5):=by unfold Hid xB;rw[if_pos h0]
  rw[h0]
  clear h0
  go_wp2
  go_ret
  exact⟨zE HR.out.symm,rfl⟩
 ·by_cases h3:yS l id=3
  ·have HR:Hid (xB l id=0):=by unfold Hid xB;rw[if_neg h0,if_neg (fun e=>e h3)]
   rw[h3]
   clear h0 h3
   go_wp2
   go_ret
   exact⟨zE HR.out.symm,rfl⟩
  ·have HR:Hid (xB l id=7):=by unfold Hid xB;rw[if_neg h0,if_pos h3]
   have z1:(yS l id==0)=false:=by simpa using h0
   have z2:(yS l id != 3)=true:=by simpa using h3
   clear h0 h3
   go_wp2
   go_ret
   exact⟨zE HR.out.symm,rfl⟩
def Dr(w w':World):Prop:=∃n,w'=w.drewN n
theorem Dr.refl(w:World):Dr w w:=⟨0,rfl⟩
theorem Dr.drewN{w w':World}(h:Dr w w')(m:Nat):Dr w (w'.drewN m):=by
 obtain⟨n,rfl⟩:=h
 exact⟨n+m,by simp⟩
theorem Dr.below{w w':World}(h:Dr w w'):Below w.heap.size w w':=by
 obtain⟨n,rfl⟩:=h
 exact yB (Below.refl _ _) n
def tp(a b:ByteArray):Bool:=if h:a.size<b.size then decide ((b.extract 0 a.size).toList=a.toList)&&((((b[a.size]'h).toNat:Nat):Int)==47)else false
theorem Pp(a b:ByteArray)(w:World):
  Calls Tryz.prog 122 #[.string a,.string b] w fun e w'=>e= .returned (.bool (tp a b))∧w'=w:=by
 go_enter Tryz.func122,Tryz.ntmps122
 by_cases hs:(a.size:Int)<(b.size:Int)
 case neg=>
  have HR:Hid (tp a b=false):=by unfold Hid tp;rw[dif_neg (by omega)]
  go_wp2
  go_ret
  exact⟨yI HR.out.symm,rfl⟩
 have hs':a.size<b.size:=by omega
 have HR:Hid (tp a b=(decide ((b.extract 0 a.size).toList=a.toList)&&((((b[a.size]'hs').toNat:Nat):Int)==47))):=by unfold Hid tp;rw[dif_pos hs']
 go_wp2
 ·go_ret
  refine⟨yI ?_,rfl⟩
  rw[HR.out,decide_eq_true ‹(b.extract 0 a.size).toList=a.toList›,Bool.true_and]
 ·go_ret
  refine⟨yI ?_,rfl⟩
  rw[HR.out,decide_eq_false ‹¬(b.extract 0 a.size).toList=a.toList›,Bool.false_and]
theorem pY(s:ByteArray):s.toList.length=s.size:=by rw[ByteArray.toList_eq,Array.length_toList];rfl
theorem VC(b:UInt8):wrap64 ((b.toNat:Nat):Int)=((b.toNat:Nat):Int):=by
 have:=b.toNat_lt
 simp[wrap64];omega
theorem Te{o:List Ob}{id:Int}(h:yS o id=3):xS o id=0:=by
 have h':yS (o.take o.length) id=3:=by rwa[List.take_length]
 obtain⟨i,hi,_,e1,e2,e3⟩:=QP (n:=o.length) (by rw[h'];decide)
 unfold xS
 rw[e1,if_neg (by omega),e2,←e3,h']
 rfl
def Bp(o:List Ob)(l:List Rf)(k:Nat):Prop:=∀i (_:i<l.length),i<k→yS o l[i].id=3
theorem Bp.next{o:List Ob}{l:List Rf}{k:Nat}(h:Bp o l k)(hk:k<l.length)(h1:yS o l[k].id=3):Bp o l (k+1):=fun j hj hjk=>by
 rcases Nat.lt_or_ge j k with c|c
 ·exact h j hj c
 ·obtain rfl:j=k:=by omega
  exact h1
theorem aq{s:ByteArray}(h:yf s=0):tT {data:=#[]} s:=by
 unfold tT
 have h0:s.toList≠[]:=fun e=>by
  have:s={data:=#[]}:=by
   cases s with|mk d=>cases d with|mk l=>simp[ByteArray.toList_eq]at e;subst e;rfl
  subst this
  have h1:yf {data:=#[]}=1:=by decide +kernel
  rw[h1]at h
  cases h
 cases hs:s.toList with
 |nil=>exact absurd hs h0
 |cons c r=>rw[ByteArray.toList_eq];rfl
theorem N0{l:List Rf}{o:List Ob}(hs:zK o=0)(h8:l.length≤8)(hn: ∀r∈l,yf r.name=0)(hsort:te l)(hc:Bp o l l.length)(hp: ∀x∈l,∀y∈l,inPlace x.name y=false):yG l o=0:=
 xc.2 ⟨hs,h8,(uI _ _).2 ⟨fun r hr=>⟨hn r hr,by obtain⟨i,hi,rfl⟩:=List.getElem_of_mem hr;exact Te (hc i hi hi),aq (hn r hr)⟩,hsort⟩,hp⟩
theorem U7{a:ByteArray}{y:Rf}(h:inPlace a y=true):tp a y.name=true:=by
 unfold inPlace Lib.hasPrefix at h
 rw[List.isPrefixOf_iff_prefix]at h
 obtain⟨t,ht⟩:=h
 have e:y.name.toList=a.toList++(47::t):=by
  have:(a++nI).data.toList=a.data.toList++[47]:=by
   rw[ByteArray.data_append,Array.toList_append]
  rw[this]at ht
  simpa[ByteArray.toList_eq]using ht.symm
 have hs:a.size=a.toList.length:=(pY a).symm
 have mx:y.name.size=y.name.toList.length:=(pY y.name).symm
 have zN:a.size<y.name.size:=by rw[hs,mx,e,List.length_append];simp
 unfold tp
 rw[dif_pos zN,Bool.and_eq_true]
 refine⟨decide_eq_true ?_,?_⟩
 ·have:(y.name.extract 0 a.size).toList=y.name.toList.take a.size:=by simp[ByteArray.toList_eq]
  rw[this,e,hs,List.take_left]
 ·have h1:y.name.toList[a.size]? =some 47:=by rw[e,hs];simp
  have h2:y.name[a.size]=47:=by
   rw[ByteArray.toList_eq]at h1
   have hd:a.size<y.name.data.size:=zN
   have h4:y.name.data[a.size]? =some 47:=by simpa using h1
   rw[Array.getElem?_eq_getElem hd]at h4
   have h3:y.name.data[a.size]=47:=Option.some.inj h4
   exact h3
  rw[h2];rfl
def gW(l:List Rf)(i:Nat):Prop:=∀x (hx:x<l.length),x<i→∀y (hy:y<l.length),tp l[x].name l[y].name=false
def gg(l:List Rf)(n:ByteArray)(t:Nat):Prop:=∀y (hy:y<l.length),y<t→tp n l[y].name=false
theorem gg.next{l:List Rf}{n:ByteArray}{t:Nat}(h:gg l n t)(ht:t<l.length)(h1:tp n l[t].name=false):gg l n (t+1):=fun j hj hjk=>by
 rcases Nat.lt_or_ge j t with c|c
 ·exact h j hj c
 ·obtain rfl:j=t:=by omega
  exact h1
theorem gW.next{l:List Rf}{k:Nat}(h:gW l k)(hk:k<l.length)(h1:gg l l[k].name l.length):gW l (k+1):=fun j hj hjk=>by
 rcases Nat.lt_or_ge j k with c|c
 ·exact h j hj c
 ·obtain rfl:j=k:=by omega
  exact fun y hy=>h1 y hy hy
theorem Tp{l:List Rf}(h:gW l l.length): ∀x∈l,∀y∈l,tp x.name y.name=false:=fun x hx y hy=>by
 obtain⟨i,hi,rfl⟩:=List.getElem_of_mem hx
 obtain⟨j,hj,rfl⟩:=List.getElem_of_mem hy
 exact h i hi hi j hj
theorem tg(a:Option Addr)(c:Nat)(l:List Ob)(id:Int)(w:World)(h:zP w a l)(hl:l.length≤9223372036854775807):
  Calls Tryz.prog 246 #[.slice a l.length c,.int .i64 id] w fun e w'=>e= .returned (.int .i64 (zW l id))∧Below w.heap.size w w':=by
 go_enter Tryz.func246,Tryz.ntmps246
 go_wp2
 go_loopw [5] (fun i wr=>∃k:Nat,i= .int .i64 k∧k≤l.length∧Below w.heap.size w wr∧Hid (∀j (hj:j<l.length),j<k→(l[j].id==id)=false)) (fun i _=>l.length-(intOf i).toNat)
 case atStart=>exact⟨0,rfl,Nat.zero_le _,Below.refl _ _,fun j _ h=>absurd h (Nat.not_lt_zero j)⟩
 case round=>
  obtain⟨k,rfl,hk,hB,H⟩:=hrel
  by_cases zN:k<l.length
  ·have vg:(k:Int)<(l.length:Int):=by omega
   obtain⟨b,off,rfl,hb,hc⟩:=(h.below hB) k zN
   obtain⟨sa,sc,x0,-,-,-,-,-⟩:=hc k zN
   clear hc
   cases hq:(l[k].id==id)with
   |true=>
    have HR:Hid (zW l id=k):=sg zN H.out hq
    go_wp2
    go_ret
    exact⟨zE HR.out.symm,hB⟩
   |false=>
    have HN:Hid (∀j (hj:j<l.length),j<k+1→(l[j].id==id)=false):=fun j hj hjk=>by
     rcases Nat.lt_or_ge j k with h1|h1
     ·exact H.out j hj h1
     ·have:j=k:=by omega
      subst this
      exact hq
    go_wp2
    go_roundw
    case rel=>exact⟨k+1,by go_num,by omega,hB,HN⟩
    case measure=>simp[intOf];omega
  ·have HR:Hid (zW l id= -1):=pm (fun j hj=>H.out j hj (by omega))
   go_wp2
   go_ret
   exact⟨zE HR.out.symm,hB⟩
def zu(q:Rq):Rq:=⟨⟨q.r.s,q.r.l,q.r.g,0,[],[],false⟩,q.aS,q.cs,q.al,q.cl,none,0,none,0⟩
theorem UR(q:Rq)(w:World):Calls Tryz.prog 149 #[q.val] w fun e w'=>e= .returned (zu q).val∧Below w.heap.size w w':=by
 have hA:=zV w q.blk (zu q).blk
 obtain⟨k1,k2⟩:=ye w q.blk (zu q).blk
 obtain⟨y0,y1,y2,y3,y4,y5,y6⟩:=zI k1
 obtain⟨x0,x1,x2,x3,x4,x5,x6⟩:=zI k2
 go_enter Tryz.func149,Tryz.ntmps149
 go_wp2
 refine bodyPost_ret (v:=(zu q).val) (by simp[results,Tryz.results149,go_sem,zu]) rfl ?_
 exact⟨rfl,hA⟩
theorem UU(gs:List Int):za gs 1=0:=by
 show(if gs.getD (za gs 0) 0<gs.getD 0 0 then 0 else za gs 0)=0
 split<;>rfl
theorem TV(a:Option Addr)(c:Nat)(l:List Rq)(w:World)(h:zy w a l)(h0:0<l.length)(hl:l.length≤1000):
  Calls Tryz.prog 151 #[.agg #[.slice a l.length c]] w fun e w'=>e= .returned (.int .i64 (za (yu l) l.length:Nat))∧Below w.heap.size w w':=by
 have hA:=zB w (.cells #[.slice a l.length c] 24)
 have k1:=heap_alloc_new w (.cells #[.slice a l.length c] 24)
 have h1:=h.below hA
 obtain⟨b,off,rfl⟩:=h.some h0
 go_enter Tryz.func151,Tryz.ntmps151
 go_wp2_with fail
 generalize w.alloc (.cells #[.slice (some ⟨b,off,none⟩) l.length c] 24)=W0 at *
 go_loopw [3,4] (fun z i wr=>∃k:Nat,i= .int .i64 k∧z= .int .i64 (za (yu l) k:Nat)∧1≤k∧k≤l.length∧Below W0.heap.size W0 wr) (fun _ i _=>l.length-(intOf i).toNat)
 case atStart=>exact⟨1,rfl,by rw[UU];rfl,Nat.le_refl _,h0,Below.refl _ _⟩
 case round=>
  obtain⟨k,rfl,rfl,xa,hk,px⟩:=hrel
  have vH:=bt hA px
  have kC:=zA5 px k1
  have y1:=zJ kC
  by_cases zN:k<l.length
  case neg=>
   have xl:k=l.length:=by omega
   have HR:Hid (za (yu l) k=za (yu l) l.length):=by rw[xl];exact rfl
   have vg: ¬(k:Int)<(l.length:Int):=by omega
   clear xl hk xa
   generalize za (yu l) k=B at *
   go_wp2
   go_ret
   exact⟨zE (congrArg Int.ofNat HR.out),vH⟩
  have vg:(k:Int)<(l.length:Int):=by omega
  have hb:za (yu l) k<l.length:=by
   have:=pN (yu l) k l.length (by omega) hk
   exact this
  have dw:((za (yu l) k:Nat):Int)<(l.length:Int):=by omega
  have HS:Hid (za (yu l) (k+1)=if l[za (yu l) k].r.g<l[k].r.g then k else za (yu l) k):=by
   show(if(yu l).getD (za (yu l) k) 0<(yu l).getD k 0 then k else za (yu l) k)=_
   rw[Zu hb,Zu zN]
  have hQ:=h1.below px
  go_upto_region 5 with fail
  clear y1
  generalize za (yu l) k=B at *
  have zk:=zU wr
  have zX:=bt vH zk
  have fs:=zA5 zk kC
  have T7:=hQ.below zk
  have C0:=bt px zk
  have KN:=zk.size
  clear kC hQ px zk vH
  refine zS (fun W=>(W.heap[w.heap.size]? =some (.cells #[.slice (some ⟨b,off,none⟩) l.length c] 24))∧(zy W (some ⟨b,off,none⟩) l)) (fun _=>false) (by kernel_rfl) ⟨fs,T7⟩ (fun hS=>?_)
  clear hS
  generalize wr.drew=LR at *
  refine zAB 0 ?_ rfl ?_ ⟨fs,T7⟩ ?_;rotate_left
  ·intro w zD;obtain⟨s1,s2⟩:=zD;have e1:=zJ s1;have x2:=(s2.at zN).1.x2;have u2:=(s2.at hb).1.x2;clear s1 s2;go_simp;rfl
  try simp only[tn]
  refine zAB 2 ?_ rfl ?_ ⟨fs,T7⟩ ?_;rotate_left
  ·intro w zD;obtain⟨s1,s2⟩:=zD;have e1:=zJ s1;have x2:=(s2.at zN).1.x2;have u2:=(s2.at hb).1.x2;clear s1 s2;go_simp;rfl
  try simp only[tn]
  refine zAB 6 ?_ rfl ?_ ⟨fs,T7⟩ ?_;rotate_left
  ·intro w zD;obtain⟨s1,s2⟩:=zD;have e1:=zJ s1;have x2:=(s2.at zN).1.x2;have u2:=(s2.at hb).1.x2;clear s1 s2;go_simp;rfl
  try simp only[tn]
  refine zAB 8 ?_ rfl ?_ ⟨fs,T7⟩ ?_;rotate_left
  ·intro w zD;obtain⟨s1,s2⟩:=zD;have e1:=zJ s1;have x2:=(s2.at zN).1.x2;have u2:=(s2.at hb).1.x2;clear s1 s2;go_simp;rfl
  try simp only[tn]
  refine zAB 1 ?_ rfl ?_ ⟨fs,T7⟩ ?_;rotate_left
  ·intro w zD;obtain⟨s1,s2⟩:=zD;have e1:=zJ s1;have x2:=(s2.at zN).1.x2;have u2:=(s2.at hb).1.x2;clear s1 s2;go_simp;rfl
  try simp only[tn]
  refine zAB 7 ?_ rfl ?_ ⟨fs,T7⟩ ?_;rotate_left
  ·intro w zD;obtain⟨s1,s2⟩:=zD;have e1:=zJ s1;have x2:=(s2.at zN).1.x2;have u2:=(s2.at hb).1.x2;clear s1 s2;go_simp;rfl
  try simp only[tn]
  refine zAB 3 ?_ rfl ?_ ⟨fs,T7⟩ ?_;rotate_left
  ·intro w zD;obtain⟨s1,s2⟩:=zD;have e1:=zJ s1;have x2:=(s2.at zN).1.x2;have u2:=(s2.at hb).1.x2;clear s1 s2;go_simp;rfl
  try simp only[tn]
  refine zAB 9 ?_ rfl ?_ ⟨fs,T7⟩ ?_;rotate_left
  ·intro w zD;obtain⟨s1,s2⟩:=zD;have e1:=zJ s1;have x2:=(s2.at zN).1.x2;have u2:=(s2.at hb).1.x2;clear s1 s2;go_simp;rfl
  try simp only[tn]
  refine zAB 4 ?_ rfl ?_ ⟨fs,T7⟩ ?_;rotate_left
  ·intro w zD;obtain⟨s1,s2⟩:=zD;have e1:=zJ s1;have x2:=(s2.at zN).1.x2;have u2:=(s2.at hb).1.x2;clear s1 s2;go_simp;rfl
  try simp only[tn]
  refine zAB 10 ?_ rfl ?_ ⟨fs,T7⟩ ?_;rotate_left
  ·intro w zD;obtain⟨s1,s2⟩:=zD;have e1:=zJ s1;have x2:=(s2.at zN).1.x2;have u2:=(s2.at hb).1.x2;clear s1 s2;go_simp;rfl
  try simp only[tn]
  refine zAB 5 ?_ rfl ?_ ⟨fs,T7⟩ ?_;rotate_left
  ·intro w zD;obtain⟨s1,s2⟩:=zD;have e1:=zJ s1;have x2:=(s2.at zN).1.x2;have u2:=(s2.at hb).1.x2;clear s1 s2;go_simp;rfl
  try simp only[tn]
  refine zAB 11 ?_ rfl ?_ ⟨fs,T7⟩ ?_;rotate_left
  ·intro w zD;obtain⟨s1,s2⟩:=zD;have e1:=zJ s1;have x2:=(s2.at zN).1.x2;have u2:=(s2.at hb).1.x2;clear s1 s2;go_simp;rfl
  try simp only[tn]
  refine zAB 12 ?_ rfl ?_ ⟨fs,T7⟩ ?_;rotate_left
  ·intro w zD;obtain⟨s1,s2⟩:=zD;have e1:=zJ s1;have x2:=(s2.at zN).1.x2;have u2:=(s2.at hb).1.x2;clear s1 s2;go_simp;rfl
  try simp only[tn]
  refine zAE ?_
  by_cases hg:l[B].r.g<l[k].r.g
  ·skip
   have HN:Hid (za (yu l) (k+1)=k):=by unfold Hid;rw[HS.out,if_pos hg]
   clear HS
   go_wp2
   go_roundw
   case rel=>exact⟨k+1,by go_num,by rw[HN.out],by omega,by omega,C0⟩
   case measure=>simp[intOf];omega
  ·skip
   have HN:Hid (za (yu l) (k+1)=B):=by unfold Hid;rw[HS.out,if_neg hg]
   clear HS
   go_wp2
   go_roundw
   case rel=>exact⟨k+1,by go_num,by rw[HN.out],by omega,by omega,C0⟩
   case measure=>simp[intOf];omega
theorem TY(x y:Ob):xi x.id x.kind x.links x.text y.id y.kind y.links y.text=xi y.id y.kind y.links y.text x.id x.kind x.links x.text:=by
 cases h:xi x.id x.kind x.links x.text y.id y.kind y.links y.text with
 |true=>rw[np h,rl]
 |false=>
  cases h2:xi y.id y.kind y.links y.text x.id x.kind x.links x.text with
  |false=>rfl
  |true=>rw[np h2,rl]at h;cases h
theorem K7:zz 0=⟨#[48]⟩∧zz 1=⟨#[49]⟩∧zz 2=⟨#[50]⟩∧zz 3=⟨#[51]⟩∧zz 4=⟨#[52]⟩∧zz 5=⟨#[53]⟩∧zz 6=⟨#[54]⟩∧zz 7=⟨#[55]⟩∧zz 8=⟨#[56]⟩∧zz 9=⟨#[57]⟩:=by decide +kernel
theorem XY: ∀n,n<1000→10≤n→zz ((n:Nat):Int)=zz ((n/10:Nat):Int)++zz ((n%10:Nat):Int):=by decide +kernel
theorem L9(n:Nat)(h:n<10)(w:World):Calls Tryz.prog 242 #[.int .i64 n] w fun e w'=>e= .returned (.string (zz n))∧w'=w:=by
 obtain⟨d0,d1,d2,d3,d4,d5,d6,d7,d8,d9⟩:=K7
 have hn:n=0∨n=1∨n=2∨n=3∨n=4∨n=5∨n=6∨n=7∨n=8∨n=9:=by omega
 rcases hn with rfl|rfl|rfl|rfl|rfl|rfl|rfl|rfl|rfl|rfl
 ·rw[show zz ((0:Nat):Int)=_ from d0]
  clear d0 d1 d2 d3 d4 d5 d6 d7 d8 d9
  go_enter Tryz.func242,Tryz.ntmps242
  go_wp2
  go_ret
  exact⟨rfl,rfl⟩
 ·rw[show zz ((1:Nat):Int)=_ from d1]
  clear d0 d1 d2 d3 d4 d5 d6 d7 d8 d9
  go_enter Tryz.func242,Tryz.ntmps242
  go_wp2
  go_ret
  exact⟨rfl,rfl⟩
 ·rw[show zz ((2:Nat):Int)=_ from d2]
  clear d0 d1 d2 d3 d4 d5 d6 d7 d8 d9
  go_enter Tryz.func242,Tryz.ntmps242
  go_wp2
  go_ret
  exact⟨rfl,rfl⟩
 ·rw[show zz ((3:Nat):Int)=_ from d3]
  clear d0 d1 d2 d3 d4 d5 d6 d7 d8 d9
  go_enter Tryz.func242,Tryz.ntmps242
  go_wp2
  go_ret
  exact⟨rfl,rfl⟩
 ·rw[show zz ((4:Nat):Int)=_ from d4]
  clear d0 d1 d2 d3 d4 d5 d6 d7 d8 d9
  go_enter Tryz.func242,Tryz.ntmps242
  go_wp2
  go_ret
  exact⟨rfl,rfl⟩
 ·rw[show zz ((5:Nat):Int)=_ from d5]
  clear d0 d1 d2 d3 d4 d5 d6 d7 d8 d9
  go_enter Tryz.func242,Tryz.ntmps242
  go_wp2
  go_ret
  exact⟨rfl,rfl⟩
 ·rw[show zz ((6:Nat):Int)=_ from d6]
  clear d0 d1 d2 d3 d4 d5 d6 d7 d8 d9
  go_enter Tryz.func242,Tryz.ntmps242
  go_wp2
  go_ret
  exact⟨rfl,rfl⟩
 ·rw[show zz ((7:Nat):Int)=_ from d7]
  clear d0 d1 d2 d3 d4 d5 d6 d7 d8 d9
  go_enter Tryz.func242,Tryz.ntmps242
  go_wp2
  go_ret
  exact⟨rfl,rfl⟩
 ·rw[show zz ((8:Nat):Int)=_ from d8]
  clear d0 d1 d2 d3 d4 d5 d6 d7 d8 d9
  go_enter Tryz.func242,Tryz.ntmps242
  go_wp2
  go_ret
  exact⟨rfl,rfl⟩
 ·rw[show zz ((9:Nat):Int)=_ from d9]
  clear d0 d1 d2 d3 d4 d5 d6 d7 d8 d9
  go_enter Tryz.func242,Tryz.ntmps242
  go_wp2
  go_ret
  exact⟨rfl,rfl⟩
theorem zFD(n:Nat)(h0:10≤n)(h:n<100)(w:World):Calls Tryz.prog 242 #[.int .i64 n] w fun e w'=>e= .returned (.string (zz n))∧w'=w:=by
 have hq:=L9 (n/10) (by omega) w
 have hr:=L9 (n%10) (by omega) w
 have HM:Hid (zz (n:Int)=zz ((n/10:Nat):Int)++zz ((n%10:Nat):Int)):=XY n (by omega) (by omega)
 have ZQ:=x9 (n/10) (by omega)
 have mx:=x9 (n%10) (by omega)
 have zN: ¬(n:Int)<10:=by omega
 rw[show((n/10:Nat):Int)=(n:Int)/10 by omega]at hq HM ZQ
 rw[show((n%10:Nat):Int)=(n:Int)%10 by omega]at hr HM mx
 have eJ:((zz ((n:Int)/10)).size:Int)+(zz ((n:Int)%10)).size≤9223372036854775807:=by omega
 rw[HM.out]
 clear ZQ mx HM
 go_enter Tryz.func242,Tryz.ntmps242
 go_wp2_with fail
 refine hq.mono ?_
 clear hq
 rintro e w1 ⟨rfl,rfl⟩
 go_wp2_with fail
 refine hr.mono ?_
 clear hr
 rintro e w2 ⟨rfl,rfl⟩
 obtain⟨A,hA⟩: ∃A,Hid (A=zz ((n:Int)/10)):=⟨_,rfl⟩
 obtain⟨B,hB⟩: ∃B,Hid (B=zz ((n:Int)%10)):=⟨_,rfl⟩
 rw[←hA.out,←hB.out]at eJ⊢
 go_wp2
 go_ret
 exact⟨by rw[←hA.out,←hB.out];rfl,rfl⟩
theorem Jr(n:Nat)(h:n<100)(w:World):Calls Tryz.prog 242 #[.int .i64 n] w fun e w'=>e= .returned (.string (zz n))∧w'=w:=by
 by_cases h0:n<10
 ·exact L9 n h0 w
 ·exact zFD n (by omega) h w
theorem zEZ(n:Nat)(h0:100≤n)(h:n<1000)(w:World):Calls Tryz.prog 242 #[.int .i64 n] w fun e w'=>e= .returned (.string (zz n))∧w'=w:=by
 have hq:=Jr (n/10) (by omega) w
 have hr:=L9 (n%10) (by omega) w
 have HM:Hid (zz (n:Int)=zz ((n/10:Nat):Int)++zz ((n%10:Nat):Int)):=XY n (by omega) (by omega)
 have ZQ:=x9 (n/10) (by omega)
 have mx:=x9 (n%10) (by omega)
 have zN: ¬(n:Int)<10:=by omega
 rw[show((n/10:Nat):Int)=(n:Int)/10 by omega]at hq HM ZQ
 rw[show((n%10:Nat):Int)=(n:Int)%10 by omega]at hr HM mx
 have eJ:((zz ((n:Int)/10)).size:Int)+(zz ((n:Int)%10)).size≤9223372036854775807:=by omega
 rw[HM.out]
 clear ZQ mx HM
 go_enter Tryz.func242,Tryz.ntmps242
 go_wp2_with fail
 refine hq.mono ?_
 clear hq
 rintro e w1 ⟨rfl,rfl⟩
 go_wp2_with fail
 refine hr.mono ?_
 clear hr
 rintro e w2 ⟨rfl,rfl⟩
 obtain⟨A,hA⟩: ∃A,Hid (A=zz ((n:Int)/10)):=⟨_,rfl⟩
 obtain⟨B,hB⟩: ∃B,Hid (B=zz ((n:Int)%10)):=⟨_,rfl⟩
 rw[←hA.out,←hB.out]at eJ⊢
 go_wp2
 go_ret
 exact⟨by rw[←hA.out,←hB.out];rfl,rfl⟩
theorem Tn(n:Int)(h0:0≤n)(h:n≤999)(w:World):Calls Tryz.prog 242 #[.int .i64 n] w fun e w'=>e= .returned (.string (zz n))∧w'=w:=by
 obtain⟨k,rfl⟩: ∃k:Nat,n=k:=⟨n.toNat,by omega⟩
 by_cases h1:k<100
 ·exact Jr k h1 w
 ·exact zEZ k (by omega) (by omega) w
def qm(l:List ByteArray)(v:ByteArray):Nat→Nat
 |0=>0
 |j+1=>qm l v j+vl (l.getD j yJ) v
theorem SO(l:List ByteArray)(v:ByteArray): ∀j,qm l v j≤j
 |0=>Nat.le_refl _
 |j+1=>by have:=SO l v j;have:=pu (l.getD j yJ) v;show qm l v j+vl _ v≤j+1;omega
theorem rp.at{w:World}{b off:Nat}{l:List ByteArray}(h:rp w (some ⟨b,off,none⟩) l){k:Nat}(hk:k<l.length):w.cell? ⟨b,off+k,none⟩=some (.string l[k]):=by
 obtain⟨b',kQ,e,_,hc⟩:=h k hk
 cases e;exact hc k hk
def gz(l:List ByteArray)(v:ByteArray):Bool:=decide (2≤qm l v 3)&&decide (3≤v.size)&&((v.extract 0 3).toList==[121,101,115])
def nB(l:List ByteArray):List ByteArray→ByteArray×Bool
 |[]=>(yJ,false)
 |v::r=>if gz l v=true then(v,true)else nB l r
theorem VG(a:Option Addr)(c:Nat)(l:List ByteArray)(hl:l.length=3)(w:World)(h:rp w a l):
  Calls Tryz.prog 201 #[.slice a 3 c] w fun e w'=>e= .returned (.tuple #[.string (nB l l).1,.bool (nB l l).2])∧Below w.heap.size w w':=by
 obtain⟨b,off,rfl⟩: ∃b off,a=some ⟨b,off,none⟩:=by
  obtain⟨b,off,e,_⟩:=h 0 (by omega);exact⟨b,off,e⟩
 have HL:Hid (l.length=3):=hl
 go_enter Tryz.func201,Tryz.ntmps201
 go_wp2_with fail
 go_loopw [4] (fun i wr=>∃k:Nat,i= .int .i64 k∧k≤3∧Hid (nB l l=nB l (l.drop k))∧Below w.heap.size w wr) (fun i _=>3-(intOf i).toNat)
 case atStart=>exact⟨0,rfl,Nat.zero_le _,rfl,Below.refl _ _⟩
 case round=>
  obtain⟨k,rfl,hk,HT,hB⟩:=hrel
  by_cases zN:k<3
  case neg=>
   have HR:Hid (nB l l=(yJ,false)):=by unfold Hid;rw[HT.out,List.drop_of_length_le (by omega)];rfl
   have vg: ¬(k:Int)<3:=by omega
   clear HT hk
   go_wp2
   refine bodyPost_ret (v:=.tuple #[.string yJ,.bool false]) (by simp[results,Tryz.results201,go_sem]) rfl ?_
   exact⟨by rw[HR.out],hB⟩
  have vg:(k:Int)<3:=by omega
  have xl:k<l.length:=by omega
  obtain⟨v,hv⟩: ∃v,v=l[k]:=⟨_,rfl⟩
  have HN:Hid (nB l (l.drop k)=if gz l v=true then(v,true)else nB l (l.drop (k+1))):=by
   unfold Hid;rw[List.drop_eq_getElem_cons xl,nB,←hv]
  have pT: ∀W,rp W (some ⟨b,off,none⟩) l→W.cell? ⟨b,off+k,none⟩=some (.string v):=fun W hW=>by rw[hv];exact hW.at xl
  clear hv hl
  go_wp2_with fail
  go_loopw [5,6] (fun z i wj=>∃j:Nat,z= .int .i64 (qm l v j:Nat)∧i= .int .i64 j∧j≤3∧Below w.heap.size w wj) (fun _ i _=>3-(intOf i).toNat)
  case atStart=>exact⟨0,rfl,rfl,Nat.zero_le _,hB⟩
  case round=>
   clear hB
   obtain⟨j,rfl,rfl,hj,hB⟩:=hrel
   by_cases bZ:j<3
   case neg=>
    have hj3:j=3:=by omega
    subst hj3
    have hh:=h.below hB
    have y1:=pT _ hh
    have XO: ¬((3:Nat):Int)<3:=by omega
    clear pT hh
    by_cases g2:2≤qm l v 3
    case neg=>
     have HG:Hid (nB l l=nB l (l.drop (k+1))):=by
      unfold Hid;rw[HT.out,HN.out,if_neg];unfold gz;rw[decide_eq_false g2];simp
     have g2': ¬(2:Int)≤((qm l v 3:Nat):Int):=by omega
     clear HT HN g2
     generalize qm l v 3=C at *
     go_wp2
     go_roundw
     case rel=>exact⟨k+1,by go_num,by omega,HG,hB⟩
     case measure=>simp[intOf];omega
    have g2':(2:Int)≤((qm l v 3:Nat):Int):=by omega
    by_cases g3:3≤v.size
    case neg=>
     have HG:Hid (nB l l=nB l (l.drop (k+1))):=by
      unfold Hid;rw[HT.out,HN.out,if_neg];unfold gz;rw[decide_eq_false g3];simp
     have g3': ¬(3:Int)≤(v.size:Int):=by omega
     clear HT HN g2 g3
     generalize qm l v 3=C at *
     go_wp2
     go_roundw
     case rel=>exact⟨k+1,by go_num,by omega,HG,hB⟩
     case measure=>simp[intOf];omega
    have g3':(3:Int)≤(v.size:Int):=by omega
    cases g4:((v.extract 0 3).toList==[121,101,115])with
    |false=>
     have HG:Hid (nB l l=nB l (l.drop (k+1))):=by
      unfold Hid;rw[HT.out,HN.out,if_neg];unfold gz;rw[g4];simp
     clear HT HN g2
     generalize qm l v 3=C at *
     go_wp2
     go_roundw
     case rel=>exact⟨k+1,by go_num,by omega,HG,hB⟩
     case measure=>simp[intOf];omega
    |true=>
     have HG:Hid (nB l l=(v,true)):=by
      unfold Hid;rw[HT.out,HN.out,if_pos];unfold gz;rw[g4,decide_eq_true g2,decide_eq_true g3];rfl
     clear HT HN g2
     generalize qm l v 3=C at *
     go_wp2
     refine bodyPost_ret (v:=.tuple #[.string v,.bool true]) (by simp[results,Tryz.results201,go_sem]) rfl ?_
     exact⟨by rw[HG.out],hB⟩
   have XO:(j:Int)<3:=by omega
   have hjL:j<l.length:=by have:=HL.out;omega
   obtain⟨u,hu⟩: ∃u,u=l[j]:=⟨_,rfl⟩
   have HC:Hid (qm l v (j+1)=qm l v j+vl u v):=by
    show qm l v j+vl (l.getD j yJ) v=_
    rw[hu];simp[hjL]
   have Yi: ∀W,rp W (some ⟨b,off,none⟩) l→W.cell? ⟨b,off+j,none⟩=some (.string u):=fun W hW=>by rw[hu];exact hW.at hjL
   clear hu
   have Ba:=SO l v j
   have ri:IntKind.i64.wrap ((qm l v j:Nat)+1:Int)=(qm l v j:Nat)+1:=by simp[IntKind.wrap,IntKind.bits,IntKind.signed];omega
   have hh:=h.below hB
   go_upto_region 10 with fail
   have zk:=zU wr
   have zX:=bt hB zk
   have nd:=hh.below zk
   have Ma:=zk.size
   clear hh zk hB
   refine zS (fun W=>(rp W (some ⟨b,off,none⟩) l)) (fun _=>false) (by kernel_rfl) nd (fun hS=>?_)
   clear hS
   generalize wr.drew=W_5 at *
   refine zAB 0 ?_ rfl ?_ nd ?_;rotate_left
   ·intro w zD;have q1:=pT _ zD;have q2:=Yi _ zD;clear zD;go_simp;rfl
   try simp only[tn]
   refine zAB 1 ?_ rfl ?_ nd ?_;rotate_left
   ·intro w zD;have q1:=pT _ zD;have q2:=Yi _ zD;clear zD;go_simp;rfl
   try simp only[tn]
   refine zAB 4 ?_ rfl ?_ nd ?_;rotate_left
   ·intro w zD;have q1:=pT _ zD;have q2:=Yi _ zD;clear zD;go_simp;rfl
   try simp only[tn]
   refine zAB 5 ?_ rfl ?_ nd ?_;rotate_left
   ·intro w zD;have q1:=pT _ zD;have q2:=Yi _ zD;clear zD;go_simp;rfl
   try simp only[tn]
   refine zAB 2 ?_ rfl ?_ nd ?_;rotate_left
   ·intro w zD;have q1:=pT _ zD;have q2:=Yi _ zD;clear zD;go_simp;rfl
   try simp only[tn]
   refine zAB 6 ?_ rfl ?_ nd ?_;rotate_left
   ·intro w zD;have q1:=pT _ zD;have q2:=Yi _ zD;clear zD;go_simp;rfl
   try simp only[tn]
   refine zAB 3 ?_ rfl ?_ nd ?_;rotate_left
   ·intro w zD;have q1:=pT _ zD;have q2:=Yi _ zD;clear zD;go_simp;rfl
   try simp only[tn]
   refine zAB 7 ?_ rfl ?_ nd ?_;rotate_left
   ·intro w zD;have q1:=pT _ zD;have q2:=Yi _ zD;clear zD;go_simp;rfl
   try simp only[tn]
   refine zAB 8 ?_ rfl ?_ nd ?_;rotate_left
   ·intro w zD;have q1:=pT _ zD;have q2:=Yi _ zD;clear zD;go_simp;rfl
   try simp only[tn]
   refine zAE ?_
   generalize qm l v j=C at *
   cases hq:(u.toList==v.toList)with
   |true=>
    have HO:Hid (qm l v (j+1)=C+1):=by unfold Hid;rw[HC.out,Ye hq]
    clear HC
    go_wp2
    go_roundw
    case rel=>exact⟨j+1,by rw[HO.out];go_num,by go_num,by omega,zX⟩
    case measure=>simp[intOf];omega
   |false=>
    have HO:Hid (qm l v (j+1)=C):=by unfold Hid;rw[HC.out,YS hq];rfl
    clear HC
    go_wp2
    go_roundw
    case rel=>exact⟨j+1,by rw[HO.out],by go_num,by omega,zX⟩
    case measure=>simp[intOf];omega
def Wg(s:ByteArray)(i:Nat):Bool:=let c:Int:=(((s.data.toList.getD i 0).toNat:Nat):Int)
 decide (97≤c∧c≤122)||decide (48≤c∧c≤57)||decide (c=45)||(decide (c=47)&&!decide ((((s.data.toList.getD (i-1) 0).toNat:Nat):Int)=47))
def vW(s:ByteArray):Int:=if 12<s.size then 2 else if s.size=0 then 1 else if(((s.data.toList.getD 0 0).toNat:Nat):Int)=47 then 1 else if(((s.data.toList.getD (s.size-1) 0).toNat:Nat):Int)=47 then 1 else if(List.range s.size).all (Wg s)=true then 0 else 1
theorem pV(s:ByteArray)(i:Nat)(h:i<s.size):s.data.toList.getD i 0=s[i]:=by
 have h':i<s.data.toList.length:=by simpa using h
 rw[List.getD_eq_getElem?_getD,List.getElem?_eq_getElem h']
 rfl
theorem FM(s:ByteArray)(k:Nat)(h:k<s.size)(hq:k-1<s.size):Wg s k=(decide (97≤((s[k].toNat:Nat):Int)∧((s[k].toNat:Nat):Int)≤122)||decide (48≤((s[k].toNat:Nat):Int)∧((s[k].toNat:Nat):Int)≤57)||decide (((s[k].toNat:Nat):Int)=45)||(decide (((s[k].toNat:Nat):Int)=47)&&!decide (((s[k-1].toNat:Nat):Int)=47))):=by
 unfold Wg
 rw[pV s k h,pV s (k-1) hq]
theorem mD(s:ByteArray)(w:World):
  Calls Tryz.prog 120 #[.string s] w fun e w'=>e= .returned (.int .i64 (vW s))∧w'=w:=by
 go_enter Tryz.func120,Tryz.ntmps120
 by_cases h12:(12:Int)<(s.size:Int)
 ·have HR:Hid (vW s=2):=by unfold Hid vW;rw[if_pos (by omega)]
  go_wp2
  go_ret
  exact⟨zE HR.out.symm,rfl⟩
 have K0:Hid (¬12<s.size):=by unfold Hid;omega
 by_cases h0:s.size=0
 ·have hE:s.toList.isEmpty=true:=by
   have:s.toList.length=0:=(pY s).trans h0
   rw[List.isEmpty_iff];exact List.eq_nil_of_length_eq_zero this
  have h00: ¬0<s.size:=by omega
  have HR:Hid (vW s=1):=by unfold Hid vW;rw[if_neg K0.out,if_pos h0]
  clear h0
  go_wp2
  go_ret
  exact⟨zE HR.out.symm,rfl⟩
 have hE:s.toList.isEmpty=false:=by
  cases hc:s.toList.isEmpty with
  |false=>rfl
  |true=>
   have:s.toList.length=0:=by rw[List.isEmpty_iff.1 hc];rfl
   exact absurd ((pY s).symm.trans this) h0
 have hp:0<s.size:=by omega
 have H0:Hid (s.size≠0):=h0
 clear h0
 by_cases hf:((s[0].toNat:Nat):Int)=47
 ·have Pt:(((s[0].toNat:Nat):Int)==47)=true:=by simpa using hf
  have HR:Hid (vW s=1):=by unfold Hid vW;rw[if_neg K0.out,if_neg H0.out,pV s 0 hp,if_pos hf]
  clear hf
  go_wp2
  go_ret
  exact⟨zE HR.out.symm,rfl⟩
 have Pt:(((s[0].toNat:Nat):Int)==47)=false:=by simpa using hf
 have HF:Hid (¬((s[0].toNat:Nat):Int)=47):=hf
 clear hf
 have TT:s.size-1<s.size:=by omega
 have FZ:(1:Int)≤(s.size:Int):=by omega
 have MD:(s.size:Int)-1<(s.size:Int):=by omega
 by_cases hl:(((s[s.size-1]'TT).toNat:Nat):Int)=47
 ·have CV:((((s[s.size-1]'TT).toNat:Nat):Int)==47)=true:=by simpa using hl
  have HR:Hid (vW s=1):=by unfold Hid vW;rw[if_neg K0.out,if_neg H0.out,pV s 0 hp,if_neg HF.out,pV s (s.size-1) TT,if_pos hl]
  clear hl
  go_wp2
  go_ret
  exact⟨zE HR.out.symm,rfl⟩
 have CV:((((s[s.size-1]'TT).toNat:Nat):Int)==47)=false:=by simpa using hl
 have HX:Hid (vW s=if(List.range s.size).all (Wg s)=true then 0 else 1):=by unfold Hid vW;rw[if_neg K0.out,if_neg H0.out,pV s 0 hp,if_neg HF.out,pV s (s.size-1) TT,if_neg hl]
 have vF:Hid (∀k,k<s.size→Wg s k=false→vW s=1):=fun k hk hb=>by
  rw[HX.out,if_neg]
  intro e
  have:=List.all_eq_true.1 e k (List.mem_range.2 hk)
  rw[hb]at this;cases this
 clear hl
 go_wp2
 go_loopw [3] (fun i wr=>∃k:Nat,i= .int .i64 k∧k≤s.size∧Hid (∀j,j<k→Wg s j=true)∧Hid (wr=w)) (fun i _=>s.size-(intOf i).toNat)
 case atStart=>exact⟨0,rfl,Nat.zero_le _,fun j hj=>absurd hj (Nat.not_lt_zero j),rfl⟩
 case round=>
  obtain⟨k,rfl,hk,HO,HW⟩:=hrel
  by_cases zN:k<s.size
  case neg=>
   have HR:Hid (vW s=0):=by
    unfold Hid;rw[HX.out,if_pos]
    exact List.all_eq_true.2 fun j hj=>HO.out j (by have:=List.mem_range.1 hj;omega)
   go_wp2
   go_ret
   exact⟨zE HR.out.symm,HW.out⟩
  have vg:(k:Int)<(s.size:Int):=by omega
  have hw:wrap64 ((s[k].toNat:Nat):Int)=((s[k].toNat:Nat):Int):=VC s[k]
  obtain⟨c,hc⟩: ∃c:Int,c=wrap64 ((s[k].toNat:Nat):Int):=⟨_,rfl⟩
  have HK:Hid (c=47→0<k):=fun e=>by
   rcases Nat.eq_zero_or_pos k with q|q
   ·subst q;exact absurd (hw.symm.trans (hc.symm.trans e)) HF.out
   ·exact q
  have dd:Hid (Wg s k=(decide (97≤c∧c≤122)||decide (48≤c∧c≤57)||decide (c=45)||(decide (c=47)&&!decide ((((s[k-1]'(by omega)).toNat:Nat):Int)=47)))):=by
   unfold Hid;rw[FM s k zN (by omega),hc,hw]
  have Zw:Hid (Wg s k=true→∀j,j<k+1→Wg s j=true):=fun e j hj=>by
   rcases Nat.lt_or_ge j k with q|q
   ·exact HO.out j q
   ·rw[show j=k by omega];exact e
  clear hw
  go_wp2_with fail
  rw[←hc]
  clear hc
  refine(yg c 97 122 wr).mono ?_
  rintro e w1 ⟨rfl,ri⟩
  rw[ri]
  clear ri w1
  by_cases b1:97≤c∧c≤122
  ·have z1:ur c 97 122=true:=pD b1
   have f1:(c==47)=false:=by simp;omega
   have HT:Hid (Wg s k=true):=by unfold Hid;rw[dd.out,decide_eq_true b1];rfl
   clear b1 dd
   go_wp2
   go_roundw
   case rel=>exact⟨k+1,by go_num,by omega,Zw.out HT.out,HW⟩
   case measure=>simp[intOf];omega
  rw[qL b1]
  go_wp2_with fail
  refine(yg c 48 57 wr).mono ?_
  rintro e w1 ⟨rfl,ri⟩
  rw[ri]
  clear ri w1
  by_cases b2:48≤c∧c≤57
  ·rw[pD b2]
   have f1:(c==47)=false:=by simp;omega
   have HT:Hid (Wg s k=true):=by unfold Hid;rw[dd.out,decide_eq_true b2];simp
   clear b1 b2 dd
   go_wp2
   go_roundw
   case rel=>exact⟨k+1,by go_num,by omega,Zw.out HT.out,HW⟩
   case measure=>simp[intOf];omega
  rw[qL b2]
  by_cases b3:c=45
  ·have f3:(c != 45)=false:=by simpa using b3
   have f1:(c==47)=false:=by simp;omega
   have HT:Hid (Wg s k=true):=by unfold Hid;rw[dd.out,decide_eq_true b3];simp
   clear b1 b2 b3 dd
   go_wp2
   go_roundw
   case rel=>exact⟨k+1,by go_num,by omega,Zw.out HT.out,HW⟩
   case measure=>simp[intOf];omega
  have f3:(c != 45)=true:=by simpa using b3
  by_cases b4:c=47
  case neg=>
   have f4:(c != 47)=true:=by simpa using b4
   have HR:Hid (vW s=1):=vF.out k zN (by rw[dd.out,decide_eq_false b1,decide_eq_false b2,decide_eq_false b3,decide_eq_false b4];rfl)
   clear b1 b2 b3 b4 dd
   go_wp2
   go_ret
   exact⟨zE HR.out.symm,HW.out⟩
  have f4:(c != 47)=false:=by simpa using b4
  have f5:(c==47)=true:=by simpa using b4
  have Vj:0<k:=HK.out b4
  have xa:(0:Int)≤(k:Int)-1:=by omega
  have xy:(k:Int)-1<(s.size:Int):=by omega
  have tv:k-1<s.size:=by omega
  cases El:((((s[k-1]'tv).toNat:Nat):Int)==47)with
  |true=>
   have HR:Hid (vW s=1):=vF.out k zN (by rw[dd.out,decide_eq_false b1,decide_eq_false b2,decide_eq_false b3,decide_eq_true b4,decide_eq_true (by simpa using El)];rfl)
   clear b1 b2 b3 b4 dd
   go_wp2
   go_ret
   exact⟨zE HR.out.symm,HW.out⟩
  |false=>
   have CF: ¬((((s[k-1]'tv).toNat:Nat):Int)=47):=by simpa using El
   have HT:Hid (Wg s k=true):=by
    unfold Hid;rw[dd.out,decide_eq_true b4,decide_eq_false CF];simp
   clear CF b1 b2 b3 b4 dd
   go_wp2
   go_roundw
   case rel=>exact⟨k+1,by go_num,by omega,Zw.out HT.out,HW⟩
   case measure=>simp[intOf];omega
theorem rN{w:World}{b off:Nat}{l:List Up}(h:zx w (some ⟨b,off,none⟩) l){k:Nat}(hk:k<l.length):S9 w b (off+k*3) l[k]:=by
 obtain⟨b',kQ,e,_,hc⟩:=h k hk
 cases e;exact hc k hk
def qV(q:List Up)(u:Up):Int:=
 if vW u.name≠0 then vW u.name else if !(ur u.old 0 99)|| !(ur u.new 0 99)then 3 else if u.old=0∧u.new=0 then 1 else if q.any (xp u.name)then 6 else 0
def mG:List Up→List Up→Int
 |_,[]=>0
 |q,u::us=>if qV q u≠0 then qV q u else mG (q++[u]) us
def sE(us:List Up):Int:=if us.length=0 then 5 else if 4<us.length then 2 else mG [] us
theorem Uc{us:List Up}{k:Nat}(hk:k<us.length):mG (us.take k) (us.drop k)=if qV (us.take k) us[k]≠0 then qV (us.take k) us[k]else mG (us.take (k+1)) (us.drop (k+1)):=by
 rw[List.drop_eq_getElem_cons hk,mG,List.take_succ_eq_append_getElem hk]
theorem jy(a:Option Addr)(c:Nat)(us:List Up)(w:World)(h:zx w a us)(hl:us.length≤9223372036854775807):
  Calls Tryz.prog 241 #[.slice a us.length c] w fun e w'=>e= .returned (.int .i64 (sE us))∧Below w.heap.size w w':=by
 go_enter Tryz.func241,Tryz.ntmps241
 by_cases h0:us.length=0
 ·have HR:Hid (sE us=5):=by unfold Hid sE;rw[if_pos h0]
  rw[h0]
  clear hl h0
  go_wp2
  go_ret
  exact⟨zE HR.out.symm,Below.refl _ _⟩
 have LZ:((us.length:Int)==0)=false:=by rw[beq_eq_false_iff_ne];omega
 by_cases h4:4<us.length
 ·have HR:Hid (sE us=2):=by unfold Hid sE;rw[if_neg h0,if_pos h4]
  have h4':(4:Int)<(us.length:Int):=by omega
  clear hl h0 h4
  go_wp2
  go_ret
  exact⟨zE HR.out.symm,Below.refl _ _⟩
 have h4': ¬(4:Int)<(us.length:Int):=by omega
 have HX:Hid (sE us=mG (us.take 0) (us.drop 0)):=by unfold Hid sE;rw[if_neg h0,if_neg h4];rfl
 obtain⟨b,off,rfl⟩: ∃b off,a=some ⟨b,off,none⟩:=by
  obtain⟨b,off,e,_⟩:=h 0 (by omega);exact⟨b,off,e⟩
 have H4:Hid (us.length≤4):=by unfold Hid;omega
 clear h0 h4 hl
 go_wp2_with fail
 go_loopw [3] (fun i wr=>∃k:Nat,i= .int .i64 k∧k≤us.length∧Hid (sE us=mG (us.take k) (us.drop k))∧Below w.heap.size w wr) (fun i _=>us.length-(intOf i).toNat)
 case atStart=>exact⟨0,rfl,Nat.zero_le _,HX,Below.refl _ _⟩
 case round=>
  clear h4' LZ HX
  obtain⟨k,rfl,hk,HT,hB⟩:=hrel
  by_cases zN:k<us.length
  case neg=>
   have HR:Hid (sE us=0):=by unfold Hid;rw[HT.out,List.drop_of_length_le (by omega)];rfl
   have vg: ¬(k:Int)<(us.length:Int):=by omega
   clear HT hk
   go_wp2
   go_ret
   exact⟨zE HR.out.symm,hB⟩
  have vg:(k:Int)<(us.length:Int):=by omega
  obtain⟨y0,y1,y2⟩:=rN (h.below hB) zN
  obtain⟨u,hu⟩: ∃u,u=us[k]:=⟨_,rfl⟩
  have HN:=(show Hid (_=_) from Uc zN)
  rw[←hu]at y0 y1 y2 HN
  have pT: ∀W,zx W (some ⟨b,off,none⟩) us→W.cell? ⟨b,off+k*3,none⟩=some (.string u.name):=fun W hW=>by rw[hu];exact(rN hW zN).1
  clear hu
  go_wp2_with fail
  refine(mD u.name wr).mono ?_
  rintro e w1 ⟨rfl,ri⟩
  rw[ri]
  clear ri w1
  by_cases n0:vW u.name=0
  case neg=>
   have q1:(vW u.name != 0)=true:=by simpa using n0
   have HR:Hid (sE us=vW u.name):=by
    have hj:qV (us.take k) u=vW u.name:=by unfold qV;rw[if_pos n0]
    unfold Hid;rw[HT.out,HN.out,if_pos (by rw[hj];exact n0),hj]
   clear n0 HT HN pT
   generalize vW u.name=E at *
   go_wp2
   go_ret
   exact⟨zE HR.out.symm,hB⟩
  have HJ:Hid (qV (us.take k) u=if !(ur u.old 0 99)|| !(ur u.new 0 99)then 3 else if u.old=0∧u.new=0 then 1 else if(us.take k).any (xp u.name)then 6 else 0):=by unfold Hid qV;rw[if_neg (fun e=>e n0)]
  have vF:Hid (∀r:Int,r≠0→qV (us.take k) u=r→sE us=r):=fun r hr hj=>by rw[HT.out,HN.out,if_pos (by rw[hj];exact hr),hj]
  rw[n0]
  clear n0
  go_wp2_with fail
  refine(yg u.old 0 99 wr).mono ?_
  rintro e w1 ⟨rfl,ri⟩
  rw[ri]
  clear ri w1
  cases b1:ur u.old 0 99 with
  |false=>
   have HR:Hid (sE us=3):=vF.out 3 (by decide) (by rw[HJ.out,b1];rfl)
   clear HJ vF HT HN pT
   go_wp2
   go_ret
   exact⟨zE HR.out.symm,hB⟩
  |true=>
  go_wp2_with fail
  refine(yg u.new 0 99 wr).mono ?_
  rintro e w1 ⟨rfl,ri⟩
  rw[ri]
  clear ri w1
  cases b2:ur u.new 0 99 with
  |false=>
   have HR:Hid (sE us=3):=vF.out 3 (by decide) (by rw[HJ.out,b1,b2];rfl)
   clear HJ vF HT HN pT
   go_wp2
   go_ret
   exact⟨zE HR.out.symm,hB⟩
  |true=>
  have Xl:Hid (qV (us.take k) u=if u.old=0∧u.new=0 then 1 else if(us.take k).any (xp u.name)then 6 else 0):=by unfold Hid;rw[HJ.out,b1,b2];rfl
  clear HJ b1 b2
  have X5:Hid (Below w.heap.size w wr):=hB
  by_cases u1:u.old=0
  case neg=>
   have z1:(u.old==0)=false:=by simpa using u1
   have Zk:Hid (qV (us.take k) u=if(us.take k).any (xp u.name)then 6 else 0):=by unfold Hid;rw[Xl.out,if_neg (fun e=>u1 e.1)]
   clear Xl
   go_wp2_with fail
   go_loopw [5] (fun i wj=>∃j:Nat,i= .int .i64 j∧j≤k∧Hid (∀t (ht:t<us.length),t<j→xp u.name us[t]=false)∧Below w.heap.size w wj) (fun i _=>k-(intOf i).toNat)
   case atStart=>exact⟨0,rfl,Nat.zero_le _,fun t _ ht=>absurd ht (Nat.not_lt_zero t),hB⟩
   case round=>
    clear hB X5 y0 y1 y2
    obtain⟨j,rfl,hj,HS,hB⟩:=hrel
    by_cases hjk:j<k
    case neg=>
     have Fc: ¬(j:Int)<(k:Int):=by omega
     have HR:Hid (sE us=mG (us.take (k+1)) (us.drop (k+1))):=by
      have ha:(us.take k).any (xp u.name)=false:=by
       rw[List.any_eq_false]
       intro x hx
       obtain⟨t,ht,rfl⟩:=List.mem_iff_getElem.1 hx
       rw[List.length_take]at ht
       rw[List.getElem_take]
       have:=HS.out t (by omega) (by omega)
       rw[this];decide
      unfold Hid;rw[HT.out,HN.out,if_neg]
      rw[Zk.out,ha];simp
     have Da:(k:Int)+1≤9223372036854775807:=by have:=H4.out;omega
     clear Zk HT HN vF HS pT
     go_wp2
     go_roundw
     case rel=>exact⟨k+1,by go_num,by omega,HR,hB⟩
     case measure=>simp[intOf];omega
    have Fc:(j:Int)<(k:Int):=by omega
    have bZ:j<us.length:=by omega
    have XO:(j:Int)<(us.length:Int):=by omega
    have xR:(k:Int)≤4:=by have:=H4.out;omega
    have xu:(j:Int)+1≤9223372036854775807:=by omega
    obtain⟨x,hx⟩: ∃x,x=us[j]:=⟨_,rfl⟩
    have dx: ∀W,zx W (some ⟨b,off,none⟩) us→W.cell? ⟨b,off+j*3,none⟩=some (.string x.name):=fun W hW=>by rw[hx];exact(rN hW bZ).1
    have PM:Hid (xp u.name x=false→∀t (ht:t<us.length),t<j+1→xp u.name us[t]=false):=fun e t ht q=>by
     rcases Nat.lt_or_ge t j with r|r
     ·exact HS.out t ht r
     ·obtain rfl:t=j:=by omega
      rw[←hx];exact e
    have G8:Hid (xp u.name x=true→sE us=6):=fun e=>vF.out 6 (by decide) (by
     rw[Zk.out,if_pos]
     rw[List.any_eq_true]
     exact⟨x,by rw[hx];exact List.mem_iff_getElem.2 ⟨j,by rw[List.length_take];omega,by rw[List.getElem_take]⟩,e⟩)
    clear hx
    have hh:=h.below hB
    go_upto_region 18 with fail
    have zk:=zU wr
    have zX:=bt hB zk
    have nd:=hh.below zk
    have Ma:=zk.size
    clear hh zk hB
    refine zS (fun W=>(zx W (some ⟨b,off,none⟩) us)) (fun _=>false) (by kernel_rfl) nd (fun hS=>?_)
    clear hS
    generalize wr.drew=W_5 at *
    refine zAB 0 ?_ rfl ?_ nd ?_;rotate_left
    ·intro w zD;have q1:=pT _ zD;have q2:=dx _ zD;clear zD;go_simp;rfl
    try simp only[tn]
    refine zAB 1 ?_ rfl ?_ nd ?_;rotate_left
    ·intro w zD;have q1:=pT _ zD;have q2:=dx _ zD;clear zD;go_simp;rfl
    try simp only[tn]
    refine zAB 5 ?_ rfl ?_ nd ?_;rotate_left
    ·intro w zD;have q1:=pT _ zD;have q2:=dx _ zD;clear zD;go_simp;rfl
    try simp only[tn]
    refine zAB 6 ?_ rfl ?_ nd ?_;rotate_left
    ·intro w zD;have q1:=pT _ zD;have q2:=dx _ zD;clear zD;go_simp;rfl
    try simp only[tn]
    refine zAB 2 ?_ rfl ?_ nd ?_;rotate_left
    ·intro w zD;have q1:=pT _ zD;have q2:=dx _ zD;clear zD;go_simp;rfl
    try simp only[tn]
    refine zAB 7 ?_ rfl ?_ nd ?_;rotate_left
    ·intro w zD;have q1:=pT _ zD;have q2:=dx _ zD;clear zD;go_simp;rfl
    try simp only[tn]
    refine zAB 3 ?_ rfl ?_ nd ?_;rotate_left
    ·intro w zD;have q1:=pT _ zD;have q2:=dx _ zD;clear zD;go_simp;rfl
    try simp only[tn]
    refine zAB 8 ?_ rfl ?_ nd ?_;rotate_left
    ·intro w zD;have q1:=pT _ zD;have q2:=dx _ zD;clear zD;go_simp;rfl
    try simp only[tn]
    refine zAB 4 ?_ rfl ?_ nd ?_;rotate_left
    ·intro w zD;have q1:=pT _ zD;have q2:=dx _ zD;clear zD;go_simp;rfl
    try simp only[tn]
    refine zAB 9 ?_ rfl ?_ nd ?_;rotate_left
    ·intro w zD;have q1:=pT _ zD;have q2:=dx _ zD;clear zD;go_simp;rfl
    try simp only[tn]
    refine zAB 10 ?_ rfl ?_ nd ?_;rotate_left
    ·intro w zD;have q1:=pT _ zD;have q2:=dx _ zD;clear zD;go_simp;rfl
    try simp only[tn]
    refine zAE ?_
    cases hq:(x.name.toList==u.name.toList)with
    |true=>
     have HR:Hid (sE us=6):=G8.out hq
     clear G8 PM Zk HT HN vF HS
     go_wp2
     go_ret
     exact⟨zE HR.out.symm,zX⟩
    |false=>
     have HG:=PM.out hq
     have HG':Hid (∀t (ht:t<us.length),t<j+1→xp u.name us[t]=false):=HG
     clear G8 PM Zk HT HN vF HS HG
     go_wp2
     go_roundw
     case rel=>exact⟨j+1,by go_num,by omega,HG',zX⟩
     case measure=>simp[intOf];omega
  have z1:(u.old==0)=true:=by simpa using u1
  by_cases u2:u.new=0
  case neg=>
   have z2:(u.new==0)=false:=by simpa using u2
   have Zk:Hid (qV (us.take k) u=if(us.take k).any (xp u.name)then 6 else 0):=by unfold Hid;rw[Xl.out,if_neg (fun e=>u2 e.2)]
   clear Xl
   go_wp2_with fail
   go_loopw [5] (fun i wj=>∃j:Nat,i= .int .i64 j∧j≤k∧Hid (∀t (ht:t<us.length),t<j→xp u.name us[t]=false)∧Below w.heap.size w wj) (fun i _=>k-(intOf i).toNat)
   case atStart=>exact⟨0,rfl,Nat.zero_le _,fun t _ ht=>absurd ht (Nat.not_lt_zero t),hB⟩
   case round=>
    clear hB X5 y0 y1 y2
    obtain⟨j,rfl,hj,HS,hB⟩:=hrel
    by_cases hjk:j<k
    case neg=>
     have Fc: ¬(j:Int)<(k:Int):=by omega
     have HR:Hid (sE us=mG (us.take (k+1)) (us.drop (k+1))):=by
      have ha:(us.take k).any (xp u.name)=false:=by
       rw[List.any_eq_false]
       intro x hx
       obtain⟨t,ht,rfl⟩:=List.mem_iff_getElem.1 hx
       rw[List.length_take]at ht
       rw[List.getElem_take]
       have:=HS.out t (by omega) (by omega)
       rw[this];decide
      unfold Hid;rw[HT.out,HN.out,if_neg]
      rw[Zk.out,ha];simp
     have Da:(k:Int)+1≤9223372036854775807:=by have:=H4.out;omega
     clear Zk HT HN vF HS pT
     go_wp2
     go_roundw
     case rel=>exact⟨k+1,by go_num,by omega,HR,hB⟩
     case measure=>simp[intOf];omega
    have Fc:(j:Int)<(k:Int):=by omega
    have bZ:j<us.length:=by omega
    have XO:(j:Int)<(us.length:Int):=by omega
    have xR:(k:Int)≤4:=by have:=H4.out;omega
    have xu:(j:Int)+1≤9223372036854775807:=by omega
    obtain⟨x,hx⟩: ∃x,x=us[j]:=⟨_,rfl⟩
    have dx: ∀W,zx W (some ⟨b,off,none⟩) us→W.cell? ⟨b,off+j*3,none⟩=some (.string x.name):=fun W hW=>by rw[hx];exact(rN hW bZ).1
    have PM:Hid (xp u.name x=false→∀t (ht:t<us.length),t<j+1→xp u.name us[t]=false):=fun e t ht q=>by
     rcases Nat.lt_or_ge t j with r|r
     ·exact HS.out t ht r
     ·obtain rfl:t=j:=by omega
      rw[←hx];exact e
    have G8:Hid (xp u.name x=true→sE us=6):=fun e=>vF.out 6 (by decide) (by
     rw[Zk.out,if_pos]
     rw[List.any_eq_true]
     exact⟨x,by rw[hx];exact List.mem_iff_getElem.2 ⟨j,by rw[List.length_take];omega,by rw[List.getElem_take]⟩,e⟩)
    clear hx
    have hh:=h.below hB
    go_upto_region 18 with fail
    have zk:=zU wr
    have zX:=bt hB zk
    have nd:=hh.below zk
    have Ma:=zk.size
    clear hh zk hB
    refine zS (fun W=>(zx W (some ⟨b,off,none⟩) us)) (fun _=>false) (by kernel_rfl) nd (fun hS=>?_)
    clear hS
    generalize wr.drew=W_5 at *
    refine zAB 0 ?_ rfl ?_ nd ?_;rotate_left
    ·intro w zD;have q1:=pT _ zD;have q2:=dx _ zD;clear zD;go_simp;rfl
    try simp only[tn]
    refine zAB 1 ?_ rfl ?_ nd ?_;rotate_left
    ·intro w zD;have q1:=pT _ zD;have q2:=dx _ zD;clear zD;go_simp;rfl
    try simp only[tn]
    refine zAB 5 ?_ rfl ?_ nd ?_;rotate_left
    ·intro w zD;have q1:=pT _ zD;have q2:=dx _ zD;clear zD;go_simp;rfl
    try simp only[tn]
    refine zAB 6 ?_ rfl ?_ nd ?_;rotate_left
    ·intro w zD;have q1:=pT _ zD;have q2:=dx _ zD;clear zD;go_simp;rfl
    try simp only[tn]
    refine zAB 2 ?_ rfl ?_ nd ?_;rotate_left
    ·intro w zD;have q1:=pT _ zD;have q2:=dx _ zD;clear zD;go_simp;rfl
    try simp only[tn]
    refine zAB 7 ?_ rfl ?_ nd ?_;rotate_left
    ·intro w zD;have q1:=pT _ zD;have q2:=dx _ zD;clear zD;go_simp;rfl
    try simp only[tn]
    refine zAB 3 ?_ rfl ?_ nd ?_;rotate_left
    ·intro w zD;have q1:=pT _ zD;have q2:=dx _ zD;clear zD;go_simp;rfl
    try simp only[tn]
    refine zAB 8 ?_ rfl ?_ nd ?_;rotate_left
    ·intro w zD;have q1:=pT _ zD;have q2:=dx _ zD;clear zD;go_simp;rfl
    try simp only[tn]
    refine zAB 4 ?_ rfl ?_ nd ?_;rotate_left
    ·intro w zD;have q1:=pT _ zD;have q2:=dx _ zD;clear zD;go_simp;rfl
    try simp only[tn]
    refine zAB 9 ?_ rfl ?_ nd ?_;rotate_left
    ·intro w zD;have q1:=pT _ zD;have q2:=dx _ zD;clear zD;go_simp;rfl
    try simp only[tn]
    refine zAB 10 ?_ rfl ?_ nd ?_;rotate_left
    ·intro w zD;have q1:=pT _ zD;have q2:=dx _ zD;clear zD;go_simp;rfl
    try simp only[tn]
    refine zAE ?_
    cases hq:(x.name.toList==u.name.toList)with
    |true=>
     have HR:Hid (sE us=6):=G8.out hq
     clear G8 PM Zk HT HN vF HS
     go_wp2
     go_ret
     exact⟨zE HR.out.symm,zX⟩
    |false=>
     have HG:=PM.out hq
     have HG':Hid (∀t (ht:t<us.length),t<j+1→xp u.name us[t]=false):=HG
     clear G8 PM Zk HT HN vF HS HG
     go_wp2
     go_roundw
     case rel=>exact⟨j+1,by go_num,by omega,HG',zX⟩
     case measure=>simp[intOf];omega
  have HR:Hid (sE us=1):=vF.out 1 (by decide) (by rw[Xl.out,if_pos ⟨u1,u2⟩])
  have z2:(u.new==0)=true:=by simpa using u2
  clear Xl vF HT HN pT u1 u2
  go_wp2
  go_ret
  exact⟨zE HR.out.symm,hB⟩
def mI(m:List Ob)(us:List Up):Int:=if 12<m.length then 2 else if yL m≠0 then yL m else sE us
theorem cQ{m:List Ob}{k:Nat}(hk:k<m.length):yL (m.drop k)=if m[k].err≠0 then m[k].err else yL (m.drop (k+1)):=by
 rw[List.drop_eq_getElem_cons hk,yL]
theorem Rj(am:Option Addr)(cm:Nat)(m:List Ob)(au:Option Addr)(cu:Nat)(us:List Up)(f:Bool)(w:World)(hm:zP w am m)(hml:m.length≤9223372036854775807)(hu:zx w au us)(hul:us.length≤9223372036854775807):
  Calls Tryz.prog 199 #[uw am m.length cm au us.length cu f] w fun e w'=>e= .returned (.int .i64 (mI m us))∧Below w.heap.size w w':=by
 have hA:=zB w (.cells #[.slice am m.length cm,.slice au us.length cu,.bool f] 28)
 have k1:=heap_alloc_new w (.cells #[.slice am m.length cm,.slice au us.length cu,.bool f] 28)
 have YW:=hm.below hA
 have GP:=hu.below hA
 go_enter Tryz.func199,Tryz.ntmps199
 go_upto_region 1 with fail
 obtain⟨W0,Lz⟩: ∃W,W=w.alloc (.cells #[.slice am m.length cm,.slice au us.length cu,.bool f] 28):=⟨_,rfl⟩
 rw[←Lz]at hA k1 YW GP⊢
 clear Lz hm hu
 obtain⟨y0,y1,y2⟩:=zQ k1
 by_cases h12:12<m.length
 ·have HR:Hid (mI m us=2):=by unfold Hid mI;rw[if_pos h12]
  have NL:(12:Int)<(m.length:Int):=by omega
  clear h12 hml hul
  go_wp2
  go_ret
  exact⟨zE HR.out.symm,hA⟩
 have NL: ¬(12:Int)<(m.length:Int):=by omega
 have HX:Hid (mI m us=if yL (m.drop 0)≠0 then yL (m.drop 0)else sE us):=by unfold Hid mI;rw[if_neg h12];rfl
 have K0:Hid (m.length≤12):=by unfold Hid;omega
 clear h12 hml
 go_wp2_with fail
 go_loopw [3] (fun i wr=>∃k:Nat,i= .int .i64 k∧k≤m.length∧Hid (mI m us=if yL (m.drop k)≠0 then yL (m.drop k)else sE us)∧Below W0.heap.size W0 wr) (fun i _=>m.length-(intOf i).toNat)
 case atStart=>exact⟨0,rfl,Nat.zero_le _,HX,Below.refl _ _⟩
 case round=>
  clear HX NL y0 y1 y2
  obtain⟨k,rfl,hk,HT,hB⟩:=hrel
  have qM:=bt hA hB
  have k2:=zA5 hB k1
  obtain⟨y0,y1,y2⟩:=zQ k2
  by_cases zN:k<m.length
  case neg=>
   have HR:Hid (mI m us=sE us):=by unfold Hid;rw[HT.out,List.drop_of_length_le (by omega)];rfl
   have vg: ¬(k:Int)<(m.length:Int):=by omega
   have hc:=jy au cu us wr (GP.below hB) hul
   clear HT hk k1 k2
   go_wp2_with fail
   refine hc.mono ?_
   clear hc
   rintro e w2 ⟨rfl,zZ⟩
   have zj:=bt qM zZ
   clear zZ
   go_wp2
   go_ret
   exact⟨zE HR.out.symm,zj⟩
  have vg:(k:Int)<(m.length:Int):=by omega
  have Ke:(k:Int)+1≤9223372036854775807:=by have:=K0.out;omega
  obtain⟨bb,off,ea,hb,hc⟩:=(YW.below hB) k zN
  obtain⟨sa,sc,x0,x1,x2,x3,x4,x5⟩:=hc k zN
  have Li:=sO m[k].id m[k].kind sa sc m[k].links m[k].text wr x4 x5
  have HE:Hid (xC m[k].id m[k].kind m[k].links m[k].text.size=m[k].err):=rfl
  have HN:=(show Hid (_=_) from cQ zN)
  clear hc x4 x5
  rw[HE.out]at Li
  subst ea
  go_wp2_with fail
  refine Li.mono ?_
  clear Li x0 x1 x2 x3 y0 y1 y2
  rintro e w2 ⟨rfl,zZ⟩
  have zj:=bt hB zZ
  have gV:=bt qM zZ
  clear zZ k2
  by_cases e0:m[k].err=0
  case neg=>
   have q1:(m[k].err != 0)=true:=by simpa using e0
   have HR:Hid (mI m us=m[k].err):=by
    have hz:yL (m.drop k)=m[k].err:=by rw[HN.out,if_pos e0]
    unfold Hid;rw[HT.out,hz,if_pos e0]
   clear e0 HT HN
   generalize m[k].err=E at *
   go_wp2
   go_ret
   exact⟨zE HR.out.symm,gV⟩
  have HG:Hid (mI m us=if yL (m.drop (k+1))≠0 then yL (m.drop (k+1))else sE us):=by
   have hz:yL (m.drop k)=yL (m.drop (k+1)):=by rw[HN.out,if_neg (fun e=>e e0)]
   unfold Hid;rw[HT.out,hz]
  rw[e0]
  clear e0 HT HN HE
  go_wp2
  go_roundw
  case rel=>exact⟨k+1,by go_num,by omega,HG,zj⟩
  case measure=>simp[intOf];omega
theorem L5(v:ByteArray):(decide (3≤v.size)&&((v.extract 0 3).toList==[121,101,115]))=pr v:=by
 have h:=Lib.hasPrefix_raw v bo
 rw[show bo.size=3 from rfl,show bo.toList=[121,101,115] by decide +kernel]at h
 exact h
theorem N2(a b c v:ByteArray):gz [a,b,c] v=vj a b c v:=by
 have hc:qm [a,b,c] v 3=PH a b c v:=by
  show((0+vl _ v)+vl _ v)+vl _ v=vl a v+vl b v+vl c v
  simp
 unfold gz vj aG
 rw[hc,Bool.and_assoc,L5,Bool.and_comm]
theorem T3(a b c:ByteArray): ∀l,nB [a,b,c] l=nX a b c l
 |[]=>rfl
 |v::r=>by
  have ih:=T3 a b c r
  unfold nB nX
  rw[N2,ih]
theorem UF(a b c:ByteArray):nB [a,b,c] [a,b,c]=qf a b c:=T3 a b c _
def ltB(x y:ByteArray):Bool:=Op.bytesLess x.toList y.toList
def xU(nm:ByteArray)(id:Int):Bool→List Rf→List Rf
 |put,[]=>if put=true then []else [⟨nm,id⟩]
 |put,r::l=>(if(!put&&ltB nm r.name)=true then [⟨nm,id⟩]else [])++((if(r.name.toList==nm.toList)=true then []else [r])++xU nm id (put||ltB nm r.name) l)
theorem nj{base:Nat}{W:World}{v:Value}{xs:List Rf}(h:W.ownsRow base 65 2 v xs.length (xM xs))(r:Rf)(hn:xs.length≤1000)(hb:base≤W.heap.size):
  ∃v' W',(Builtin.append_ #[34,34] 34 #[v,.slice (some ⟨W.heap.size,0,none⟩) 1 1]).run Tryz.prog (W.alloc (.cells #[.string r.name,.int .i64 r.id] 65))= .ok v' W'∧W'.ownsRow base 65 2 v' (xs++[r]).length (xM (xs++[r]))∧Below base W W':=by
 have hA:=zB W (.cells #[.string r.name,.int .i64 r.id] 65)
 have h':=zL h hA
 have dw:=Nat.le_trans hb hA.size
 obtain⟨v',W',hr,ho,hg,-⟩:=Sh _ base 34 v xs.length (xM xs) h' W.heap.size #[.string r.name,.int .i64 r.id] (heap_alloc_new W _) rfl (by intro u hu;simp only[List.mem_cons,List.not_mem_nil,or_false]at hu;rcases hu with rfl|rfl<;>rfl) hn dw
 refine⟨v',W',hr,?_,(hA.mono hb).trans (uj h' hg dw)⟩
 rw[List.length_append,sj];exact ho
theorem jL(a:Option Addr)(c:Nat)(l:List Rf)(nm:ByteArray)(id:Int)(w:World)(h:yU w a l)(hl:l.length≤100):
  Calls Tryz.prog 293 #[.slice a l.length c,.string nm,.int .i64 id] w fun e w'=>∃v,e= .returned v∧w'.ownsRow w.heap.size 65 2 v (xU nm id (id==0) l).length (xM (xU nm id (id==0) l))∧Below w.heap.size w w':=by
 have HL:Hid (l.length≤100):=hl
 go_enter Tryz.func293,Tryz.ntmps293
 go_wp2_with fail
 obtain⟨p0,HP⟩: ∃p0,Hid (p0=(id==0)):=⟨_,rfl⟩
 rw[←HP.out]
 go_loopw [7,8,9] (fun o q i wr=>∃(k:Nat) (v:Value) (xs:List Rf) (put:Bool),v=o∧q= .bool put∧i= .int .i64 k∧k≤l.length∧Hid (xs.length≤2*k)∧Hid (xU nm id p0 l=xs++xU nm id put (l.drop k))∧wr.ownsRow w.heap.size 65 2 v xs.length (xM xs)∧Below w.heap.size w wr) (fun _ _ i _=>l.length-(intOf i).toNat)
 case atStart=>exact⟨0,_,[],p0,rfl,rfl,rfl,Nat.zero_le _,Nat.le_refl _,rfl,World.ownsRow_nil _ _ _ _,Below.refl _ _⟩
 case round=>
  obtain⟨k,v,xs,put,rfl,rfl,rfl,hk,Ry,HT,yj,hB⟩:=hrel
  have hx:xs.length≤200:=by have:=Ry.out;omega
  by_cases zN:k<l.length
  case neg=>
   have vg: ¬(k:Int)<(l.length:Int):=by omega
   have HE:Hid (xU nm id p0 l=xs++if put=true then []else [⟨nm,id⟩]):=by unfold Hid;rw[HT.out,List.drop_of_length_le (by omega)];rfl
   clear HT hl
   cases put with
   |true=>
    have HF:Hid (wr.ownsRow w.heap.size 65 2 v (xU nm id p0 l).length (xM (xU nm id p0 l))):=by
     unfold Hid;rw[HE.out,if_pos rfl,List.append_nil];exact yj
    clear yj HE
    go_wp2
    go_ret
    exact⟨v,rfl,by rw[←HP.out];exact HF.out,hB⟩
   |false=>
    obtain⟨v1,W1,bg,bO,zM⟩:=nj yj ⟨nm,id⟩ (by omega) hB.size
    have HF:Hid (W1.ownsRow w.heap.size 65 2 v1 (xU nm id p0 l).length (xM (xU nm id p0 l))):=by
     unfold Hid;rw[HE.out,if_neg (by decide)];exact bO
    have zT:=hB.trans zM
    clear yj HE bO zM hB
    go_wp2_with (at_builtin;refine Lib.wpList_append_run _ rfl _ _ 34 34 rfl _ _ rfl rfl _ _ bg ?_)
    go_ret
    exact⟨v1,rfl,by rw[←HP.out];exact HF.out,zT⟩
  have vg:(k:Int)<(l.length:Int):=by omega
  have xa:(k:Int)+1≤9223372036854775807:=by omega
  obtain⟨bb,off,rfl,hb,hc⟩:=h k zN
  obtain⟨x0,x1⟩:=hc k zN
  obtain⟨r,hr⟩: ∃r,r=l[k]:=⟨_,rfl⟩
  have HN:Hid (xU nm id put (l.drop k)=(if(!put&&ltB nm r.name)=true then [⟨nm,id⟩]else [])++((if(r.name.toList==nm.toList)=true then []else [r])++xU nm id (put||ltB nm r.name) (l.drop (k+1)))):=by
   unfold Hid;rw[List.drop_eq_getElem_cons zN,xU,←hr]
  have q0: ∀W,Below w.heap.size w W→W.cell? ⟨bb,off+k*2,none⟩=some (.string r.name):=fun W hW=>by rw[hr];exact(World.cell?_of_block (a:=⟨bb,off+k*2,none⟩) (hW.block bb hb)).trans x0
  have q1: ∀W,Below w.heap.size w W→W.cell? ⟨bb,off+k*2+1,none⟩=some (.int .i64 r.id):=fun W hW=>by rw[hr];exact(World.cell?_of_block (a:=⟨bb,off+k*2+1,none⟩) (hW.block bb hb)).trans x1
  have y0:=q0 _ hB
  have y1:=q1 _ hB
  clear x0 x1 hc hr hl hb
  cases put with
  |true=>
   cases hs:(r.name.toList==nm.toList)with
   |true=>
    have Rz:Hid (xU nm id p0 l=xs++xU nm id true (l.drop (k+1))):=by
     unfold Hid;rw[HT.out,HN.out,hs];simp
    have dF:Hid ((xs).length≤2*(k+1)):=by have:=Ry.out;unfold Hid;omega
    have Nj:Hid (wr.ownsRow w.heap.size 65 2 v (xs).length (xM (xs))):=yj
    clear HT HN Ry
    go_wp2
    go_roundw
    case rel=>exact⟨k+1,v,xs,true,rfl,rfl,by go_num,by omega,dF,Rz,Nj.out,hB⟩
    case measure=>simp[intOf];omega
   |false=>
    obtain⟨v2,W2,qZ,Qo,zZ⟩:=nj yj r (by omega) hB.size
    have zj:=hB.trans zZ
    have Rz:Hid (xU nm id p0 l=xs++[r]++xU nm id true (l.drop (k+1))):=by
     unfold Hid;rw[HT.out,HN.out,hs];simp
    have dF:Hid ((xs++[r]).length≤2*(k+1)):=by have:=Ry.out;unfold Hid;simp only[List.length_append,List.length_cons,List.length_nil];omega
    have Nj:Hid (W2.ownsRow w.heap.size 65 2 v2 (xs++[r]).length (xM (xs++[r]))):=Qo
    clear HT HN Ry Qo zZ
    go_wp2_with first|(at_builtin;refine Lib.wpList_append_run _ rfl _ _ 34 34 rfl _ _ rfl rfl _ _ qZ ?_)
    go_roundw
    case rel=>exact⟨k+1,v2,(xs++[r]),true,rfl,rfl,by go_num,by omega,dF,Rz,Nj.out,zj⟩
    case measure=>simp[intOf];omega
  |false=>
   cases hq:ltB nm r.name with
   |false=>
    have rU:Op.bytesLess nm.toList r.name.toList=false:=hq
    cases hs:(r.name.toList==nm.toList)with
    |true=>
     have Rz:Hid (xU nm id p0 l=xs++xU nm id false (l.drop (k+1))):=by
      unfold Hid;rw[HT.out,HN.out,hs];rw[hq];simp
     have dF:Hid ((xs).length≤2*(k+1)):=by have:=Ry.out;unfold Hid;omega
     have Nj:Hid (wr.ownsRow w.heap.size 65 2 v (xs).length (xM (xs))):=yj
     clear HT HN Ry
     go_wp2
     go_roundw
     case rel=>exact⟨k+1,v,xs,false,rfl,rfl,by go_num,by omega,dF,Rz,Nj.out,hB⟩
     case measure=>simp[intOf];omega
    |false=>
     obtain⟨v2,W2,qZ,Qo,zZ⟩:=nj yj r (by omega) hB.size
     have zj:=hB.trans zZ
     have Rz:Hid (xU nm id p0 l=xs++[r]++xU nm id false (l.drop (k+1))):=by
      unfold Hid;rw[HT.out,HN.out,hs];rw[hq];simp
     have dF:Hid ((xs++[r]).length≤2*(k+1)):=by have:=Ry.out;unfold Hid;simp only[List.length_append,List.length_cons,List.length_nil];omega
     have Nj:Hid (W2.ownsRow w.heap.size 65 2 v2 (xs++[r]).length (xM (xs++[r]))):=Qo
     clear HT HN Ry Qo zZ
     go_wp2_with first|(at_builtin;refine Lib.wpList_append_run _ rfl _ _ 34 34 rfl _ _ rfl rfl _ _ qZ ?_)
     go_roundw
     case rel=>exact⟨k+1,v2,(xs++[r]),false,rfl,rfl,by go_num,by omega,dF,Rz,Nj.out,zj⟩
     case measure=>simp[intOf];omega
   |true=>
    have rU:Op.bytesLess nm.toList r.name.toList=true:=hq
    obtain⟨v1,W1,bg,bO,zM⟩:=nj yj ⟨nm,id⟩ (by omega) hB.size
    have zT:=hB.trans zM
    have z0:=q0 _ zT
    have z1:=q1 _ zT
    cases hs:(r.name.toList==nm.toList)with
    |true=>
     have Rz:Hid (xU nm id p0 l=(xs++[(⟨nm,id⟩:Rf)])++xU nm id true (l.drop (k+1))):=by
      unfold Hid;rw[HT.out,HN.out,hs];rw[hq];simp
     have dF:Hid (((xs++[(⟨nm,id⟩:Rf)])).length≤2*(k+1)):=by have:=Ry.out;unfold Hid;simp only[List.length_append,List.length_cons,List.length_nil];omega
     have Nj:Hid (W1.ownsRow w.heap.size 65 2 v1 ((xs++[(⟨nm,id⟩:Rf)])).length (xM ((xs++[(⟨nm,id⟩:Rf)])))):=bO
     clear HT HN Ry
     go_wp2_with first|(at_builtin;refine Lib.wpList_append_run _ rfl _ _ 34 34 rfl _ _ rfl rfl _ _ bg ?_)
     go_roundw
     case rel=>exact⟨k+1,v1,(xs++[(⟨nm,id⟩:Rf)]),true,rfl,rfl,by go_num,by omega,dF,Rz,Nj.out,zT⟩
     case measure=>simp[intOf];omega
    |false=>
     obtain⟨v2,W2,qZ,Qo,zZ⟩:=nj bO r (by simp only[List.length_append,List.length_cons,List.length_nil];omega) zT.size
     have zj:=zT.trans zZ
     have Rz:Hid (xU nm id p0 l=(xs++[(⟨nm,id⟩:Rf)])++[r]++xU nm id true (l.drop (k+1))):=by
      unfold Hid;rw[HT.out,HN.out,hs];rw[hq];simp
     have dF:Hid (((xs++[(⟨nm,id⟩:Rf)])++[r]).length≤2*(k+1)):=by have:=Ry.out;unfold Hid;simp only[List.length_append,List.length_cons,List.length_nil];omega
     have Nj:Hid (W2.ownsRow w.heap.size 65 2 v2 ((xs++[(⟨nm,id⟩:Rf)])++[r]).length (xM ((xs++[(⟨nm,id⟩:Rf)])++[r]))):=Qo
     clear HT HN Ry Qo zZ
     go_wp2_with first|(at_builtin;refine Lib.wpList_append_run _ rfl _ _ 34 34 rfl _ _ rfl rfl _ _ bg ?_)|(at_builtin;refine Lib.wpList_append_run _ rfl _ _ 34 34 rfl _ _ rfl rfl _ _ qZ ?_)
     go_roundw
     case rel=>exact⟨k+1,v2,((xs++[(⟨nm,id⟩:Rf)])++[r]),true,rfl,rfl,by go_num,by omega,dF,Rz,Nj.out,zj⟩
     case measure=>simp[intOf];omega
theorem SM(n:Int):ur n 0 99=qj n:=by unfold ur qj;simp
theorem Pi(hN: ∀s,vW s=yf s)(q:List Up)(u:Up):qV q u=vf q u:=by
 unfold qV vf
 rw[hN,SM,SM]
theorem Wx(hN: ∀s,vW s=yf s): ∀(us q:List Up),mG q us=uu q us
 |[],_=>rfl
 |u::us,q=>by unfold mG uu;rw[Pi hN,Wx hN us]
theorem Tu(hN: ∀s,vW s=yf s)(us:List Up):sE us=yd us:=by unfold sE yd;rw[Wx hN]
theorem LE(hN: ∀s,vW s=yf s)(m:List Ob)(us:List Up):mI m us=zr m us:=by unfold mI zr;rw[Tu hN]
section
def ff(c:UInt8):Bool:=dD ((c.toNat:Nat):Int)
def tX:List UInt8→List (List UInt8)
 |[]=>[[]]
 |c::l=>if c=47 then []::tX l else match tX l with
  |[]=>[[c]]
  |h::t=>(c::h)::t
theorem Rr(l:List UInt8):tX l≠[]:=by
 cases l with
 |nil=>simp[tX]
 |cons c l=>
  unfold tX;split;·simp
  split<;>simp
def bG(t:List UInt8):Bool:=!(t==[])&&t.all ff
def Ll:Bool→List UInt8→Bool
 |p,[]=>!p
 |p,c::l=>if c=47 then !p&&Ll true l else ff c&&Ll false l
theorem Wc: ∀l:List UInt8,(tX l).all bG=Ll true l∧(match tX l with|[]=>true|h::t=>h.all ff&&t.all bG)=Ll false l
 |[]=>by decide
 |c::l=>by
  obtain⟨ha,hb⟩:=Wc l
  by_cases hc:c=47
  ·simp only[tX,Ll,if_pos hc]
   refine⟨by simp[bG],?_⟩
   show(([]:List UInt8).all ff&&(tX l).all bG)=_
   rw[ha];rfl
  ·simp only[tX,Ll,if_neg hc]
   cases hp:tX l with
   |nil=>exact absurd hp (Rr l)
   |cons h t=>
    rw[hp]at hb
    have dw:(h.all ff&&t.all bG)=Ll false l:=hb
    rw[←dw]
    simp[bG,Bool.and_assoc]
theorem fc: ∀l:List UInt8,Lib.splitK [47] 0 (Lib.count l [47]) l=tX l
 |[]=>by decide
 |c::l=>by
  have ih:=fc l
  by_cases hc:c=47
  ·subst hc
   have LX:Lib.index (47::l) [47]=((0:Nat):Int):=by rw[Lib.index];simp[List.isPrefixOf]
   rw[Lib.count_cons_eq,Nat.add_comm 1,Lib.splitK,LX]
   simp only[tX,if_true]
   rw[if_neg (by decide)]
   simpa using ih
  ·have hp:([47]:List UInt8).isPrefixOf (c::l)=false:=by simp[List.isPrefixOf];exact fun e=>hc e.symm
   have LX:Lib.index (c::l) [47]=if Lib.index l [47]== -1 then -1 else Lib.index l [47]+1:=by rw[Lib.index,hp];simp
   rw[Lib.count_cons_ne c 47 l hc]
   simp only[tX,if_neg hc,←ih]
   cases hk:Lib.count l [47]with
   |zero=>rfl
   |succ k=>
    by_cases hm:Lib.index l [47]= -1
    ·rw[Lib.count_miss hm]at hk;omega
    ·have bT:=Lib.index_ge l [47]
     obtain⟨j,hj⟩: ∃j:Nat,Lib.index l [47]=j:=⟨(Lib.index l [47]).toNat,by omega⟩
     have e1: ¬(((j:Nat):Int)== -1)=true:=fun e=>by have:=beq_iff_eq.1 e;omega
     have e2: ¬(((j:Nat):Int)+1== -1)=true:=fun e=>by have:=beq_iff_eq.1 e;omega
     have e3:(((j:Nat):Int)+1).toNat=j+1:=by omega
     rw[Lib.splitK,Lib.splitK,LX,hj,if_neg e1,if_neg e1,if_neg e2,e3,Int.toNat_natCast]
     simp
theorem jT(s:ByteArray):s.data.toList.length=s.size:=by cases s;simp[ByteArray.size]
theorem c47(c:UInt8):(((c.toNat:Nat):Int)=47)↔c=47:=by
 refine⟨fun e=>UInt8.toNat_inj.1 ?_,fun e=>by subst e;rfl⟩
 have h:(47:UInt8).toNat=47:=rfl
 omega
theorem G0(s:ByteArray)(i:Nat):(Utf8.decode s i).1=(s.get! i).toNat∧(Utf8.decode s i).2=1∨128≤(Utf8.decode s i).1∧128≤(s.get! i).toNat:=by
 simp only[Utf8.decode,Nat.add_zero,Utf8.runeError]
 repeat' split
 all_goals first
  |(simp;done)
  |(simp;omega)
  |(rename_i h;simp only[Bool.and_eq_true,decide_eq_true_eq,ge_iff_le]at h;simp;omega)
theorem Mb(s:ByteArray)(i:Nat)(h:i<s.size): ∃h':i<s.data.toList.length,s.get! i=s.data.toList[i]:=by
 cases s with
 |mk d=>
  have h':i<d.size:=h
  refine⟨by simpa using h',?_⟩
  show d[i]! =_
  rw[getElem!_pos d i h'];simp
theorem NC{x:Int}(h:dD x=true):x≤122:=by
 simp[dD]at h;omega
theorem WH(s:ByteArray): ∀(f i:Nat),s.size≤i+f→decide (0≤Lib.idxFuncFrom sU true s f i)=!(s.data.toList.drop i).all ff
 |0,i,h=>by
  rw[List.drop_of_length_le (by rw[jT];omega)]
  rfl
 |f+1,i,h=>by
  unfold Lib.idxFuncFrom
  by_cases hi:i<s.size
  ·rw[if_pos hi]
   obtain⟨h',hg⟩:=Mb s i hi
   rw[List.drop_eq_getElem_cons h',List.all_cons,←hg]
   rcases G0 s i with⟨e1,e2⟩|⟨e1,e2⟩
   ·rw[e1,e2]
    have:sU (s.get! i).toNat=!ff (s.get! i):=rfl
    rw[this]
    cases ho:ff (s.get! i)with
    |true=>
     rw[if_neg (by simp),WH s f (i+1) (by omega)]
     simp
    |false=>rw[if_pos (by rfl)];simp
   ·have hb:sU (Utf8.decode s i).1=true:=by
     unfold sU
     cases hm:dD ((Utf8.decode s i).1:Int)with
     |true=>have:=NC hm;omega
     |false=>rfl
    have ho:ff (s.get! i)=false:=by
     unfold ff
     cases hm:dD (((s.get! i).toNat:Nat):Int)with
     |true=>have:=NC hm;omega
     |false=>rfl
    rw[if_pos hb,ho];simp
  ·rw[if_neg hi,List.drop_of_length_le (by rw[jT];omega)]
   rfl
theorem YE(t:ByteArray):sR t=!bG t.data.toList:=by
 unfold sR bG
 have hb:decide (0≤Lib.idxFunc sU true t)=!t.data.toList.all ff:=by
  have:=WH t t.size 0 (by omega)
  rwa[List.drop_zero]at this
 have hl:t.toList=t.data.toList:=Lib.toList_data t
 rw[hb,hl]
 cases(t.data.toList==[])<;>cases t.data.toList.all ff<;>rfl
theorem Ru(s:ByteArray):(jg s).any sR=!Ll true s.data.toList:=by
 rw[←(Wc s.data.toList).1,←fc]
 have h1:(jg s).map (·.data.toList)=Lib.splitK [47] 0 (Lib.count s.data.toList [47]) s.data.toList:=Lib.splitB_data nI 0 _ s
 rw[←h1,List.all_map]
 rw[List.not_all_eq_any_not]
 congr 1
 funext t
 rw[YE];rfl
def Jj:UInt8→List UInt8→Bool
 |p,[]=>!(p==47)
 |p,c::l=>(ff c||(c==47&&!(p==47)))&&Jj c l
theorem SR: ∀(l:List UInt8) (p:UInt8),Ll (p==47) l=Jj p l
 |[],_=>rfl
 |c::l,p=>by
  have ih:=SR l c
  unfold Ll Jj
  by_cases hc:c=47
  ·subst hc
   have:ff 47=false:=by decide
   rw[if_pos rfl,this,←ih];simp
  ·have h1:(c==47)=false:=by simpa using hc
   rw[h1]at ih
   rw[if_neg hc,h1,←ih];simp
theorem SJ: ∀(l:List UInt8) (p:UInt8),Jj p l=((List.range l.length).all (fun i=>ff (l.getD i 0)||(l.getD i 0==47&&!((p::l).getD i 0==47)))&&!((p::l).getD l.length 0==47))
 |[],p=>by simp[Jj]
 |c::l,p=>by
  rw[Jj,SJ l c,List.length_cons,List.range_succ_eq_map,List.all_cons,List.all_map]
  simp[Bool.and_assoc,Function.comp_def]
theorem JQ(s:ByteArray)(i:Nat):Wg s i=(ff (s.data.toList.getD i 0)||(s.data.toList.getD i 0==47&&!(s.data.toList.getD (i-1) 0==47))):=by
 have key: ∀c:UInt8,(decide ((((c.toNat:Nat):Int))=47))=(c==47):=fun c=>by
  by_cases h:c=47
  ·subst h;rfl
  ·rw[decide_eq_false (fun e=>h ((c47 c).1 e))];symm;simpa using h
 unfold Wg ff dD
 simp only[key]
 congr 1
 simp[Bool.decide_and]
 rfl
theorem dO(s:ByteArray):vW s=yf s:=by
 unfold vW yf
 split
 ·rfl
 rw[Ru]
 generalize hl:s.data.toList=L
 have hs:s.size=L.length:=by rw[←hl,jT]
 have hk:Ll true L=Jj 47 L:=SR L 47
 simp only[c47,hs,hk]
 have hB: ∀i,Wg s i=(ff (L.getD i 0)||(L.getD i 0==47&&!(L.getD (i-1) 0==47))):=fun i=>by rw[JQ,hl]
 cases L with
 |nil=>rfl
 |cons c l=>
  rw[if_neg (by simp)]
  have h0:(c::l).getD 0 0=c:=rfl
  rw[h0,Jj]
  by_cases hc:c=47
  ·subst hc
   have:ff 47=false:=by decide
   rw[if_pos rfl,this];rfl
  have Vd:(c==47)=false:=by simpa using hc
  rw[if_neg hc,Vd,Bool.false_and,Bool.or_false,SJ l c]
  have hr:(List.range (c::l).length).all (Wg s)=(ff c&&(List.range l.length).all (fun i=>ff (l.getD i 0)||(l.getD i 0==47&&!((c::l).getD i 0==47)))):=by
   rw[List.length_cons,List.range_succ_eq_map,List.all_cons,List.all_map,hB 0]
   have h1:(ff ((c::l).getD 0 0)||((c::l).getD 0 0==47&&!((c::l).getD (0-1) 0==47)))=ff c:=by
    show(ff c||(c==47&&_))=_
    rw[Vd];simp
   rw[h1]
   congr 2
   funext i
   simp only[Function.comp_apply,Nat.succ_eq_add_one,hB]
   simp
  rw[hr]
  have hz:(c::l).length-1=l.length:=by simp
  rw[hz]
  by_cases ky:(c::l).getD l.length 0=47
  ·have PG:((c::l).getD l.length 0==47)=true:=by simpa using ky
   rw[if_pos ky,PG];simp
  ·have PG:((c::l).getD l.length 0==47)=false:=by simpa using ky
   rw[if_neg ky,PG,Bool.not_false,Bool.and_true]
   cases(ff c&&(List.range l.length).all (fun i=>ff (l.getD i 0)||(l.getD i 0==47&&!((c::l).getD i 0==47))))<;>rfl
theorem kY(nm:ByteArray)(id:Int): ∀l:List Rf,xU nm id true l=xP l nm
 |[]=>rfl
 |r::l=>by
  rw[xU,Bool.true_or,kY nm id l]
  unfold xP
  rw[List.filter_cons]
  have:yt nm r=(r.name.toList==nm.toList):=rfl
  rw[this]
  cases(r.name.toList==nm.toList)<;>simp
theorem dM(nm:ByteArray)(id:Int): ∀l:List Rf,xU nm id false l=kT ⟨nm,id⟩ (xP l nm)
 |[]=>rfl
 |r::l=>by
  have ih:=dM nm id l
  have hd:xP (r::l) nm=if(r.name.toList==nm.toList)=true then xP l nm else r::xP l nm:=by
   unfold xP
   rw[List.filter_cons]
   have:yt nm r=(r.name.toList==nm.toList):=rfl
   rw[this]
   cases(r.name.toList==nm.toList)<;>simp
  rw[xU,hd]
  by_cases hs:(r.name.toList==nm.toList)=true
  ·have hq:ltB nm r.name=false:=by
    unfold ltB;rw[beq_iff_eq.1 hs];exact vq _
   rw[if_pos hs,if_pos hs,hq,Bool.or_false,ih];rfl
  ·rw[if_neg hs,if_neg hs]
   have yM:r.name.toList≠nm.toList:=fun e=>hs (beq_iff_eq.2 e)
   cases hq:ltB nm r.name with
   |true=>
    have hn:Op.bytesLess r.name.toList nm.toList=false:=by
     cases hb:Op.bytesLess r.name.toList nm.toList with
     |false=>rfl
     |true=>have:=tL _ _ _ hb hq;rw[vq]at this;cases this
    rw[kT,Bool.or_true,kY]
    show _=if Op.bytesLess r.name.toList nm.toList=true then _ else _
    rw[hn];rfl
   |false=>
    have hl:Op.bytesLess r.name.toList nm.toList=true:=rx _ _ hq (fun e=>yM e.symm)
    rw[kT,Bool.or_false,ih]
    show _=if Op.bytesLess r.name.toList nm.toList=true then _ else _
    rw[if_pos hl];rfl
theorem mT(l:List Rf)(nm:ByteArray)(id:Int):xU nm id (id==0) l=yE l nm id:=by
 unfold yE
 by_cases h:id=0
 ·subst h;rw[if_pos rfl];exact kY nm 0 l
 ·rw[if_neg h,show(id==0)=false by simpa using h];exact dM nm id l
def dQ(pre:List Ob)(kind:Int):Nat→List Int→Int
 |_,[]=>0
 |k,x::xs=>if yS pre x=0 then 5 else if(kind=2∧yS pre x=3)∨(kind=3∧k=0∧yS pre x≠2)∨(kind=3∧0<k∧yS pre x≠3)then 7 else dQ pre kind (k+1) xs
def QJ(pre:List Ob)(o:Ob):Bool:=match pre.getLast? with|some p=>decide (o.id≤p.id)|none=>false
def fi(pre:List Ob)(o:Ob):Int:=if o.err≠0 then o.err else if QJ pre o=true then 4 else dQ pre o.kind 0 o.links
def Z5:List Ob→List Ob→Int
 |_,[]=>0
 |pre,o::r=>if fi pre o≠0 then fi pre o else Z5 (pre++[o]) r
def tK(l:List Ob):Int:=if 40<l.length then 2 else Z5 [] l
theorem ax{y:Ob}: ∀(m:List Ob),y∈m→yS m y.id=0→∃z∈m,z.id=y.id∧z.kind=0
 |[],h,_=>by cases h
 |o::m,h,hk=>by
  rw[yS]at hk
  by_cases ho:o.id=y.id
  ·rw[if_pos ho]at hk;exact⟨o,by simp,ho,hk⟩
  ·rw[if_neg ho]at hk
   rcases List.mem_cons.1 h with rfl|h
   ·exact absurd rfl ho
   ·obtain⟨z,hz,e⟩:=ax m h hk
    exact⟨z,List.mem_cons_of_mem _ hz,e⟩
theorem Wa{y:Ob}{i:Nat}: ∀{l:List Ob},xm l→∀hi:i<l.length,l[i]=y→yS l y.id=y.kind:=by
 intro l hr hi he
 by_cases h0:yS l y.id=0
 ·have hm:y∈l:=he▸List.getElem_mem hi
  obtain⟨z,hz,e1,e2⟩:=ax l hm h0
  rw[rW hr hz hm e1]at e2;rw[h0,e2]
 ·obtain⟨j,hj,e1,_,e2⟩:=ju h0
  have hm:y∈l:=he▸List.getElem_mem hi
  rw[e2,rW hr (List.getElem_mem hj) hm e1]
theorem dh{x:Int}: ∀{l:List Ob},(∀y∈l,y.id≠x)→yS l x=0
 |[],_=>rfl
 |o::l,h=>by
  rw[yS,if_neg (h o (by simp))];exact dh (fun y hy=>h y (by simp[hy]))
theorem NK{x:Ob}(h:x.err=0):1≤x.kind∧x.kind≤3:=(xg h).2.1
theorem Tz{pre suf:List Ob}{x:Ob}(hr:xm (pre++x::suf))(hp: ∀y∈pre,y.err=0)(hk:1≤x.kind∧x.kind≤3):
  ∀(L:List Int) (k:Nat),(∀y∈L,y<x.id)→(x.kind=1→L=[])→dQ pre x.kind k L=vZ (pre++x::suf) x.kind k L
 |[],_,_,_=>rfl
 |y::L,k,hl,h1=>by
  have yM:x.kind≠1:=fun e=>by cases h1 e
  rw[dQ,vZ,Tz hr hp hk L (k+1) (fun z hz=>hl z (by simp[hz])) (fun e=>absurd e yM)]
  have hy:=hl y (by simp)
  by_cases fT: ∃z∈pre,z.id=y
  ·obtain⟨z,hz,rfl⟩:=fT
   obtain⟨i,hi,he⟩:=List.getElem_of_mem hz
   have ky:z∈pre++x::suf:=by simp[hz]
   have e1:yS pre z.id=z.kind:=Wa (hr.sublist (List.sublist_append_left _ _)) hi he
   have e2:tJ (pre++x::suf) z.id=z.kind:=sH hr ky
   have e3: ¬zW (pre++x::suf) z.id<0:=by
    have:=yy.2 ⟨z,ky,rfl⟩;omega
   have hzk:=NK (hp z hz)
   rw[e1,e2,if_neg (by omega),if_neg e3]
   by_cases hb:(x.kind=2∧z.kind=3)∨(x.kind=3∧k=0∧z.kind≠2)∨(x.kind=3∧0<k∧z.kind≠3)
   ·have hm:gn x.kind (k:Nat) z.kind=false:=by
     unfold gn
     rcases hb with⟨a,b⟩|⟨a,b,c⟩|⟨a,b,c⟩
     ·rw[if_pos a,b];decide
     ·rw[if_neg (by omega),if_pos ⟨a,by omega⟩];simpa using c
     ·rw[if_neg (by omega),if_neg (by omega),if_pos a];simpa using c
    rw[if_pos hb,if_pos hm]
   ·have hm: ¬gn x.kind (k:Nat) z.kind=false:=by
     unfold gn
     by_cases a:x.kind=2
     ·rw[if_pos a]
      have:z.kind=1∨z.kind=2:=by omega
      rcases this with e|e<;>rw[e]<;>decide
     ·have a3:x.kind=3:=by omega
      by_cases c:k=0
      ·rw[if_neg a,if_pos ⟨a3,by omega⟩]
       have:z.kind=2:=by omega
       rw[this];decide
      ·rw[if_neg a,if_neg (by omega),if_pos a3]
       have:z.kind=3:=by omega
       rw[this];decide
    rw[if_neg hb,if_neg hm]
  ·have e1:yS pre y=0:=dh (fun z hz e=>fT ⟨z,hz,e⟩)
   have e3:zW (pre++x::suf) y<0:=by
    refine Int.not_le.1 (fun h=>?_)
    obtain⟨z,hz,e⟩:=yy.1 h
    rcases List.mem_append.1 hz with hz|hz
    ·exact fT ⟨z,hz,e⟩
    ·rcases List.mem_cons.1 hz with rfl|hz
     ·omega
     ·have:=(List.pairwise_cons.1 (List.pairwise_append.1 hr).2.1).1 z hz
      omega
   rw[e1,if_pos rfl,if_pos e3]
theorem SE: ∀(suf pre:List Ob) (last:Int),xm (pre++suf)→(∀y∈pre,y.err=0)→(last=match pre.getLast? with|some p=>p.id|none=>0)→Z5 pre suf=vn (pre++suf) last suf
 |[],_,_,_,_,_=>rfl
 |x::suf,pre,last,hr,hp,hl=>by
  have hc:fi pre x=rO (pre++x::suf) last x:=by
   unfold fi rO
   by_cases h0:x.err≠0
   ·rw[if_pos h0,if_pos h0]
   have LZ:x.err=0:=Classical.not_not.1 h0
   have hz:=xg LZ
   rw[if_neg h0,if_neg h0]
   have Rh:QJ pre x=false∧¬x.id≤last:=by
    unfold QJ
    cases hg:pre.getLast? with
    |none=>rw[hg]at hl;have CV:last=0:=hl;exact⟨rfl,by have:=hz.1.1;omega⟩
    |some p=>
     rw[hg]at hl
     have hm:p∈pre:=List.mem_of_getLast? hg
     have:=(List.pairwise_append.1 hr).2.2 p hm x (by simp)
     have CV:last=p.id:=hl;exact⟨by simp;omega,by omega⟩
   rw[Rh.1,if_neg Rh.2,if_neg (by decide)]
   refine Tz hr hp hz.2.1 _ 0 (fun y hy=>(rm _ 0 0 hz.2.2.2.2.1 y hy).2) (fun e=>?_)
   have:=hz.2.2.2.2.2
   cases hL:x.links with
   |nil=>rfl
   |cons a b=>exact absurd (.inl ⟨e,by rw[hL];simp⟩) this
  rw[Z5,vn,hc]
  by_cases yM:rO (pre++x::suf) last x≠0
  ·rw[if_pos yM,if_pos yM]
  ·have hz:x.err=0:=by
    have h:=Classical.not_not.1 yM
    unfold rO at h
    by_cases h0:x.err≠0
    ·rw[if_pos h0]at h;exact h
    ·exact Classical.not_not.1 h0
   rw[if_neg yM,if_neg yM]
   have:=SE suf (pre++[x]) x.id (by simpa using hr) (fun y hy=>by
    rcases List.mem_append.1 hy with h|h
    ·exact hp y h
    ·rw[List.mem_singleton.1 h];exact hz) (by simp)
   rw[this];simp
theorem gM{l:List Ob}(hr:xm l):tK l=zK l:=by
 unfold tK zK
 rw[SE l [] 0 hr (fun _ h=>by cases h) rfl];rfl
def yk{α:Type}(A:List α)(n:Nat)(x:α):List α:=A.take n++x::A.drop n
theorem rf{α:Type}{A:List α}{n:Nat}{x:α}(h:n≤A.length):(yk A n x).length=A.length+1:=by simp[yk];omega
theorem Xc{α:Type}(A:List α)(x:α):yk A A.length x=A++[x]:=by simp[yk]
theorem QX{α β:Type}(f:α→β)(A:List α)(n:Nat)(x:α):(yk A n x).map f=yk (A.map f) n (f x):=by simp[yk,List.map_take,List.map_drop]
theorem WN{α:Type}{A:List α}{n:Nat}{x:α}(h:n≤A.length):(yk A n x)[n]'(by rw[rf h];omega)=x:=by
 simp[yk,Nat.min_eq_left h]
theorem Rb{α:Type}{A:List α}{n:Nat}{x:α}(h:n<A.length):(yk A (n+1) x)[n]'(by rw[rf (by omega)];omega)=A[n]:=by
 have:n<min (n+1) A.length:=by omega
 simp[yk,this]
theorem TB{α:Type}{A:List α}{n:Nat}{x:α}(h:n<A.length):((yk A (n+1) x).set (n+1) A[n]).set n x=yk A n x:=by
 have e1:A.take (n+1)=A.take n++[A[n]]:=List.take_succ_eq_append_getElem h
 have e2:A.drop n=A[n]::A.drop (n+1):=List.drop_eq_getElem_cons h
 have hl:(A.take n).length=n:=by simp;omega
 unfold yk
 rw[e1,e2]
 generalize A.take n=P at *
 generalize A.drop (n+1)=S at *
 generalize A[n]=y at *
 subst hl
 simp
theorem RH{A:List Ob}{x:Ob}{n:Nat}(hr:xm A)(si:zW A x.id= -1)(hn:n≤A.length)(hi: ∀k (h:k<A.length),n≤k→x.id<A[k].id)(lo: ∀h:n-1<A.length,0<n→¬x.id<(A[n-1]'h).id):yk A n x=vJ A x:=by
 have pQ: ∀k (h:k<A.length),A[k].id≠x.id:=fun k h e=>by
  have:=yy.2 ⟨A[k],List.getElem_mem h,e⟩;omega
 have hb:yV A x.id=n:=by
  have hle:=rd A x.id
  have h1: ¬n<yV A x.id:=fun h=>by
   have hk:n<A.length:=by omega
   have:=(rL hr x.id n hk).1 h
   have:=hi n hk (Nat.le_refl _);omega
  have h2: ¬yV A x.id<n:=fun h=>by
   have hk:n-1<A.length:=by omega
   have q:=lo hk (by omega)
   have q2:=pQ (n-1) hk
   have:=(rL hr x.id (n-1) hk).2 (by omega)
   omega
  omega
 unfold vJ yk
 rw[if_pos si,hb];simp
def tf(l m:List Ob):Int:=if zw l m≠0 then zw l m else zK (zH l m)
theorem ZC{l m:List Ob}(h:zK l=0):xD l m=if 12<m.length then 2 else if yL m≠0 then yL m else tf l m:=by
 unfold xD tf;rw[if_neg (by simp[h])]
theorem Rs{L:List Ob}{x:Ob}(h:zW L x.id= -1):(vJ L x).length=L.length+1:=by
 have:=rd L x.id
 unfold vJ;rw[if_pos h];simp;omega
theorem fY: ∀(m L:List Ob),m.Pairwise (fun x y=>x.id≠y.id)→(∀x∈m,∀y∈L,y.id≠x.id)→(zH L m).length=L.length+m.length
 |[],_,_,_=>rfl
 |x::m,L,hp,hn=>by
  have h1:zW L x.id= -1:=by
   rcases xG L x.id with h|⟨i,e,hi⟩
   ·exact h
   ·obtain⟨z,hz,q⟩:=yy.1 (show 0≤zW L x.id by omega)
    exact absurd q (hn x (by simp) z hz)
  have G9:=List.pairwise_cons.1 hp
  rw[zH,fY m (vJ L x) G9.2 (fun y hy z hz=>?_),Rs h1,List.length_cons]
  ·omega
  ·rcases gG hz with q|q
   ·exact hn y (by simp[hy]) z q
   ·rw[q];exact G9.1 y hy
theorem fj{a b:List Ob}(ha:zK a=0)(_hb:zK b=0):(zH b (yH a b)).length=b.length+(yH a b).length:=by
 refine fY _ _ ((fK (zh.1 ha).2.2).imp fun h=>by omega) fun x hx y hy e=>?_
 have:=(gd.1 hx).2
 have:=yy.2 ⟨y,hy,e⟩
 omega
def rA(n r:Rp):Int:=if n.g<r.g then 4 else if vc r.s n.s≠0 then vc r.s n.s else tf r.s (yH n.s r.s)
theorem L6{n r:Rp}(hn:n.err=0)(hr:r.err=0):rA n r=uZ n r:=by
 have h1:=sC hn
 have h2:=sC hr
 unfold rA uZ nW tq
 rw[if_neg (by simp[hn]: ¬n.err≠0),if_neg (by simp[hr]: ¬r.err≠0),if_neg (by simp[h1]: ¬zK n.s≠0),if_neg (by simp[h2]: ¬zK r.s≠0)]
 by_cases hg:n.g<r.g
 ·rw[if_pos hg,if_pos hg]
 rw[if_neg hg,if_neg hg]
 by_cases hd:vc r.s n.s≠0
 ·rw[if_pos hd,if_pos hd]
 have hd0:vc r.s n.s=0:=Classical.not_not.1 hd
 rw[if_neg hd,if_neg hd]
 obtain⟨e1,e2⟩:=TF h1 h2 hd0
 have hlen:(zH r.s (yH n.s r.s)).length=r.s.length+(yH n.s r.s).length:=fj h1 h2
 unfold tf
 rw[if_neg (by simp[e1])]
 by_cases hl:40<r.s.length+(yH n.s r.s).length
 ·rw[if_pos hl];unfold zK;rw[hlen,if_pos hl]
 ·rw[if_neg hl];exact fJ h1 h2 hd0 (by omega)
def uy(o:List Ob)(f:Bool)(l:List Rf)(u:Up):Int:=if um l u.name≠u.old then 4 else if u.new=0 then 0 else if xB o u.new≠0 then xB o u.new else if u.old≠0∧f=false∧¬u.old∈vz o [u.new]then 4 else 0
def qO(o:List Ob)(f:Bool):List Rf→List Up→Int
 |_,[]=>0
 |l,u::us=>if uy o f l u≠0 then uy o f l u else qO o f (yE l u.name u.new) us
theorem KY{o:List Ob}(hk:zK o=0){i:Int}:yS o i=3↔gE o i:=by
 have hr:=(zh.1 hk).2.2
 constructor
 ·intro h
  obtain⟨j,hj,e1,_,e2⟩:=ju (by rw[h];decide:yS o i≠0)
  refine⟨⟨o[j],List.getElem_mem hj,e1⟩,fun x hx e=>?_⟩
  rw[rW hr hx (List.getElem_mem hj) (e.trans e1.symm),←e2,h]
 ·rintro⟨⟨x,hx,e⟩,h⟩
  obtain⟨j,hj,e2⟩:=List.getElem_of_mem hx
  rw[←e,Wa hr hj e2]
  exact h x hx e
theorem qx{o:List Ob}(hk:zK o=0){i:Int}:xB o i=0↔gE o i:=by
 rw[←KY hk]
 unfold xB
 constructor
 ·intro h
  by_cases h0:yS o i=0
  ·rw[if_pos h0]at h;cases h
  ·rw[if_neg h0]at h
   by_cases h3:yS o i≠3
   ·rw[if_pos h3]at h;cases h
   ·exact Classical.not_not.1 h3
 ·intro h
  rw[if_neg (by rw[h];decide),if_neg (by simp[h])]
theorem QG{o:List Ob}{f:Bool}{l:List Rf}{u:Up}(hk:zK o=0)(hn:yf u.name=0)(hC: ∀r∈l,gE o r.id):uy o f l u=0↔xo o f l u=0:=by
 rw[Xf hn]
 unfold ER uy
 by_cases h1:um l u.name≠u.old
 ·rw[if_pos h1];exact⟨fun h=>(by cases h),fun h=>absurd h.1 h1⟩
 have Ds:=Classical.not_not.1 h1
 rw[if_neg h1]
 by_cases h2:u.new=0
 ·rw[if_pos h2];exact⟨fun _=>⟨Ds,fun h=>absurd h2 h⟩,fun _=>rfl⟩
 rw[if_neg h2]
 have key:rB o f u=0↔(gE o (if u.old=0 then u.new else u.old)∧gE o u.new)∧(xT o (if u.old=0 then u.new else u.old) u.new||f)=true:=by
  unfold rB
  constructor
  ·intro h
   by_cases hb:yZ o (if u.old=0 then u.new else u.old) u.new≠0
   ·rw[if_pos hb]at h;exact absurd h hb
   ·rw[if_neg hb]at h
    refine⟨(vt.1 (Classical.not_not.1 hb)).2,?_⟩
    by_cases hc:(xT o (if u.old=0 then u.new else u.old) u.new||f)=true
    ·exact hc
    ·rw[if_neg hc]at h;cases h
  ·rintro⟨hb,hc⟩
   rw[if_neg (fun q=>q (vt.2 ⟨hk,hb⟩)),if_pos hc]
 have hold:u.old≠0→gE o u.old:=fun h=>by
  obtain⟨r,hr,_,e⟩:=XJ (by rw[Ds];exact h:um l u.name≠0)
  rw[←Ds,←e];exact hC r hr
 by_cases h3:xB o u.new≠0
 ·rw[if_pos h3]
  exact⟨fun h=>absurd h h3,fun h=>absurd ((qx hk).2 (key.1 (h.2 h2)).1.2) h3⟩
 rw[if_neg h3]
 have si:=(qx hk).1 (Classical.not_not.1 h3)
 by_cases h0:u.old=0
 ·rw[if_neg (fun q=>q.1 h0)]
  refine⟨fun _=>⟨Ds,fun _=>key.2 ?_⟩,fun _=>rfl⟩
  rw[if_pos h0]
  have hs:=(gy (vt.2 ⟨hk,si,si⟩)).2
  exact⟨⟨si,si⟩,by rw[hs];rfl⟩
 ·have hb:yZ o u.old u.new=0:=vt.2 ⟨hk,hold h0,si⟩
  rw[if_neg h0]at key
  have hB:xT o u.old u.new=decide (u.old∈vz o [u.new]):=by unfold xT;rw[hb];simp
  rw[hB]at key
  by_cases h4:u.old≠0∧f=false∧¬u.old∈vz o [u.new]
  ·rw[if_pos h4]
   refine⟨fun h=>(by cases h),fun h=>?_⟩
   have:=(key.1 (h.2 h2)).2
   simp[h4.2.1,h4.2.2]at this
  ·rw[if_neg h4]
   refine⟨fun _=>⟨Ds,fun _=>key.2 ⟨⟨hold h0,si⟩,?_⟩⟩,fun _=>rfl⟩
   cases f with
   |true=>simp
   |false=>
    by_cases h5:u.old∈vz o [u.new]
    ·simp[h5]
    ·exact absurd ⟨h0,rfl,h5⟩ h4
theorem cA{o:List Ob}{f:Bool}{l:List Rf}{u:Up}(hk:zK o=0)(hC: ∀r∈l,gE o r.id)(h:uy o f l u=0): ∀r∈yE l u.name u.new,gE o r.id:=fun r hr=>by
 rcases V3.1 hr with⟨q,_⟩|⟨q,rfl⟩
 ·exact hC r q
 ·refine(qx hk).1 ?_
  unfold uy at h
  by_cases h1:um l u.name≠u.old
  ·rw[if_pos h1]at h;cases h
  rw[if_neg h1,if_neg q]at h
  by_cases h3:xB o u.new≠0
  ·rw[if_pos h3]at h;exact h
  ·exact Classical.not_not.1 h3
theorem Wp{o:List Ob}{f:Bool}(hk:zK o=0): ∀(us:List Up) (l:List Rf),(∀u∈us,yf u.name=0)→(∀r∈l,gE o r.id)→(qO o f l us=0↔uN o f l us=0)
 |[],_,_,_=>Iff.rfl
 |u::us,l,hn,hC=>by
  have hs:=QG (f:=f) hk (hn u (by simp)) hC
  rw[qO,uN]
  by_cases h:uy o f l u≠0
  ·rw[if_pos h,if_pos (fun e=>h (hs.2 e))]
   exact⟨fun e=>absurd e h,fun e=>absurd (hs.2 e) h⟩
  ·have h0:=Classical.not_not.1 h
   rw[if_neg h,if_neg (fun e=>e (hs.1 h0))]
   exact Wp hk us _ (fun v hv=>hn v (by simp[hv])) (cA hk hC h0)
theorem S8{o:List Ob}{f:Bool}{l:List Rf}{us:List Up}{k:Nat}(hk:k<us.length):qO o f l (us.drop k)=if uy o f l us[k]≠0 then uy o f l us[k]else qO o f (yE l us[k].name us[k].new) (us.drop (k+1)):=by
 rw[List.drop_eq_getElem_cons hk,qO]
theorem Rv{l:List Rf}{us:List Up}{k:Nat}(hk:k<us.length):yK l (us.drop k)=yK (yE l us[k].name us[k].new) (us.drop (k+1)):=by
 rw[List.drop_eq_getElem_cons hk,yK]
def xk(l:List Ob)(S:List Int):Array Value:=(l.map (fun x=>Value.bool (decide (x.id∈S)))).toArray
theorem WG(l:List Ob)(S:List Int):(xk l S).size=l.length:=by simp[xk]
theorem sD{l:List Ob}{S:List Int}{i:Nat}(h:i<l.length):(xk l S)[i]? =some (.bool (decide (l[i].id∈S))):=by simp[xk,h]
theorem cq{l:List Ob}{S T:List Int}(h: ∀x∈l,x.id∈S↔x.id∈T):xk l S=xk l T:=by
 unfold xk
 congr 1
 refine List.map_congr_left (fun x hx=>?_)
 congr 1
 exact decide_eq_decide.2 (h x hx)
theorem ek{l:List Ob}{S:List Int}(hr:xm l){y:Int}{p:Nat}(hp:zW l y=p):(xk l S).setIfInBounds p (.bool true)=xk l (S++[y]):=by
 obtain⟨hi,he⟩:=tH hp
 apply Array.ext_getElem?
 intro j
 rw[Array.getElem?_setIfInBounds]
 by_cases hj:j<l.length
 ·rw[sD (S:=S++[y]) hj]
  by_cases hpj:p=j
  ·subst hpj
   rw[if_pos rfl,if_pos (by rw[WG];omega)]
   simp[he]
  ·rw[if_neg hpj,sD hj]
   have:l[j].id≠y:=fun e=>by
    have:=tS hr hj
    rw[e,hp]at this;omega
   simp[this]
 ·rw[if_neg (by omega)]
  simp[xk,hj]
theorem YL{on:Ob→List Int}{l:List Ob}{ids:List Int}{i:Nat}(h:i<l.length):rJ on (l.drop i) ids=rj on (rJ on (l.drop (i+1)) ids) l[i]:=by
 rw[List.drop_eq_getElem_cons h];rfl
theorem RA{L:List Int}{k:Nat}(h:k<L.length)(hk:0<k):(L.take (k+1)).tail=(L.take k).tail++[L[k]]:=by
 rw[List.take_succ_eq_append_getElem h]
 cases L with
 |nil=>simp at h
 |cons a t=>
  cases k with
  |zero=>omega
  |succ k=>simp
section
def uq(a b:ByteArray):Prop:=a=b∨(pr a=false∧pr b=false)
theorem uq.one{a a' v:ByteArray}(h:uq a a')(hv:pr v=true):vl a v=vl a' v:=by
 rcases h with rfl|⟨h1,h2⟩
 ·rfl
 ·have e1:a≠v:=fun e=>by rw[e,hv]at h1;cases h1
  have e2:a'≠v:=fun e=>by rw[e,hv]at h2;cases h2
  have n1: ¬(a.toList==v.toList)=true:=fun e=>e1 (tD.1 e)
  have n2: ¬(a'.toList==v.toList)=true:=fun e=>e2 (tD.1 e)
  unfold vl;rw[if_neg n1,if_neg n2]
variable {a b c a' b' c':ByteArray}
theorem U9(ha:uq a a')(hb:uq b b')(hc:uq c c'){v v':ByteArray}(h:uq v v'):vj a b c v=vj a' b' c' v':=by
 rcases h with rfl|⟨h1,h2⟩
 ·unfold vj aG PH
  cases hv:pr v with
  |false=>rfl
  |true=>rw[ha.one hv,hb.one hv,hc.one hv]
 ·unfold vj;rw[h1,h2];rfl
theorem dt(ha:uq a a')(hb:uq b b')(hc:uq c c'): ∀(L L':List ByteArray),L.length=L'.length→(∀i (h:i<L.length) (h':i<L'.length),uq L[i] L'[i])→nX a b c L=nX a' b' c' L'
 |[],[],_,_=>rfl
 |[],_::_,h,_=>by cases h
 |_::_,[],h,_=>by cases h
 |v::L,v'::L',hl,h=>by
  have h0:uq v v':=h 0 (by simp) (by simp)
  have ih:=dt ha hb hc L L' (by simpa using hl) (fun i h1 h2=>h (i+1) (by simpa using h1) (by simpa using h2))
  rw[nX,nX,U9 ha hb hc h0,ih]
  rcases h0 with rfl|⟨h1,h2⟩
  ·rfl
  ·have:vj a' b' c' v'=false:=by unfold vj;rw[h2];rfl
   rw[this];simp
theorem UC(ha:uq a a')(hb:uq b b')(hc:uq c c'):qf a b c=qf a' b' c':=by
 refine dt ha hb hc _ _ rfl (fun i h h'=>?_)
 have:i=0∨i=1∨i=2:=by simp at h;omega
 rcases this with rfl|rfl|rfl
 ·exact ha
 ·exact hb
 ·exact hc
theorem Ur{v v' t:ByteArray}(h:uq v v')(ht:pr t=true):(v.toList==t.toList)=(v'.toList==t.toList):=by
 rcases h with rfl|⟨h1,h2⟩
 ·rfl
 ·have e1:(v.toList==t.toList)=false:=by
   cases hb:(v.toList==t.toList)with
   |false=>rfl
   |true=>rw[tD.1 hb,ht]at h1;cases h1
  have e2:(v'.toList==t.toList)=false:=by
   cases hb:(v'.toList==t.toList)with
   |false=>rfl
   |true=>rw[tD.1 hb,ht]at h2;cases h2
  rw[e1,e2]
end
def ma(m:List Ob)(us:List Up)(r:Rp):Rp:=⟨zH r.s m,yK r.l us,r.g+1,0,[],[],false⟩
section
variable {l:List Rp} {m:List Ob} {us:List Up} {f:Bool} {up late:Int} {i:Nat}
theorem US(he:(yq l i).err=0)(hp:zr m us=0):eI l m us f up late i=if cI l m us f up late i=true then ma m us (yq l i)else yq l i:=by
 cases hc:cI l m us f up late i with
 |false=>rw[if_neg (by decide)];exact Pm he hp hc
 |true=>
  rw[if_pos rfl]
  obtain⟨h1,_,_,_⟩:=Zq he hp (WI hc).2
  unfold eI
  rw[hc,(tB h1).1]
  unfold vI
  rw[(tB h1).2,(pA _ _ (re (vy he hp))).1]
  rfl
theorem da(he:(yq l i).err=0)(hp:zr m us=0):qo (n9 m us f up (yq l i) i) (vI l m us f up i) (cI l m us f up late i)=if cI l m us f up late i=true∧(yq l i).g=999 then 2 else 0:=by
 cases hc:cI l m us f up late i with
 |false=>
  rw[if_neg (by simp)]
  cases ha:qr up (yq l i) i with
  |false=>unfold vI;rw[(gi ha).1,(gi ha).2];exact(SY _ _).2
  |true=>
   unfold vI
   rw[(tB ha).1,(tB ha).2,(pA _ _ (re (vy he hp))).2]
   have hr:xA (yq l i).s (yq l i).l (yq l i).g 2 m us f=0:=jx he hp ⟨by decide,by decide⟩
   unfold uH
   rw[if_neg (fun e=>e (tF.2 ⟨hr,rfl⟩)),if_pos rfl]
 |true=>
  obtain⟨h1,h2,_,_⟩:=Zq he hp (WI hc).2
  unfold vI
  rw[(tB h1).1,(tB h1).2,(pA _ _ (re (vy he hp))).2]
  have hr:xA (yq l i).s (yq l i).l (yq l i).g 2 m us f=0:=jx he hp ⟨by decide,by decide⟩
  unfold uH
  rw[if_neg (fun e=>e (tF.2 ⟨hr,rfl⟩)),if_neg (by decide),if_neg (fun e=>e h2)]
  simp
def mh(l:List Rp)(m:List Ob)(us:List Up)(f:Bool)(up late:Int)(i:Nat):Bool:=cI l m us f up late i&&decide ((yq l i).g=999)
theorem JF(hc:zi l=0)(hp:zr m us=0):FX l m us f up late=if(mh l m us f up late 0||mh l m us f up late 1||mh l m us f up late 2)=true then 2 else 0:=by
 have he:=(yr.1 hc).2.1
 unfold FX km
 simp only[da (he 0 (by omega)) hp,da (he 1 (by omega)) hp,da (he 2 (by omega)) hp]
 have key: ∀i,(cI l m us f up late i=true∧(yq l i).g=999)↔mh l m us f up late i=true:=fun i=>by unfold mh;simp
 simp only[key]
 cases mh l m us f up late 0<;>cases mh l m us f up late 1<;>cases mh l m us f up late 2<;>simp
theorem Fh(hc:zi l=0):pE l m us f up late=if zr m us≠0 then zr m us else if(un up&&un late)=true then(if(mh l m us f up late 0||mh l m us f up late 1||mh l m us f up late 2)=true then 2 else 0)else 3:=by
 unfold pE Wj
 rw[if_neg (by simp[hc]: ¬zi l≠0)]
 by_cases h1:zr m us≠0
 ·rw[if_pos h1,if_pos h1,if_pos h1]
 ·rw[if_neg h1,if_neg h1,JF hc (Classical.not_not.1 h1)]
  cases(un up&&un late)<;>rfl
theorem MU(hc:zi l=0)(hp:zr m us=0):eL l m us f up late=l3 (fun i=>if cI l m us f up late i=true then ma m us (yq l i)else yq l i):=by
 have he:=(yr.1 hc).2.1
 unfold eL l3
 rw[US (he 0 (by omega)) hp,US (he 1 (by omega)) hp,US (he 2 (by omega)) hp]
theorem FN(hc:zi l=0)(hp:zr m us=0)(hd:mb l m us f up late=false):eL l m us f up late=l:=by
 rw[MU hc hp]
 refine Eq.trans (mH (fun i hi=>?_)) (Vx (yr.1 hc).1)
 unfold cI
 rw[hd];rfl
end
def doR(l:List Rp)(x:Ac):Int:=if vx x≠0 then vx x else if x.k=1 then pE l x.m x.us x.f x.up x.la else if x.k=2 then rA (top l) (yq l (oN x))else 0
theorem Fw{l:List Rp}(hc:zi l=0)(x:Ac):doR l x=rS l x:=by
 have he:=(yr.1 hc).2.1
 unfold doR rS
 rw[if_neg (by simp[hc]: ¬zi l≠0)]
 by_cases ha:vx x≠0
 ·rw[if_pos ha,if_pos ha]
 rw[if_neg ha,if_neg ha]
 unfold dE Tl
 by_cases h1:x.k=1
 ·rw[if_pos h1,if_pos h1]
 rw[if_neg h1,if_neg h1]
 rcases gb (Classical.not_not.1 ha)with q|⟨_,_,_,ho,_⟩
 ·exact absurd q.1 h1
 by_cases h5:x.k=2
 ·rw[if_pos h5,if_pos h5]
  exact L6 (he _ (ud (yr.1 hc).1)) (he _ ho)
 ·rw[if_neg h5,if_neg h5,he _ ho]
def uX(us:List Up)(last:ByteArray):Nat→Int
 |0=>-1
 |k+1=>if(ltB last (us.getD k ⟨⟨#[]⟩,0,0⟩).name&&(decide (uX us last k<0)||ltB (us.getD k ⟨⟨#[]⟩,0,0⟩).name (us.getD (uX us last k).toNat ⟨⟨#[]⟩,0,0⟩).name))=true then(k:Int)else uX us last k
theorem gT(us:List Up)(last:ByteArray): ∀k,k≤us.length→(uX us last k= -1∧∀i (h:i<us.length),i<k→¬tT last us[i].name)∨
  ∃j:Nat,uX us last k=j∧j<k∧∃h:j<us.length,tT last us[j].name∧∀i (h':i<us.length),i<k→tT last us[i].name→¬tT us[i].name us[j].name
 |0,_=>.inl ⟨rfl,fun _ _ h=>absurd h (Nat.not_lt_zero _)⟩
 |k+1,hk=>by
  have jB:k<us.length:=by omega
  have e:us.getD k ⟨⟨#[]⟩,0,0⟩=us[k]:=by simp[jB]
  rw[uX,e]
  rcases gT us last k (by omega)with⟨h1,h2⟩|⟨j,h1,hj,bZ,h2,h3⟩
  ·rw[h1]
   cases hl:ltB last us[k].name with
   |true=>
    rw[if_pos (by rfl)]
    refine .inr ⟨k,rfl,by omega,jB,hl,fun i hi eB hli=>?_⟩
    by_cases J3:i<k
    ·exact absurd hli (h2 i hi J3)
    ·have:i=k:=by omega
     subst this;exact tT.irrefl _
   |false=>
    rw[if_neg (by simp)]
    refine .inl ⟨rfl,fun i hi eB=>?_⟩
    by_cases J3:i<k
    ·exact h2 i hi J3
    ·have:i=k:=by omega
     subst this;intro q;rw[show ltB last us[i].name=true from q]at hl;cases hl
  ·have e2:us.getD j ⟨⟨#[]⟩,0,0⟩=us[j]:=by simp[bZ]
   rw[h1,Int.toNat_natCast,e2]
   by_cases hc:(ltB last us[k].name&&(decide ((j:Int)<0)||ltB us[k].name us[j].name))=true
   ·rw[if_pos hc]
    have nT:tT last us[k].name∧tT us[k].name us[j].name:=by
     have:decide ((j:Int)<0)=false:=by simp
     rw[this]at hc
     simpa[tT,ltB]using hc
    refine .inr ⟨k,rfl,by omega,jB,nT.1,fun i hi eB hli=>?_⟩
    by_cases J3:i<k
    ·exact fun q=>h3 i hi J3 hli (q.trans nT.2)
    ·have:i=k:=by omega
     subst this;exact tT.irrefl _
   ·rw[if_neg hc]
    refine .inr ⟨j,rfl,by omega,bZ,h2,fun i hi eB hli=>?_⟩
    by_cases J3:i<k
    ·exact h3 i hi J3 hli
    ·have:i=k:=by omega
     subst this
     intro q
     apply hc
     have h4:ltB last us[i].name=true:=hli
     have h5:ltB us[i].name us[j].name=true:=q
     rw[h4,h5];simp
def nV(us:List Up)(n:Nat):ByteArray:=if n=0 then⟨#[]⟩else((sortU us).getD (n-1) ⟨⟨#[]⟩,0,0⟩).name
theorem tN(us:List Up):(sortU us).length=us.length:=(vw us).length_eq
theorem Qq{us:List Up}(h:yd us=0){n:Nat}(hn:n<us.length): ∃j:Nat,uX us (nV us n) us.length=j∧∃hj:j<us.length,us[j]=(sortU us)[n]'(by rw[tN];exact hn):=by
 obtain⟨_,_,hR,hA⟩:=ve.1 h
 have hS:=ki hA
 have hl:=tN us
 have Hj: ∀i j (hi:i<(sortU us).length) (hj:j<(sortU us).length),i<j→tT (sortU us)[i].name (sortU us)[j].name:=fun i j hi hj nZ=>List.pairwise_iff_getElem.1 hS i j hi hj nZ
 have Jq: ∀p (hp:p<(sortU us).length),tT (nV us n) (sortU us)[p].name↔n≤p:=fun p hp=>by
  unfold nV
  by_cases h0:n=0
  ·rw[if_pos h0]
   have hm:(sortU us)[p]∈us:=(vw us).mem_iff.1 (List.getElem_mem hp)
   exact⟨fun _=>by omega,fun _=>aq (hR _ hm).name⟩
  ·rw[if_neg h0]
   have hq:n-1<(sortU us).length:=by omega
   have e:(sortU us).getD (n-1) ⟨⟨#[]⟩,0,0⟩=(sortU us)[n-1]:=by simp[hq]
   rw[e]
   constructor
   ·intro q
    refine Nat.not_lt.1 (fun zN=>?_)
    by_cases qu:p=n-1
    ·subst qu;exact tT.irrefl _ q
    ·exact q.asymm (Hj p (n-1) hp hq (by omega))
   ·intro q;exact Hj (n-1) p hq hp (by omega)
 have JP:n<(sortU us).length:=by omega
 have Uu:(sortU us)[n]∈us:=(vw us).mem_iff.1 (List.getElem_mem JP)
 obtain⟨i0,sN,e0⟩:=List.getElem_of_mem Uu
 have h0:tT (nV us n) us[i0].name:=by rw[e0];exact(Jq n JP).2 (Nat.le_refl _)
 rcases gT us (nV us n) us.length (Nat.le_refl _)with⟨_,h2⟩|⟨j,h1,_,hj,h2,h3⟩
 ·exact absurd h0 (h2 i0 sN sN)
 ·refine⟨j,h1,hj,?_⟩
  have hjm:us[j]∈sortU us:=(vw us).mem_iff.2 (List.getElem_mem hj)
  obtain⟨p,hp,ep⟩:=List.getElem_of_mem hjm
  rw[←ep]at h2⊢
  have hnp:=(Jq p hp).1 h2
  have h4:=h3 i0 sN sN h0
  rw[e0,←ep]at h4
  have:p=n:=Nat.le_antisymm (Nat.not_lt.1 fun q=>h4 (Hj n p JP hp q)) hnp
  subst this;rfl
theorem Vz{us:List Up}{n:Nat}(hn:n<us.length):nV us (n+1)=((sortU us)[n]'(by rw[tN];exact hn)).name:=by
 have:n<(sortU us).length:=by rw[tN];exact hn
 unfold nV
 rw[if_neg (by omega)]
 simp[this]
def rE(us:List Up)(n:Nat):ByteArray:=uU ⟨#[]⟩ ((sortU us).take n)
theorem AN{u:Up}(ho:0≤u.old)(hn:0≤u.new):tG u=((((u.name++Ym)++zz u.old)++Ym)++zz u.new)++(⟨#[59]⟩:ByteArray):=by
 have e1:Lib.itoa u.old=Lib.decDigits u.old.toNat:=by unfold Lib.itoa;rw[if_neg (by omega)]
 have e2:Lib.itoa u.new=Lib.decDigits u.new.toNat:=by unfold Lib.itoa;rw[if_neg (by omega)]
 unfold tG zz vU Lib.join
 rw[e1,e2]
 congr 1
 apply ByteArray.ext
 apply Array.toList_inj.1
 simp[List.intercalate]
theorem U6{us:List Up}{n:Nat}(hn:n<us.length):rE us (n+1)=rE us n++tG ((sortU us)[n]'(by rw[tN];exact hn)):=by
 have:n<(sortU us).length:=by rw[tN];exact hn
 unfold rE
 rw[List.take_succ_eq_append_getElem this,qh]
theorem Q4(us:List Up)(h:yd us=0):rE us us.length=tQ us:=by
 unfold rE tQ dG
 rw[if_pos h,←tN us,List.take_length]
end
def St(l:List Ob)(k:Nat):Prop:=tK l=Z5 (l.take k) (l.drop k)
theorem St.zero{l:List Ob}(h:(l.length:Int)≤40):St l 0:=by
 unfold St tK;rw[if_neg (by omega)];rfl
theorem gc{l:List Ob}{k:Nat}(hk:k<l.length):Z5 (l.take k) (l.drop k)=if fi (l.take k) l[k]≠0 then fi (l.take k) l[k]else Z5 (l.take (k+1)) (l.drop (k+1)):=by
 rw[List.drop_eq_getElem_cons hk,Z5,List.take_succ_eq_append_getElem hk]
theorem St.err{l:List Ob}{k:Nat}(H:St l k)(hk:k<l.length)(he:l[k].err≠0):tK l=l[k].err:=by
 have hc:fi (l.take k) l[k]=l[k].err:=by unfold fi;rw[if_pos he]
 rw[H,gc hk,hc,if_pos he]
theorem ZW{l:List Ob}{k:Nat}(xl:k-1<l.length)(h0:0<k)(o:Ob):QJ (l.take k) o=decide (o.id≤(l[k-1]'xl).id):=by
 have e:(l.take k).getLast? =some (l[k-1]'xl):=by
  obtain⟨j,rfl⟩: ∃j,k=j+1:=⟨k-1,by omega⟩
  have hj:j<l.length:=xl
  rw[List.take_succ_eq_append_getElem hj];exact List.getLast?_concat
 unfold QJ;rw[e]
theorem St.low{l:List Ob}{k:Nat}(H:St l k)(hk:k<l.length)(he:l[k].err=0)(xl:k-1<l.length)(h0:0<k)(hle:l[k].id≤(l[k-1]'xl).id):tK l=4:=by
 have hc:fi (l.take k) l[k]=4:=by unfold fi;rw[if_neg (by simp[he]),ZW xl h0,if_pos (by simpa using hle)]
 rw[H,gc hk,hc,if_pos (by decide)]
def Lk(l:List Ob)(k:Nat)(x:Ob)(t:Nat):Prop:=tK l=if dQ (l.take k) x.kind t (x.links.drop t)≠0 then dQ (l.take k) x.kind t (x.links.drop t)else Z5 (l.take (k+1)) (l.drop (k+1))
theorem St.link{l:List Ob}{k:Nat}(H:St l k)(hk:k<l.length)(he:l[k].err=0)(hp:0<k→∀hp:k-1<l.length,(l[k-1]'hp).id<l[k].id):Lk l k l[k] 0:=by
 have hc:fi (l.take k) l[k]=dQ (l.take k) l[k].kind 0 l[k].links:=by
  have hl:QJ (l.take k) l[k]=false:=by
   by_cases h0:0<k
   ·have xl:k-1<l.length:=by omega
    rw[ZW xl h0]
    have:=hp h0 xl
    simp;omega
   ·have:k=0:=by omega
    subst this;rfl
  unfold fi;rw[if_neg (by simp[he]),hl,if_neg (by decide)]
 unfold Lk
 rw[H,gc hk,hc];rfl
theorem Lk.done{l:List Ob}{k t:Nat}{x:Ob}(H:Lk l k x t)(h:t=x.links.length):St l (k+1):=by
 unfold Lk at H
 unfold St
 rw[H,h,List.drop_length,dQ,if_neg (by decide)]
theorem gJ{pre:List Ob}{kind:Int}{L:List Int}{t:Nat}(ht:t<L.length):dQ pre kind t (L.drop t)=if yS pre L[t]=0 then 5 else if(kind=2∧yS pre L[t]=3)∨(kind=3∧t=0∧yS pre L[t]≠2)∨(kind=3∧0<t∧yS pre L[t]≠3)then 7 else dQ pre kind (t+1) (L.drop (t+1)):=by
 rw[List.drop_eq_getElem_cons ht,dQ]
theorem Lk.none{l:List Ob}{k t:Nat}{x:Ob}(H:Lk l k x t)(ht:t<x.links.length)(h:yS (l.take k) x.links[t]=0):tK l=5:=by
 unfold Lk at H
 rw[H,gJ ht,if_pos h,if_pos (by decide)]
theorem Lk.bad{l:List Ob}{k t:Nat}{x:Ob}(H:Lk l k x t)(ht:t<x.links.length)(h:yS (l.take k) x.links[t]≠0)(hb: ¬PX x.kind t (yS (l.take k) x.links[t])):tK l=7:=by
 have dw:(x.kind=2∧yS (l.take k) x.links[t]=3)∨(x.kind=3∧t=0∧yS (l.take k) x.links[t]≠2)∨(x.kind=3∧0<t∧yS (l.take k) x.links[t]≠3):=by
  unfold PX at hb;omega
 unfold Lk at H
 rw[H,gJ ht,if_neg h,if_pos dw,if_pos (by decide)]
theorem Lk.next{l:List Ob}{k t:Nat}{x:Ob}(H:Lk l k x t)(ht:t<x.links.length)(h:yS (l.take k) x.links[t]≠0)(hb:PX x.kind t (yS (l.take k) x.links[t])):Lk l k x (t+1):=by
 have dw: ¬((x.kind=2∧yS (l.take k) x.links[t]=3)∨(x.kind=3∧t=0∧yS (l.take k) x.links[t]≠2)∨(x.kind=3∧0<t∧yS (l.take k) x.links[t]≠3)):=by
  unfold PX at hb;omega
 unfold Lk at H⊢
 rw[H,gJ ht,if_neg h,if_neg dw]
theorem rD(a:Option Addr)(c:Nat)(l:List Ob)(w:World)(h:zP w a l)(hl:l.length≤9223372036854775807)(ZY:l.length≤c):
  Calls Tryz.prog 67 #[.slice a l.length c] w fun e w'=>e= .returned (.int .i64 (tK l))∧Below w.heap.size w w':=by
 obtain⟨r,HR⟩: ∃r,Hid (tK l=r):=⟨_,rfl⟩
 rw[HR.out]
 go_enter Tryz.func67,Tryz.ntmps67
 by_cases h40:(40:Int)<(l.length:Int)
 ·have HF:Hid (r=2):=by unfold Hid;rw[←HR.out];unfold tK;rw[if_pos (by omega)]
  go_wp2
  go_ret
  exact⟨zE HF.out.symm,Below.refl _ _⟩
 have zHK:(l.length:Int)≤40:=by omega
 go_wp2
 go_loopw [3] (fun i wr=>∃k:Nat,i= .int .i64 k∧k≤l.length∧Below w.heap.size w wr∧Hid (St l k)) (fun i _=>l.length-(intOf i).toNat)
 case atStart=>exact⟨0,rfl,Nat.zero_le _,Below.refl _ _,St.zero zHK⟩
 case round=>
  obtain⟨k,rfl,hk,hB,H⟩:=hrel
  by_cases zN:k<l.length
  case neg=>
   have HF:Hid (r=0):=by
    obtain rfl:k=l.length:=by omega
    have:=H.out
    unfold St at this
    unfold Hid
    rw[←HR.out,this,List.drop_length];rfl
   go_wp2
   go_ret
   exact⟨zE HF.out.symm,hB⟩
  obtain⟨b,off,rfl,hb,hc⟩:=(h.below hB) k zN
  obtain⟨sa,sc,x0,x1,x2,x3,x4,x5⟩:=hc k zN
  have vg:(k:Int)<(l.length:Int):=by omega
  have hkc:(k:Int)≤(c:Int):=by omega
  have hA:=zB wr (.cells #[.int .i64 l[k].id,.int .i64 l[k].kind,.slice sa l[k].links.length sc,.string l[k].text] 58)
  have C:=xH.new wr (.int .i64 l[k].id) (.int .i64 l[k].kind) (.slice sa l[k].links.length sc) (.string l[k].text) 58
  have mq:=bt hB hA
  have hLA:=x4.below hA
  clear hc
  go_wp2_with fail
  refine(sO l[k].id l[k].kind sa sc l[k].links l[k].text _ hLA x5).mono ?_
  rintro e w1 ⟨rfl,zM⟩
  have C1:=C.below zM C.lt
  have zT:=bt mq zM
  have Vi:=hLA.below zM
  have ue:=h.below zT
  clear zM C hA mq hLA x0 x1 x2 x3 x4 hb
  obtain⟨B,BN⟩: ∃B,B=wr.heap.size:=⟨_,rfl⟩
  rw[←BN]at C1⊢
  clear BN
  obtain⟨c0,c1,c2,c3,-,-,-,-,cl⟩:=C1
  by_cases he:l[k].err=0
  case neg=>
   have z1:(xC l[k].id l[k].kind l[k].links l[k].text.size != 0)=true:=by simpa using he
   have HF:Hid (r=xC l[k].id l[k].kind l[k].links l[k].text.size):=by unfold Hid;rw[←HR.out];exact H.out.err zN he
   clear he
   go_wp2
   go_ret
   exact⟨zE HF.out.symm,zT⟩
  have HE:Hid (l[k].err=0):=he
  rw[show xC l[k].id l[k].kind l[k].links l[k].text.size=0 from he]
  clear he
  by_cases Vj:k=0
  case pos=>
   have g0:decide (0<k)=false:=by simp;omega
   have HP:Hid (0<k→∀hp:k-1<l.length,(l[k-1]'hp).id<l[k].id):=fun e=>by omega
   clear Vj
   go_wp2
   go_quiet (fail)
   have HK:Hid (Lk l k l[k] 0):=H.out.link zN HE.out HP.out
   go_wp2
   go_loopw [6] (fun i wr=>∃t:Nat,i= .int .i64 t∧t≤l[k].links.length∧Dr w1 wr∧Hid (Lk l k l[k] t)) (fun i _=>l[k].links.length-(intOf i).toNat)
   case atStart=>exact⟨0,rfl,Nat.zero_le _,⟨_,rfl⟩,HK⟩
   case round=>
    obtain⟨t,rfl,ht,HW,HL⟩:=hrel
    have hd:=HW.below
    have d1:=(hd.cell (p:=⟨B,1,none⟩) cl).trans c1
    have d2:=(hd.cell (p:=⟨B,2,none⟩) cl).trans c2
    by_cases htl:t<l[k].links.length
    case neg=>
     have HN:Hid (St l (k+1)):=HL.out.done (by omega)
     go_wp2
     go_roundw
     case rel=>exact⟨k+1,by go_num,by omega,(bt zT hd),HN⟩
     case measure=>simp[intOf];omega
    have r8:=ue.below hd
    have zj:=bt zT hd
    obtain⟨lb,lo,rfl,hlb,ae⟩:=(Vi.below hd) t htl
    have hx:wr.cell? ⟨lb,lo+t,none⟩=some (.int .i64 l[k].links[t]):=by rw[ae t htl];simp[htl]
    have Gn:(t:Int)<(l[k].links.length:Int):=by omega
    have hkk:k≤l.length:=by omega
    have kq: ∀n,Calls Tryz.prog 119 #[.slice (some ⟨b,off,none⟩) k c,.int .i64 l[k].links[t]] (wr.drewN n) fun e w'=>e= .returned (.int .i64 (yS (l.take k) l[k].links[t]))∧w'=wr.drewN n:=fun n=>fN _ c l k hkk _ _ (r8.below (yB (Below.refl _ _) n)) hl
    obtain⟨q,hq⟩: ∃q,q=yS (l.take k) l[k].links[t]:=⟨_,rfl⟩
    rw[←hq]at kq
    have HQ:Hid (yS (l.take k) l[k].links[t]=q):=hq.symm
    clear hq ae ue
    go_wp2
    go_quiet ((go_at_call 119;exact Calls.quiet_of_same (kq _)))
    by_cases q0:q=0
    case pos=>
     have zq:(q==0)=true:=by simpa using q0
     have HF:Hid (r=5):=by unfold Hid;rw[←HR.out];exact HL.out.none htl (by rw[HQ.out];exact q0)
     clear q0
     go_wp2
     go_ret
     exact⟨zE HF.out.symm,zj.trans ((yB (Below.refl _ _) _).mono zj.size)⟩
    have zq:(q==0)=false:=by simpa using q0
    have TJ:Hid (q≠0):=q0
    clear q0
    by_cases k2:l[k].kind=2
    case pos=>
     have e2:(l[k].kind==2)=true:=by simpa using k2
     have e3:(l[k].kind==3)=false:=by rw[k2];rfl
     by_cases q3:q=3
     case pos=>
      have f3:(q==3)=true:=by simpa using q3
      have HF:Hid (r=7):=by unfold Hid;rw[←HR.out];exact HL.out.bad htl (by rw[HQ.out];exact TJ.out) (by rw[HQ.out];exact fun e=>e.1 ⟨k2,q3⟩)
      clear q3 k2
      go_wp2
      go_ret
      exact⟨zE HF.out.symm,zj.trans ((yB (Below.refl _ _) _).mono zj.size)⟩
     have f3:(q==3)=false:=by simpa using q3
     have fW:Hid (PX l[k].kind t q):=⟨fun e=>q3 e.2,fun e=>by rw[k2]at e;exact absurd e.1 (by decide),fun e=>by rw[k2]at e;exact absurd e.1 (by decide)⟩
     have HN:Hid (Lk l k l[k] (t+1)):=HL.out.next htl (by rw[HQ.out];exact TJ.out) (by rw[HQ.out];exact fW.out)
     clear q3 k2
     go_wp2
     go_roundw
     case rel=>exact⟨t+1,by go_num,by omega,HW.drewN _,HN⟩
     case measure=>simp[intOf];omega
    have e2:(l[k].kind==2)=false:=by simpa using k2
    by_cases k3:l[k].kind=3
    case neg=>
     have e3:(l[k].kind==3)=false:=by simpa using k3
     have fW:Hid (PX l[k].kind t q):=⟨fun e=>k2 e.1,fun e=>k3 e.1,fun e=>k3 e.1⟩
     have HN:Hid (Lk l k l[k] (t+1)):=HL.out.next htl (by rw[HQ.out];exact TJ.out) (by rw[HQ.out];exact fW.out)
     clear k2 k3
     go_wp2
     go_roundw
     case rel=>exact⟨t+1,by go_num,by omega,HW.drewN _,HN⟩
     case measure=>simp[intOf];omega
    have e3:(l[k].kind==3)=true:=by simpa using k3
    by_cases t0:t=0
    case pos=>
     have g0:((t:Int)==0)=true:=by simp;omega
     have g1:decide (0<t)=false:=by simp;omega
     by_cases q2:q=2
     case neg=>
      have f2:(q != 2)=true:=by simpa using q2
      have HF:Hid (r=7):=by unfold Hid;rw[←HR.out];exact HL.out.bad htl (by rw[HQ.out];exact TJ.out) (by rw[HQ.out];exact fun e=>e.2.1 ⟨k3,t0,q2⟩)
      clear q2 k2 k3 t0
      go_wp2
      go_ret
      exact⟨zE HF.out.symm,zj.trans ((yB (Below.refl _ _) _).mono zj.size)⟩
     have f2:(q != 2)=false:=by simpa using q2
     have fW:Hid (PX l[k].kind t q):=⟨fun e=>k2 e.1,fun e=>e.2.2 q2,fun e=>by omega⟩
     have HN:Hid (Lk l k l[k] (t+1)):=HL.out.next htl (by rw[HQ.out];exact TJ.out) (by rw[HQ.out];exact fW.out)
     clear q2 k2 k3 t0
     go_wp2
     go_roundw
     case rel=>exact⟨t+1,by go_num,by omega,HW.drewN _,HN⟩
     case measure=>simp[intOf];omega
    have g0:((t:Int)==0)=false:=by simp;omega
    have g1:decide (0<t)=true:=by simp;omega
    have Dq:0<t:=by omega
    by_cases q3:q=3
    case neg=>
     have f3:(q != 3)=true:=by simpa using q3
     have HF:Hid (r=7):=by unfold Hid;rw[←HR.out];exact HL.out.bad htl (by rw[HQ.out];exact TJ.out) (by rw[HQ.out];exact fun e=>e.2.2 ⟨k3,Dq,q3⟩)
     clear q3 k2 k3 t0
     go_wp2
     go_ret
     exact⟨zE HF.out.symm,zj.trans ((yB (Below.refl _ _) _).mono zj.size)⟩
    have f3:(q != 3)=false:=by simpa using q3
    have fW:Hid (PX l[k].kind t q):=⟨fun e=>k2 e.1,fun e=>t0 e.2.1,fun e=>e.2.2 q3⟩
    have HN:Hid (Lk l k l[k] (t+1)):=HL.out.next htl (by rw[HQ.out];exact TJ.out) (by rw[HQ.out];exact fW.out)
    clear q3 k2 k3 t0
    go_wp2
    go_roundw
    case rel=>exact⟨t+1,by go_num,by omega,HW.drewN _,HN⟩
    case measure=>simp[intOf];omega
  have g0:decide (0<k)=true:=by simp;omega
  have g0':0<k:=by omega
  have qu:(k:Int)-1<(l.length:Int):=by omega
  have ka:(0:Int)≤(k:Int)-1:=by omega
  have xl:k-1<l.length:=by omega
  have hp:w1.cell? ⟨b,off+(k-1)*4,none⟩=some (.int .i64 (l[k-1]'xl).id):=by
   obtain⟨b',kQ,e,_,hc⟩:=ue (k-1) xl
   cases e
   obtain⟨_,_,y0,_⟩:=hc (k-1) xl
   exact y0
  obtain⟨y,hy⟩: ∃y,y=(l[k-1]'xl).id:=⟨_,rfl⟩
  rw[←hy]at hp
  by_cases hle:l[k].id≤y
  case pos=>
   have HF:Hid (r=4):=by unfold Hid;rw[←HR.out];exact H.out.low zN HE.out xl g0' (by rw[←hy];exact hle)
   clear Vj hy
   go_wp2
   go_quiet (fail)
   go_wp2
   go_ret
   exact⟨zE HF.out.symm,zT.trans ((yB (Below.refl _ _) _).mono zT.size)⟩
  have HP:Hid (0<k→∀hp:k-1<l.length,(l[k-1]'hp).id<l[k].id):=fun _ _=>by rw[←hy];omega
  clear Vj hy
  go_wp2
  go_quiet (fail)
  have HK:Hid (Lk l k l[k] 0):=H.out.link zN HE.out HP.out
  go_wp2
  go_loopw [6] (fun i wr=>∃t:Nat,i= .int .i64 t∧t≤l[k].links.length∧Dr w1 wr∧Hid (Lk l k l[k] t)) (fun i _=>l[k].links.length-(intOf i).toNat)
  case atStart=>exact⟨0,rfl,Nat.zero_le _,⟨_,rfl⟩,HK⟩
  case round=>
   obtain⟨t,rfl,ht,HW,HL⟩:=hrel
   have hd:=HW.below
   have d1:=(hd.cell (p:=⟨B,1,none⟩) cl).trans c1
   have d2:=(hd.cell (p:=⟨B,2,none⟩) cl).trans c2
   by_cases htl:t<l[k].links.length
   case neg=>
    have HN:Hid (St l (k+1)):=HL.out.done (by omega)
    go_wp2
    go_roundw
    case rel=>exact⟨k+1,by go_num,by omega,(bt zT hd),HN⟩
    case measure=>simp[intOf];omega
   have r8:=ue.below hd
   have zj:=bt zT hd
   obtain⟨lb,lo,rfl,hlb,ae⟩:=(Vi.below hd) t htl
   have hx:wr.cell? ⟨lb,lo+t,none⟩=some (.int .i64 l[k].links[t]):=by rw[ae t htl];simp[htl]
   have Gn:(t:Int)<(l[k].links.length:Int):=by omega
   have hkk:k≤l.length:=by omega
   have kq: ∀n,Calls Tryz.prog 119 #[.slice (some ⟨b,off,none⟩) k c,.int .i64 l[k].links[t]] (wr.drewN n) fun e w'=>e= .returned (.int .i64 (yS (l.take k) l[k].links[t]))∧w'=wr.drewN n:=fun n=>fN _ c l k hkk _ _ (r8.below (yB (Below.refl _ _) n)) hl
   obtain⟨q,hq⟩: ∃q,q=yS (l.take k) l[k].links[t]:=⟨_,rfl⟩
   rw[←hq]at kq
   have HQ:Hid (yS (l.take k) l[k].links[t]=q):=hq.symm
   clear hq ae ue
   go_wp2
   go_quiet ((go_at_call 119;exact Calls.quiet_of_same (kq _)))
   by_cases q0:q=0
   case pos=>
    have zq:(q==0)=true:=by simpa using q0
    have HF:Hid (r=5):=by unfold Hid;rw[←HR.out];exact HL.out.none htl (by rw[HQ.out];exact q0)
    clear q0
    go_wp2
    go_ret
    exact⟨zE HF.out.symm,zj.trans ((yB (Below.refl _ _) _).mono zj.size)⟩
   have zq:(q==0)=false:=by simpa using q0
   have TJ:Hid (q≠0):=q0
   clear q0
   by_cases k2:l[k].kind=2
   case pos=>
    have e2:(l[k].kind==2)=true:=by simpa using k2
    have e3:(l[k].kind==3)=false:=by rw[k2];rfl
    by_cases q3:q=3
    case pos=>
     have f3:(q==3)=true:=by simpa using q3
     have HF:Hid (r=7):=by unfold Hid;rw[←HR.out];exact HL.out.bad htl (by rw[HQ.out];exact TJ.out) (by rw[HQ.out];exact fun e=>e.1 ⟨k2,q3⟩)
     clear q3 k2
     go_wp2
     go_ret
     exact⟨zE HF.out.symm,zj.trans ((yB (Below.refl _ _) _).mono zj.size)⟩
    have f3:(q==3)=false:=by simpa using q3
    have fW:Hid (PX l[k].kind t q):=⟨fun e=>q3 e.2,fun e=>by rw[k2]at e;exact absurd e.1 (by decide),fun e=>by rw[k2]at e;exact absurd e.1 (by decide)⟩
    have HN:Hid (Lk l k l[k] (t+1)):=HL.out.next htl (by rw[HQ.out];exact TJ.out) (by rw[HQ.out];exact fW.out)
    clear q3 k2
    go_wp2
    go_roundw
    case rel=>exact⟨t+1,by go_num,by omega,HW.drewN _,HN⟩
    case measure=>simp[intOf];omega
   have e2:(l[k].kind==2)=false:=by simpa using k2
   by_cases k3:l[k].kind=3
   case neg=>
    have e3:(l[k].kind==3)=false:=by simpa using k3
    have fW:Hid (PX l[k].kind t q):=⟨fun e=>k2 e.1,fun e=>k3 e.1,fun e=>k3 e.1⟩
    have HN:Hid (Lk l k l[k] (t+1)):=HL.out.next htl (by rw[HQ.out];exact TJ.out) (by rw[HQ.out];exact fW.out)
    clear k2 k3
    go_wp2
    go_roundw
    case rel=>exact⟨t+1,by go_num,by omega,HW.drewN _,HN⟩
    case measure=>simp[intOf];omega
   have e3:(l[k].kind==3)=true:=by simpa using k3
   by_cases t0:t=0
   case pos=>
    have g0:((t:Int)==0)=true:=by simp;omega
    have g1:decide (0<t)=false:=by simp;omega
    by_cases q2:q=2
    case neg=>
     have f2:(q != 2)=true:=by simpa using q2
     have HF:Hid (r=7):=by unfold Hid;rw[←HR.out];exact HL.out.bad htl (by rw[HQ.out];exact TJ.out) (by rw[HQ.out];exact fun e=>e.2.1 ⟨k3,t0,q2⟩)
     clear q2 k2 k3 t0
     go_wp2
     go_ret
     exact⟨zE HF.out.symm,zj.trans ((yB (Below.refl _ _) _).mono zj.size)⟩
    have f2:(q != 2)=false:=by simpa using q2
    have fW:Hid (PX l[k].kind t q):=⟨fun e=>k2 e.1,fun e=>e.2.2 q2,fun e=>by omega⟩
    have HN:Hid (Lk l k l[k] (t+1)):=HL.out.next htl (by rw[HQ.out];exact TJ.out) (by rw[HQ.out];exact fW.out)
    clear q2 k2 k3 t0
    go_wp2
    go_roundw
    case rel=>exact⟨t+1,by go_num,by omega,HW.drewN _,HN⟩
    case measure=>simp[intOf];omega
   have g0:((t:Int)==0)=false:=by simp;omega
   have g1:decide (0<t)=true:=by simp;omega
   have Dq:0<t:=by omega
   by_cases q3:q=3
   case neg=>
    have f3:(q != 3)=true:=by simpa using q3
    have HF:Hid (r=7):=by unfold Hid;rw[←HR.out];exact HL.out.bad htl (by rw[HQ.out];exact TJ.out) (by rw[HQ.out];exact fun e=>e.2.2 ⟨k3,Dq,q3⟩)
    clear q3 k2 k3 t0
    go_wp2
    go_ret
    exact⟨zE HF.out.symm,zj.trans ((yB (Below.refl _ _) _).mono zj.size)⟩
   have f3:(q != 3)=false:=by simpa using q3
   have fW:Hid (PX l[k].kind t q):=⟨fun e=>k2 e.1,fun e=>t0 e.2.1,fun e=>e.2.2 q3⟩
   have HN:Hid (Lk l k l[k] (t+1)):=HL.out.next htl (by rw[HQ.out];exact TJ.out) (by rw[HQ.out];exact fW.out)
   clear q3 k2 k3 t0
   go_wp2
   go_roundw
   case rel=>exact⟨t+1,by go_num,by omega,HW.drewN _,HN⟩
   case measure=>simp[intOf];omega
theorem Tr{a:ByteArray}{y:Rf}(h:tp a y.name=true):inPlace a y=true:=by
 unfold tp at h
 by_cases zN:a.size<y.name.size
 ·rw[dif_pos zN,Bool.and_eq_true]at h
  obtain⟨h1,h2⟩:=h
  have e1:(y.name.extract 0 a.size).toList=a.toList:=of_decide_eq_true h1
  have e2:y.name[a.size]=47:=UInt8.toNat_inj.1 (by
   have:=beq_iff_eq.1 h2
   have q:(47:UInt8).toNat=47:=rfl
   omega)
  have e3:y.name.data.toList.take a.size=a.data.toList:=by simpa[ByteArray.toList_eq]using e1
  have hd:a.size<y.name.data.toList.length:=by rw[jT];exact zN
  have e4:y.name.data.toList[a.size]=47:=by rw[←e2];simp[ByteArray.getElem_eq_getElem_data]
  have e5:(a++nI).data.toList=a.data.toList++[47]:=by
   rw[ByteArray.data_append,Array.toList_append]
  unfold inPlace Lib.hasPrefix
  rw[List.isPrefixOf_iff_prefix,e5]
  refine⟨y.name.data.toList.drop (a.size+1),?_⟩
  rw[←e3,List.append_assoc]
  have:[47]++y.name.data.toList.drop (a.size+1)=y.name.data.toList.drop a.size:=by
   rw[List.drop_eq_getElem_cons hd,e4];rfl
  rw[this,List.take_append_drop]
 ·rw[dif_neg zN]at h;cases h
def jn(l:List Rf)(o:List Ob)(k:Nat):Prop:=∀i (h:i<l.length),i<k→yf l[i].name=0∧yS o l[i].id=3∧(0<i→∀hp:i-1<l.length,tT (l[i-1]'hp).name l[i].name)
theorem jn.zero{l:List Rf}{o:List Ob}:jn l o 0:=fun _ _ h=>absurd h (Nat.not_lt_zero _)
theorem jn.next{l:List Rf}{o:List Ob}{k:Nat}(h:jn l o k)(hk:k<l.length)(h1:yf l[k].name=0)(h2:yS o l[k].id=3)(h3:0<k→∀hp:k-1<l.length,tT (l[k-1]'hp).name l[k].name):jn l o (k+1):=fun i hi eB=>by
 by_cases e:i<k
 ·exact h i hi e
 ·obtain rfl:i=k:=by omega
  exact⟨h1,h2,h3⟩
theorem jn.sort{l:List Rf}{o:List Ob}(h:jn l o l.length):te l:=by
 refine List.pairwise_iff_getElem.2 (fun i j hi hj nZ=>?_)
 have key: ∀d i (hi:i<l.length) (hj:i+d+1<l.length),tT l[i].name l[i+d+1].name:=fun d=>by
  induction d with
  |zero=>exact fun i hi hj=>(h (i+1) hj hj).2.2 (by omega) hi
  |succ d ih=>
   intro i hi hj
   have h1:=ih i hi (by omega)
   have h2:=(h (i+(d+1)+1) hj hj).2.2 (by omega) (by omega)
   exact h1.trans h2
 have:=key (j-i-1) i hi (by omega)
 have e:i+(j-i-1)+1=j:=by omega
 simpa[e]using this
theorem jn.right{l:List Rf}{o:List Ob}(hs:zK o=0)(h8:(l.length:Int)≤8)(h:jn l o l.length)(ha: ∀x∈l,∀y∈l,tp x.name y.name=false):yG l o=0:=by
 refine N0 hs (by omega) (fun r hr=>?_) h.sort (fun i hi _=>(h i hi hi).2.1) (fun x hx y hy=>?_)
 ·obtain⟨i,hi,rfl⟩:=List.getElem_of_mem hr
  exact(h i hi hi).1
 ·cases hp:inPlace x.name y with
  |false=>rfl
  |true=>have:=U7 hp;rw[ha x hx y hy]at this;cases this
theorem gj{l:List Rf}{o:List Ob}(h:yG l o=0):l.length≤8:=(xc.1 h).2.1
theorem V4{l:List Rf}{o:List Ob}(h:yG l o=0){k:Nat}(hk:k<l.length):yf l[k].name=0:=(((uI _ _).1 (xc.1 h).2.2.1).1 _ (List.getElem_mem hk)).1
theorem j7{l:List Rf}{o:List Ob}(h:yG l o=0){k:Nat}(hk:k<l.length):xB o l[k].id=0:=(qx (xc.1 h).1).2 (cV h (List.getElem_mem hk))
theorem Uf{l:List Rf}{o:List Ob}(h:yG l o=0){k:Nat}(hk:k<l.length)(hp:k-1<l.length)(h0:0<k):tT (l[k-1]'hp).name l[k].name:=List.pairwise_iff_getElem.1 (ZE h) (k-1) k hp hk (by omega)
theorem XZ{l:List Rf}{o:List Ob}(h:yG l o=0){i j:Nat}(hi:i<l.length)(hj:j<l.length):tp l[i].name l[j].name=false:=by
 cases hq:tp l[i].name l[j].name with
 |false=>rfl
 |true=>
  have:=Tr hq
  rw[(xc.1 h).2.2.2 _ (List.getElem_mem hi) _ (List.getElem_mem hj)]at this;cases this
theorem Zl{l:List Rf}{o:List Ob}{r:Int}(h7:R7 r)(h0:r≠0)(hn: ¬yG l o=0):R7 r∧(r=0↔yG l o=0):=⟨h7,fun e=>absurd e h0,fun e=>absurd e hn⟩
theorem nQ(a:Option Addr)(c:Nat)(l:List Rf)(ao:Option Addr)(co:Nat)(o:List Ob)(w:World)(h:yU w a l)(hl:l.length≤9223372036854775807)(ho:zP w ao o)(jF:o.length≤9223372036854775807)(hs:zK o=0):
  Calls Tryz.prog 68 #[.slice a l.length c,.slice ao o.length co] w fun e w'=>(∃r,e= .returned (.int .i64 r)∧R7 r∧(r=0↔yG l o=0))∧Dr w w':=by
 have HS:Hid (zK o=0):=hs
 clear hs
 go_enter Tryz.func68,Tryz.ntmps68
 by_cases h8:(8:Int)<(l.length:Int)
 ·have HF:Hid (¬yG l o=0):=fun e=>by have:=gj e;omega
  go_wp2
  go_ret
  exact⟨⟨_,rfl,Zl ⟨by decide,by decide⟩ (by decide) HF.out⟩,Dr.refl _⟩
 have h8':(l.length:Int)≤8:=by omega
 go_wp2
 go_loopw [5] (fun i wr=>∃k:Nat,i= .int .i64 k∧k≤l.length∧Dr w wr∧Hid (jn l o k)) (fun i _=>l.length-(intOf i).toNat)
 case atStart=>exact⟨0,rfl,Nat.zero_le _,Dr.refl _,jn.zero⟩
 case round=>
  obtain⟨k,rfl,hk,HW,H⟩:=hrel
  by_cases zN:k<l.length
  case neg=>
   have HI:Hid (jn l o l.length):=by
    have e:k=l.length:=by omega
    rw[←e];exact H.out
   clear H
   go_wp2
   go_loopw [7] (fun i wr=>∃k:Nat,i= .int .i64 k∧k≤l.length∧Dr w wr∧Hid (gW l k)) (fun i _=>l.length-(intOf i).toNat)
   case atStart=>exact⟨0,rfl,Nat.zero_le _,HW,fun _ _ e=>absurd e (Nat.not_lt_zero _)⟩
   case round=>
    obtain⟨k2,rfl,xy,CA,H2⟩:=hrel
    by_cases sZ:k2<l.length
    case neg=>
     have HA:Hid (∀x∈l,∀y∈l,tp x.name y.name=false):=by
      have e:k2=l.length:=by omega
      exact Tp (by rw[←e];exact H2.out)
     have HF:Hid (yG l o=0):=HI.out.right HS.out h8' HA.out
     go_wp2
     go_ret
     exact⟨⟨_,rfl,⟨by decide,by decide⟩,fun _=>HF.out,fun _=>rfl⟩,CA⟩
    have A3:(k2:Int)<(l.length:Int):=by omega
    go_wp2
    go_loopw [8] (fun i wr=>∃t:Nat,i= .int .i64 t∧t≤l.length∧Dr w wr∧Hid (gg l l[k2].name t)) (fun i _=>l.length-(intOf i).toNat)
    case atStart=>exact⟨0,rfl,Nat.zero_le _,CA,fun _ _ e=>absurd e (Nat.not_lt_zero _)⟩
    case round=>
     obtain⟨t,rfl,ht,HW3,H3⟩:=hrel
     by_cases htl:t<l.length
     case neg=>
      have HN:Hid (gW l (k2+1)):=H2.out.next sZ (by
       have e:t=l.length:=by omega
       rw[←e];exact H3.out)
      go_wp2
      go_roundw
      case rel=>exact⟨k2+1,by go_num,by omega,HW3,HN⟩
      case measure=>simp[intOf];omega
     have Gn:(t:Int)<(l.length:Int):=by omega
     obtain⟨b,off,rfl,hb,hc⟩:=(h.below HW3.below) t htl
     obtain⟨x0,-⟩:=hc k2 sZ
     obtain⟨y0,-⟩:=hc t htl
     clear hc
     obtain⟨q,hq⟩: ∃q,q=tp l[k2].name l[t].name:=⟨_,rfl⟩
     have kq: ∀n,Calls Tryz.prog 122 #[.string l[k2].name,.string l[t].name] (wr.drewN n) fun e w'=>e= .returned (.bool q)∧w'=wr.drewN n:=fun n=>by rw[hq];exact Pp _ _ _
     have HQ:Hid (q=tp l[k2].name l[t].name):=hq
     clear hq
     go_wp2
     go_quiet ((go_at_call 122;exact Calls.quiet_of_same (kq _)))
     cases q with
     |true=>
      have HF:Hid (¬yG l o=0):=fun e=>by have:=XZ e sZ htl;rw[←HQ.out]at this;cases this
      go_wp2
      go_ret
      exact⟨⟨_,rfl,Zl ⟨by decide,by decide⟩ (by decide) HF.out⟩,HW3.drewN _⟩
     |false=>
      have HN:Hid (gg l l[k2].name (t+1)):=H3.out.next htl HQ.out.symm
      go_wp2
      go_roundw
      case rel=>exact⟨t+1,by go_num,by omega,HW3.drewN _,HN⟩
      case measure=>simp[intOf];omega
  have vg:(k:Int)<(l.length:Int):=by omega
  obtain⟨b,off,rfl,hb,hc⟩:=(h.below HW.below) k zN
  obtain⟨x0,x1⟩:=hc k zN
  have qt: ∀n,Calls Tryz.prog 121 #[.slice ao o.length co,.int .i64 l[k].id] (wr.drewN n) fun e w'=>e= .returned (.int .i64 (xB o l[k].id))∧w'=wr.drewN n:=fun n=>fS _ co o _ _ (ho.below (HW.drewN n).below) jF
  obtain⟨q,hq⟩: ∃q,q=xB o l[k].id:=⟨_,rfl⟩
  rw[←hq]at qt
  have D6:Hid (q=xB o l[k].id):=hq
  clear hq
  go_wp2_with fail
  refine(mD l[k].name wr).mono ?_
  rintro e w1 ⟨rfl,ri⟩
  rw[ri]
  clear ri w1
  obtain⟨r,hrn⟩: ∃r,r=vW l[k].name:=⟨_,rfl⟩
  rw[←hrn]
  rw[dO]at hrn
  have De:Hid (r=yf l[k].name):=hrn
  clear hrn
  by_cases hr:r=0
  case neg=>
   have f0:(r==0)=false:=by simpa using hr
   have f1:(r != 0)=true:=by simpa using hr
   have HR:Hid (R7 r∧(r=0↔yG l o=0)):=Zl (by rw[De.out];exact Yo _) hr (fun e=>hr (by rw[De.out];exact V4 e zN))
   clear hr hc
   go_wp2
   go_quiet (fail)
   go_wp2
   go_ret
   exact⟨⟨_,rfl,HR.out⟩,HW.drewN _⟩
  subst hr
  by_cases Vj:k=0
  case pos=>
   have g0:decide (0<k)=false:=by simp;omega
   have Gy:Hid (k=0):=Vj
   clear Vj hc
   go_wp2
   go_quiet (fail)
   go_wp2_with fail
   refine(qt _).mono ?_
   rintro e w1 ⟨rfl,ri⟩
   rw[ri]
   clear ri w1 qt
   by_cases q0:q=0
   case neg=>
    have f1:(q != 0)=true:=by simpa using q0
    have HR:Hid (R7 q∧(q=0↔yG l o=0)):=Zl (by rw[D6.out];exact(r7 5).ite ((r7 7).ite (r7 0))) q0 (fun e=>q0 (by rw[D6.out];exact j7 e zN))
    clear q0
    go_wp2
    go_ret
    exact⟨⟨_,rfl,HR.out⟩,HW.drewN _⟩
   have HN:Hid (jn l o (k+1)):=H.out.next zN De.out.symm (jM (D6.out.symm.trans q0)) (fun e=>by have:=Gy.out;omega)
   subst q0
   go_wp2
   go_roundw
   case rel=>exact⟨k+1,by go_num,by omega,HW.drewN _,HN⟩
   case measure=>simp[intOf];omega
  have g0:decide (0<k)=true:=by simp;omega
  have g1:0<k:=by omega
  have qu:(k:Int)-1<(l.length:Int):=by omega
  have ka:(0:Int)≤(k:Int)-1:=by omega
  have xl:k-1<l.length:=by omega
  have hp:wr.cell? ⟨b,off+(k-1)*2,none⟩=some (.string (l[k-1]'xl).name):=(hc (k-1) xl).1
  obtain⟨y,hy⟩: ∃y,y=(l[k-1]'xl).name:=⟨_,rfl⟩
  rw[←hy]at hp
  have HY:Hid (y=(l[k-1]'xl).name):=hy
  clear Vj hc hy
  by_cases hle:(Op.bytesLess l[k].name.toList y.toList||l[k].name.toList==y.toList)=true
  case pos=>
   have HF:Hid (¬yG l o=0):=fun e=>by
    have q:=Uf e zN xl g1
    rw[←HY.out]at q
    rcases Bool.or_eq_true_iff.1 hle with c|c
    ·exact q.asymm c
    ·rw[tD.1 c]at q;exact tT.irrefl _ q
   go_wp2
   go_quiet (fail)
   go_wp2
   go_ret
   exact⟨⟨_,rfl,Zl ⟨by decide,by decide⟩ (by decide) HF.out⟩,HW.drewN _⟩
  have zG6:(Op.bytesLess l[k].name.toList y.toList||l[k].name.toList==y.toList)=false:=by simpa using hle
  have CZ:Hid (tT (l[k-1]'xl).name l[k].name):=by
   unfold Hid
   rw[←HY.out]
   obtain⟨n1,n2⟩:=Bool.or_eq_false_iff.1 zG6
   exact tT.total (fun c=>by rw[show Op.bytesLess l[k].name.toList y.toList=true from c]at n1;cases n1) (fun c=>by rw[c]at n2;simp at n2)
  clear hle
  go_wp2
  go_quiet (fail)
  go_wp2_with fail
  refine(qt _).mono ?_
  rintro e w1 ⟨rfl,ri⟩
  rw[ri]
  clear ri w1 qt
  by_cases q0:q=0
  case neg=>
   have f1:(q != 0)=true:=by simpa using q0
   have HR:Hid (R7 q∧(q=0↔yG l o=0)):=Zl (by rw[D6.out];exact(r7 5).ite ((r7 7).ite (r7 0))) q0 (fun e=>q0 (by rw[D6.out];exact j7 e zN))
   clear q0
   go_wp2
   go_ret
   exact⟨⟨_,rfl,HR.out⟩,HW.drewN _⟩
  have HN:Hid (jn l o (k+1)):=H.out.next zN De.out.symm (jM (D6.out.symm.trans q0)) (fun _ _=>CZ.out)
  subst q0
  go_wp2
  go_roundw
  case rel=>exact⟨k+1,by go_num,by omega,HW.drewN _,HN⟩
  case measure=>simp[intOf];omega
theorem dK(a:Option Addr)(c:Nat)(l:List Rf)(ao:Option Addr)(co:Nat)(o:List Ob)(w:World)(h:yU w a l)(hl:l.length≤9223372036854775807)(ho:zP w ao o)(jF:o.length≤9223372036854775807)(hoc:o.length≤co)(hs:zK o=0):
  Calls Tryz.prog 23 #[.slice a l.length c,.slice ao o.length co] w fun e w'=>(∃r,e= .returned (.int .i64 r)∧R7 r∧(r=0↔yG l o=0))∧Below w.heap.size w w':=by
 have HS:Hid (zK o=0):=hs
 have HZ:Hid (tK o=0):=(gM (zh.1 hs).2.2).trans hs
 clear hs
 go_enter Tryz.func23,Tryz.ntmps23
 go_wp2_with fail
 refine(rD ao co o w ho jF hoc).mono ?_
 rintro e w1 ⟨rfl,zM⟩
 rw[HZ.out]
 go_wp2_with fail
 refine(nQ a c l ao co o w1 (h.below zM) hl (ho.below zM) jF HS.out).mono ?_
 rintro e w2 ⟨⟨r,rfl,hr⟩,hd⟩
 have HR:Hid (R7 r∧(r=0↔yG l o=0)):=hr
 have hB:=zM.trans (hd.below.mono zM.size)
 clear hr hd zM
 go_wp2
 go_ret
 exact⟨⟨_,rfl,HR.out⟩,hB⟩
section
def PY(P:Nat→Prop)(w w':World):Prop:=w.heap.size≤w'.heap.size∧∀k,k<w.heap.size→¬P k→w'.heap[k]? =w.heap[k]?
theorem rZ{P:Nat→Prop}{w w':World}(h:Below w.heap.size w w'):PY P w w':=⟨h.size,fun k hk _=>h.block k hk⟩
def uT(P:Nat→Prop)(w:World)(a:Option Addr)(L:List Int):Prop:=
 ∀i,i<L.length→∃b off,a=some ⟨b,off,none⟩∧b<w.heap.size∧¬P b∧∀i,i<L.length→w.cell? ⟨b,off+i,none⟩=some (.int .i64 (L.getD i 0))
def JN(P:Nat→Prop)(w:World)(b o:Nat)(x:Ob):Prop:=
 ∃sa sc,w.cell? ⟨b,o,none⟩=some (.int .i64 x.id)∧w.cell? ⟨b,o+1,none⟩=some (.int .i64 x.kind)∧w.cell? ⟨b,o+2,none⟩=some (.slice sa x.links.length sc)∧w.cell? ⟨b,o+3,none⟩=some (.string x.text)∧uT P w sa x.links∧x.links.length≤9223372036854775807
def ym(P:Nat→Prop)(w:World)(a:Option Addr)(l:List Ob):Prop:=
 ∀i,i<l.length→∃b off,a=some ⟨b,off,none⟩∧b<w.heap.size∧¬P b∧∀i (h:i<l.length),JN P w b (off+i*4) l[i]
def xx(P:Nat→Prop)(w:World)(a:Option Addr)(l:List Rf):Prop:=
 ∀i,i<l.length→∃b off,a=some ⟨b,off,none⟩∧b<w.heap.size∧¬P b∧∀i (h:i<l.length),S7 w b (off+i*2) l[i]
def tt(P:Nat→Prop)(w:World)(a:Option Addr)(l:List Up):Prop:=
 ∀i,i<l.length→∃b off,a=some ⟨b,off,none⟩∧b<w.heap.size∧¬P b∧∀i (h:i<l.length),S9 w b (off+i*3) l[i]
section
variable {P P':Nat→Prop} {w w':World} {a:Option Addr}
theorem uT.plain{L:List Int}(h:uT P w a L):yD w a L:=fun i hi=>by
 obtain⟨b,off,e,hb,_,hc⟩:=h i hi;exact⟨b,off,e,hb,hc⟩
theorem uT.put{L:List Int}(h:uT P w a L)(hk:PY P w w'):uT P w' a L:=fun i hi=>by
 obtain⟨b,off,e,hb,hp,hc⟩:=h i hi
 exact⟨b,off,e,Nat.lt_of_lt_of_le hb hk.1,hp,fun j hj=>(World.cell?_of_block (a:=⟨b,off+j,none⟩) (hk.2 b hb hp)).trans (hc j hj)⟩
theorem uT.more{L:List Int}(h:uT P w a L)(hp: ∀k,k<w.heap.size→P' k→P k):uT P' w a L:=fun i hi=>by
 obtain⟨b,off,e,hb,hn,hc⟩:=h i hi;exact⟨b,off,e,hb,fun q=>hn (hp b hb q),hc⟩
theorem yD.toP{L:List Int}(h:yD w a L)(hp: ∀k,k<w.heap.size→¬P k):uT P w a L:=fun i hi=>by
 obtain⟨b,off,e,hb,hc⟩:=h i hi;exact⟨b,off,e,hb,hp b hb,hc⟩
theorem JN.plain{b o:Nat}{x:Ob}(h:JN P w b o x):Rt w b o x:=by
 obtain⟨sa,sc,h0,h1,h2,h3,h4,h5⟩:=h
 exact⟨sa,sc,h0,h1,h2,h3,h4.plain,h5⟩
theorem ym.plain{l:List Ob}(h:ym P w a l):zP w a l:=fun i hi=>by
 obtain⟨b,off,e,hb,_,hc⟩:=h i hi;exact⟨b,off,e,hb,fun j hj=>(hc j hj).plain⟩
theorem JN.put{b o:Nat}{x:Ob}(h:JN P w b o x)(hk:PY P w w')(hb:b<w.heap.size)(hp: ¬P b):JN P w' b o x:=by
 obtain⟨sa,sc,h0,h1,h2,h3,h4,h5⟩:=h
 have e:=hk.2 b hb hp
 exact⟨sa,sc,(World.cell?_of_block (a:=⟨b,o,none⟩) e).trans h0,(World.cell?_of_block (a:=⟨b,o+1,none⟩) e).trans h1,(World.cell?_of_block (a:=⟨b,o+2,none⟩) e).trans h2,(World.cell?_of_block (a:=⟨b,o+3,none⟩) e).trans h3,h4.put hk,h5⟩
theorem ym.put{l:List Ob}(h:ym P w a l)(hk:PY P w w'):ym P w' a l:=fun i hi=>by
 obtain⟨b,off,e,hb,hp,hc⟩:=h i hi
 exact⟨b,off,e,Nat.lt_of_lt_of_le hb hk.1,hp,fun j hj=>(hc j hj).put hk hb hp⟩
theorem ym.below{l:List Ob}(h:ym P w a l)(hb:Below w.heap.size w w'):ym P w' a l:=h.put (rZ hb)
theorem JN.more{b o:Nat}{x:Ob}(h:JN P w b o x)(hp: ∀k,k<w.heap.size→P' k→P k):JN P' w b o x:=by
 obtain⟨sa,sc,h0,h1,h2,h3,h4,h5⟩:=h
 exact⟨sa,sc,h0,h1,h2,h3,h4.more hp,h5⟩
theorem ym.more{l:List Ob}(h:ym P w a l)(hp: ∀k,k<w.heap.size→P' k→P k):ym P' w a l:=fun i hi=>by
 obtain⟨b,off,e,hb,hn,hc⟩:=h i hi
 exact⟨b,off,e,hb,fun q=>hn (hp b hb q),fun j hj=>(hc j hj).more hp⟩
theorem zP.toP{l:List Ob}(h:zP w a l)(hp: ∀k,k<w.heap.size→¬P k):ym P w a l:=fun i hi=>by
 obtain⟨b,off,e,hb,hc⟩:=h i hi
 refine⟨b,off,e,hb,hp b hb,fun j hj=>?_⟩
 obtain⟨sa,sc,h0,h1,h2,h3,h4,h5⟩:=hc j hj
 exact⟨sa,sc,h0,h1,h2,h3,h4.toP hp,h5⟩
theorem xx.plain{l:List Rf}(h:xx P w a l):yU w a l:=fun i hi=>by
 obtain⟨b,off,e,hb,_,hc⟩:=h i hi;exact⟨b,off,e,hb,hc⟩
theorem xx.put{l:List Rf}(h:xx P w a l)(hk:PY P w w'):xx P w' a l:=fun i hi=>by
 obtain⟨b,off,e,hb,hp,hc⟩:=h i hi
 have q:=hk.2 b hb hp
 exact⟨b,off,e,Nat.lt_of_lt_of_le hb hk.1,hp,fun j hj=>⟨(World.cell?_of_block (a:=⟨b,off+j*2,none⟩) q).trans (hc j hj).1,(World.cell?_of_block (a:=⟨b,off+j*2+1,none⟩) q).trans (hc j hj).2⟩⟩
theorem xx.below{l:List Rf}(h:xx P w a l)(hb:Below w.heap.size w w'):xx P w' a l:=h.put (rZ hb)
theorem xx.more{l:List Rf}(h:xx P w a l)(hp: ∀k,k<w.heap.size→P' k→P k):xx P' w a l:=fun i hi=>by
 obtain⟨b,off,e,hb,hn,hc⟩:=h i hi;exact⟨b,off,e,hb,fun q=>hn (hp b hb q),hc⟩
theorem yU.toP{l:List Rf}(h:yU w a l)(hp: ∀k,k<w.heap.size→¬P k):xx P w a l:=fun i hi=>by
 obtain⟨b,off,e,hb,hc⟩:=h i hi;exact⟨b,off,e,hb,hp b hb,hc⟩
theorem tt.plain{l:List Up}(h:tt P w a l):zx w a l:=fun i hi=>by
 obtain⟨b,off,e,hb,_,hc⟩:=h i hi;exact⟨b,off,e,hb,hc⟩
theorem tt.put{l:List Up}(h:tt P w a l)(hk:PY P w w'):tt P w' a l:=fun i hi=>by
 obtain⟨b,off,e,hb,hp,hc⟩:=h i hi
 have q:=hk.2 b hb hp
 exact⟨b,off,e,Nat.lt_of_lt_of_le hb hk.1,hp,fun j hj=>⟨(World.cell?_of_block (a:=⟨b,off+j*3,none⟩) q).trans (hc j hj).1,(World.cell?_of_block (a:=⟨b,off+j*3+1,none⟩) q).trans (hc j hj).2.1,(World.cell?_of_block (a:=⟨b,off+j*3+2,none⟩) q).trans (hc j hj).2.2⟩⟩
theorem tt.more{l:List Up}(h:tt P w a l)(hp: ∀k,k<w.heap.size→P' k→P k):tt P' w a l:=fun i hi=>by
 obtain⟨b,off,e,hb,hn,hc⟩:=h i hi;exact⟨b,off,e,hb,fun q=>hn (hp b hb q),hc⟩
end
structure Rq.HP(P:Nat→Prop)(w:World)(q:Rq):Prop where
 hs:ym P w q.aS q.r.s
 hl:xx P w q.al q.r.l
 hm:ym P w q.a1 q.r.m
 hu:tt P w q.a2 q.r.us
 ns:q.r.s.length≤9223372036854775807
 nl:q.r.l.length≤9223372036854775807
 nm:q.r.m.length≤9223372036854775807
 nu:q.r.us.length≤9223372036854775807
 cap:q.r.s.length≤q.cs
theorem Rq.HP.plain{P:Nat→Prop}{w:World}{q:Rq}(h:q.HP P w):q.H w:=⟨h.hs.plain,h.hl.plain,h.hm.plain,h.hu.plain,h.ns,h.nl,h.nm,h.nu⟩
theorem Rq.HP.put{P:Nat→Prop}{w w':World}{q:Rq}(h:q.HP P w)(hk:PY P w w'):q.HP P w':=⟨h.hs.put hk,h.hl.put hk,h.hm.put hk,h.hu.put hk,h.ns,h.nl,h.nm,h.nu,h.cap⟩
theorem Rq.HP.below{P:Nat→Prop}{w w':World}{q:Rq}(h:q.HP P w)(hb:Below w.heap.size w w'):q.HP P w':=h.put (rZ hb)
theorem Rq.HP.more{P P':Nat→Prop}{w:World}{q:Rq}(h:q.HP P w)(hp: ∀k,k<w.heap.size→P' k→P k):q.HP P' w:=⟨h.hs.more hp,h.hl.more hp,h.hm.more hp,h.hu.more hp,h.ns,h.nl,h.nm,h.nu,h.cap⟩
def xO(P:Nat→Prop)(w:World)(a:Option Addr)(l:List Rq):Prop:=
 ∀i,i<l.length→∃b off,a=some ⟨b,off,none⟩∧b<w.heap.size∧¬P b∧∀i (h:i<l.length),bY w b (off+i*7) l[i]∧l[i].HP P w
theorem xO.plain{P:Nat→Prop}{w:World}{a:Option Addr}{l:List Rq}(h:xO P w a l):zy w a l:=fun i hi=>by
 obtain⟨b,off,e,hb,_,hc⟩:=h i hi;exact⟨b,off,e,hb,fun j hj=>⟨(hc j hj).1,(hc j hj).2.plain⟩⟩
theorem xO.put{P:Nat→Prop}{w w':World}{a:Option Addr}{l:List Rq}(h:xO P w a l)(hk:PY P w w'):xO P w' a l:=fun i hi=>by
 obtain⟨b,off,e,hb,hp,hc⟩:=h i hi
 exact⟨b,off,e,Nat.lt_of_lt_of_le hb hk.1,hp,fun j hj=>⟨(hc j hj).1.block (hk.2 b hb hp),(hc j hj).2.put hk⟩⟩
theorem xO.below{P:Nat→Prop}{w w':World}{a:Option Addr}{l:List Rq}(h:xO P w a l)(hb:Below w.heap.size w w'):xO P w' a l:=h.put (rZ hb)
theorem xO.more{P P':Nat→Prop}{w:World}{a:Option Addr}{l:List Rq}(h:xO P w a l)(hp: ∀k,k<w.heap.size→P' k→P k):xO P' w a l:=fun i hi=>by
 obtain⟨b,off,e,hb,hn,hc⟩:=h i hi
 exact⟨b,off,e,hb,fun q=>hn (hp b hb q),fun j hj=>⟨(hc j hj).1,(hc j hj).2.more hp⟩⟩
theorem xO.each{P:Nat→Prop}{w:World}{a:Option Addr}{l:List Rq}(h:xO P w a l){i:Nat}(hi:i<l.length):l[i].HP P w:=by
 obtain⟨b,off,e,hb,hn,hc⟩:=h i hi;exact(hc i hi).2
theorem eu{P:Nat→Prop}{w:World}{base:Nat}{v:Value}{rs:List Pl}(h:w.ownsRow base 58 4 v rs.length (xE rs))(hp: ∀k,P k→k<base)(hh: ∀r∈rs,uT P w r.sa r.x.links∧r.x.links.length≤9223372036854775807):
  ∃a c,v= .slice a (rs.map Pl.x).length c∧ym P w a (rs.map Pl.x)∧(rs.map Pl.x).length≤c:=by
 rw[List.length_map]
 rcases h.2 with⟨rfl,e⟩|⟨g,cap,cur,rfl,h1,h2,h3,h4,h5,h6⟩
 ·rw[e]
  refine⟨none,0,rfl,fun i hi=>?_,Nat.le_refl _⟩
  rw[List.length_map]at hi;omega
 ·refine⟨_,_,rfl,fun i hi=>⟨g,0,rfl,zG h2,fun q=>by have:=hp g q;omega,fun k hk=>?_⟩,h3⟩
  rw[List.length_map]at hk
  have hc: ∀j,j<4→w.cell? ⟨g,0+k*4+j,none⟩=(rs[k].cells)[j]?:=fun j hj=>by
   rw[Nat.zero_add,cell_of_row w g _ _ _ _ h2,←ro rs k j hk hj,←h6,List.getElem?_take,if_pos (by omega)]
   simp
  have hr:=hh rs[k] (List.getElem_mem hk)
  refine⟨rs[k].sa,rs[k].sc,?_⟩
  rw[List.getElem_map]
  exact⟨by simpa[Pl.cells]using hc 0 (by omega),by simpa[Pl.cells]using hc 1 (by omega),by simpa[Pl.cells]using hc 2 (by omega),by simpa[Pl.cells]using hc 3 (by omega),hr.1,hr.2⟩
theorem qU{P:Nat→Prop}{w:World}{base:Nat}{v:Value}{xs:List Rf}(h:w.ownsRow base 65 2 v xs.length (xM xs))(hp: ∀k,P k→k<base): ∃a c,v= .slice a xs.length c∧xx P w a xs:=by
 rcases h.2 with⟨rfl,e⟩|⟨g,cap,cur,rfl,h1,h2,h3,h4,h5,h6⟩
 ·rw[e]
  exact⟨none,0,rfl,fun i hi=>by omega⟩
 ·refine⟨_,_,rfl,fun i hi=>⟨g,0,rfl,zG h2,fun q=>by have:=hp g q;omega,fun k hk=>?_⟩⟩
  have hc: ∀j,j<2→w.cell? ⟨g,0+k*2+j,none⟩=(xs[k].cells)[j]?:=fun j hj=>by
   rw[Nat.zero_add,cell_of_row w g _ _ _ _ h2,←pC xs k j hk hj,←h6,List.getElem?_take,if_pos (by omega)]
   simp
  exact⟨by simpa[Rf.cells]using hc 0 (by omega),by simpa[Rf.cells]using hc 1 (by omega)⟩
end
theorem qS(n:Int)(h0:0≤n)(h:n≤999)(w:World):Calls Tryz.prog 242 #[.int .i64 n] w fun e w'=>e= .returned (.string (zz n))∧Below w.heap.size w w':=by
 refine(Tn n h0 h w).mono ?_
 rintro e w' ⟨rfl,rfl⟩
 exact⟨rfl,Below.refl _ _⟩
theorem H8{x y:ByteArray}:(!Op.bytesLess x.toList y.toList&&!x.toList==y.toList)=ltB y x:=by
 have h:JO x y=false↔tT y x:=Yj
 unfold JO at h
 have e:(!Op.bytesLess x.toList y.toList&&!x.toList==y.toList)=!(Op.bytesLess x.toList y.toList||x.toList==y.toList):=by
  cases Op.bytesLess x.toList y.toList<;>cases(x.toList==y.toList)<;>rfl
 rw[e]
 cases hb:(Op.bytesLess x.toList y.toList||x.toList==y.toList)with
 |false=>exact(h.1 hb).symm
 |true=>
  cases hl:ltB y x with
  |false=>rfl
  |true=>rw[h.2 hl]at hb;cases hb
theorem Wu(a:Option Addr)(c:Nat)(us:List Up)(w:World)(h:zx w a us)(hU:yd us=0):
  Calls Tryz.prog 243 #[.slice a us.length c] w fun e w'=>e= .returned (.string (tQ us))∧Below w.heap.size w w':=by
 obtain⟨h0,h4,hRU,-⟩:=ve.1 hU
 obtain⟨b,off,rfl⟩: ∃b off,a=some ⟨b,off,none⟩:=by
  obtain⟨b,off,e,_⟩:=h 0 h0;exact⟨b,off,e⟩
 have HU:Hid (yd us=0):=hU
 have HRU:Hid (∀u∈us,py u):=hRU
 have HT:Hid (rE us us.length=tQ us):=Q4 us hU
 have HS0:Hid (rE us 0=(⟨#[]⟩:ByteArray)∧nV us 0=(⟨#[]⟩:ByteArray)):=⟨rfl,rfl⟩
 have HSZ:Hid (∀k,(rE us k).size≤404):=fun k=>by
  have h1:=sS ((sortU us).take k) ⟨#[]⟩ (fun u hu=>hRU u ((vw us).mem_iff.1 (List.mem_of_mem_take hu)))
  have h2:(⟨#[]⟩:ByteArray).size=0:=rfl
  have h3:((sortU us).take k).length≤4:=by rw[List.length_take,tN];omega
  unfold rE;omega
 clear hU hRU
 go_enter Tryz.func243,Tryz.ntmps243
 go_wp2_with fail
 go_loopw [3,4,5] (fun s la n wr=>∃k:Nat,s= .string (rE us k)∧la= .string (nV us k)∧n= .int .i64 k∧k≤us.length∧Below w.heap.size w wr) (fun _ _ n _=>us.length-(intOf n).toNat)
 case atStart=>exact⟨0,by rw[HS0.out.1],by rw[HS0.out.2],rfl,Nat.zero_le _,Below.refl _ _⟩
 case round=>
  clear HS0 h0
  obtain⟨k,rfl,rfl,rfl,hk,hB⟩:=hrel
  by_cases zN:k<us.length
  case neg=>
   have vg: ¬(k:Int)<(us.length:Int):=by omega
   have Ca:k=us.length:=by omega
   have HF:Hid (rE us k=tQ us):=by rw[Ca];exact HT.out
   clear Ca
   go_wp2
   go_ret
   exact⟨by show Ending.returned (Value.string (rE us k))=_;rw[HF.out],hB⟩
  have vg:(k:Int)<(us.length:Int):=by omega
  have xa:(k:Int)+1≤9223372036854775807:=by omega
  obtain⟨p,hp,qv,hpe⟩:=Qq HU.out zN
  have HP:Hid (uX us (nV us k) us.length=p):=hp
  have fW:Hid (nV us (k+1)=us[p].name):=by rw[hpe];exact Vz zN
  have Di:Hid (rE us (k+1)=rE us k++tG us[p]):=by rw[hpe];exact U6 zN
  clear hp hpe
  obtain⟨la,Dp⟩: ∃la,la=nV us k:=⟨_,rfl⟩
  obtain⟨s,hs⟩: ∃s,s=rE us k:=⟨_,rfl⟩
  have gB:s.size≤404:=by rw[hs];exact HSZ.out k
  rw[←Dp]at HP⊢
  rw[←hs]at Di⊢
  clear Dp hs
  have HPT:Hid (uX us la 0= -1):=rfl
  go_wp2_with fail
  go_loopw [6,7] (fun at' i wj=>∃(j:Nat) (q:Int),at'= .int .i64 q∧i= .int .i64 j∧j≤us.length∧Hid (uX us la j=q)∧Below w.heap.size w wj) (fun _ i _=>us.length-(intOf i).toNat)
  case atStart=>exact⟨0,-1,rfl,rfl,Nat.zero_le _,HPT,hB⟩
  case round=>
   clear hB HPT
   obtain⟨j,q,rfl,rfl,hj,HQ,hB⟩:=hrel
   by_cases bZ:j<us.length
   case neg=>
    have XO: ¬(j:Int)<(us.length:Int):=by omega
    have TK:q=(p:Int):=by
     have:j=us.length:=by omega
     rw[←HQ.out,this];exact HP.out
    subst TK
    clear HQ HP
    have zSI:(p:Int)<(us.length:Int):=by omega
    obtain⟨x0,x1,x2⟩:=rN (h.below hB) qv
    have hR:=HRU.out us[p] (List.getElem_mem qv)
    have HSE:Hid (tG us[p]=((((us[p].name++Ym)++zz us[p].old)++Ym)++zz us[p].new)++(⟨#[59]⟩:ByteArray)):=AN hR.o0 hR.n0
    have K4:=fun W:World=>qS us[p].old hR.o0 (by have:=hR.o1;omega) W
    have hU2:=fun W:World=>qS us[p].new hR.n0 (by have:=hR.n1;omega) W
    have Bu:=pb hR.name
    have YG:=x9 us[p].old.toNat (by have:=hR.o1;have:=hR.o0;omega)
    rw[show((us[p].old.toNat:Nat):Int)=us[p].old by have:=hR.o0;omega]at YG
    have ky:=x9 us[p].new.toNat (by have:=hR.n1;have:=hR.n0;omega)
    rw[show((us[p].new.toNat:Nat):Int)=us[p].new by have:=hR.n0;omega]at ky
    have Bg:Hid (rE us (k+1)=s++(((((us[p].name++Ym)++zz us[p].old)++Ym)++zz us[p].new)++(⟨#[59]⟩:ByteArray))):=by unfold Hid;rw[Di.out,HSE.out]
    clear HSE Di hR
    have hUU:=h.below hB
    obtain⟨u,hu⟩: ∃u,u=us[p]:=⟨_,rfl⟩
    rw[←hu]at x0 x1 x2 K4 hU2 Bu YG ky fW Bg
    have fP:Hid (∀W,zx W (some ⟨b,off,none⟩) us→S9 W b (off+p*3) u):=fun W hW=>by rw[hu];exact rN hW qv
    clear hu
    obtain⟨J1,hJ1⟩: ∃J,J=zz u.old:=⟨_,rfl⟩
    obtain⟨J2,hJ2⟩: ∃J,J=zz u.new:=⟨_,rfl⟩
    rw[←hJ1]at K4 YG Bg
    rw[←hJ2]at hU2 ky Bg
    clear hJ1 hJ2
    obtain⟨nm,eE⟩: ∃nm,nm=u.name:=⟨_,rfl⟩
    rw[←eE]at x0 Bu fW Bg
    have HNM:Hid (nm=u.name):=eE
    clear eE
    have s1: ¬9223372036854775807<nm.size+1:=by omega
    have s2: ¬9223372036854775807<nm.size+1+J1.size:=by omega
    have s3: ¬9223372036854775807<nm.size+1+J1.size+1:=by omega
    have s4: ¬9223372036854775807<nm.size+1+J1.size+1+J2.size:=by omega
    have s5: ¬9223372036854775807<nm.size+1+J1.size+1+J2.size+1:=by omega
    have s6: ¬9223372036854775807<s.size+(nm.size+1+J1.size+1+J2.size+1):=by omega
    go_upto_region 12 with fail
    clear x0 x1 x2
    have zk:=zU wr
    have zX:=bt hB zk
    have eF:=hUU.below zk
    have Ma:=zk.size
    clear hUU zk hB
    refine zS (fun W=>(zx W (some ⟨b,off,none⟩) us)) (fun _=>false) (by kernel_rfl) eF (fun hS=>?_)
    clear hS
    generalize wr.drew=W_5 at *
    refine zAB 0 ?_ rfl ?_ eF ?_;rotate_left
    ·intro w zD;obtain⟨x0,x1,x2⟩:=fP.out _ zD;clear zD;have s1:=s1;have s2:=s2;have s3:=s3;have s4:=s4;have s5:=s5;have s6:=s6;go_simp;rfl
    try simp only[tn]
    refine zAB 1 ?_ rfl ?_ eF ?_;rotate_left
    ·intro w zD;obtain⟨x0,x1,x2⟩:=fP.out _ zD;clear zD;have s1:=s1;have s2:=s2;have s3:=s3;have s4:=s4;have s5:=s5;have s6:=s6;go_simp;rfl
    try simp only[tn]
    refine zAB 3 ?_ rfl ?_ eF ?_;rotate_left
    ·intro w zD;obtain⟨x0,x1,x2⟩:=fP.out _ zD;clear zD;have s1:=s1;have s2:=s2;have s3:=s3;have s4:=s4;have s5:=s5;have s6:=s6;go_simp;rfl
    try simp only[tn]
    refine zAB 4 ?_ rfl ?_ eF ?_;rotate_left
    ·intro w zD;obtain⟨x0,x1,x2⟩:=fP.out _ zD;clear zD;have s1:=s1;have s2:=s2;have s3:=s3;have s4:=s4;have s5:=s5;have s6:=s6;go_simp;rfl
    try simp only[tn]
    refine zAB 11 ?_ rfl ?_ eF ?_;rotate_left
    ·intro w zD;obtain⟨x0,x1,x2⟩:=fP.out _ zD;clear zD;have s1:=s1;have s2:=s2;have s3:=s3;have s4:=s4;have s5:=s5;have s6:=s6;go_simp;rfl
    try simp only[tn]
    refine zAB 12 ?_ rfl ?_ eF ?_;rotate_left
    ·intro w zD;obtain⟨x0,x1,x2⟩:=fP.out _ zD;clear zD;have s1:=s1;have s2:=s2;have s3:=s3;have s4:=s4;have s5:=s5;have s6:=s6;go_simp;rfl
    try simp only[tn]
    refine zAB 2 ?_ rfl ?_ eF ?_;rotate_left
    ·intro w zD;obtain⟨x0,x1,x2⟩:=fP.out _ zD;clear zD;have s1:=s1;have s2:=s2;have s3:=s3;have s4:=s4;have s5:=s5;have s6:=s6;go_simp;rfl
    try simp only[tn]
    refine zAB 5 ?_ rfl ?_ eF ?_;rotate_left
    ·intro w zD;obtain⟨x0,x1,x2⟩:=fP.out _ zD;clear zD;have s1:=s1;have s2:=s2;have s3:=s3;have s4:=s4;have s5:=s5;have s6:=s6;go_simp;rfl
    try simp only[tn]
    refine zAB 13 ?_ rfl ?_ eF ?_;rotate_left
    ·intro w zD;obtain⟨x0,x1,x2⟩:=fP.out _ zD;clear zD;have s1:=s1;have s2:=s2;have s3:=s3;have s4:=s4;have s5:=s5;have s6:=s6;go_simp;rfl
    try simp only[tn]
    refine zAB 6 ?_ rfl ?_ eF ?_;rotate_left
    ·intro w zD;obtain⟨x0,x1,x2⟩:=fP.out _ zD;clear zD;have s1:=s1;have s2:=s2;have s3:=s3;have s4:=s4;have s5:=s5;have s6:=s6;go_simp;rfl
    try simp only[tn]
    refine zAB 14 ?_ rfl ?_ eF ?_;rotate_left
    ·intro w zD;obtain⟨x0,x1,x2⟩:=fP.out _ zD;clear zD;have s1:=s1;have s2:=s2;have s3:=s3;have s4:=s4;have s5:=s5;have s6:=s6;go_simp;rfl
    try simp only[tn]
    refine zAB 7 ?_ rfl ?_ eF ?_;rotate_left
    ·intro w zD;obtain⟨x0,x1,x2⟩:=fP.out _ zD;clear zD;have s1:=s1;have s2:=s2;have s3:=s3;have s4:=s4;have s5:=s5;have s6:=s6;go_simp;rfl
    try simp only[tn]
    refine zAB 15 ?_ rfl ?_ eF ?_;rotate_left
    ·intro w zD;obtain⟨x0,x1,x2⟩:=fP.out _ zD;clear zD;have s1:=s1;have s2:=s2;have s3:=s3;have s4:=s4;have s5:=s5;have s6:=s6;go_simp;rfl
    try simp only[tn]
    refine zAC 8 rfl fun K hK=>?_
    have N1:=K4 W_5
    go_simp
    refine N1.mono ?_
    clear N1
    rintro e LR ⟨rfl,h⟩
    have L7:=bt zX h
    have AO:=eF.below h
    have Jf:=h.size
    clear eF h zX
    refine hK _ _ (fun _=>AO) ?_
    clear hK K
    try simp only[tn]
    refine zAB 9 ?_ rfl ?_ AO ?_;rotate_left
    ·intro w zD;obtain⟨x0,x1,x2⟩:=fP.out _ zD;clear zD;have s1:=s1;have s2:=s2;have s3:=s3;have s4:=s4;have s5:=s5;have s6:=s6;go_simp;rfl
    try simp only[tn]
    refine zAB 10 ?_ rfl ?_ AO ?_;rotate_left
    ·intro w zD;obtain⟨x0,x1,x2⟩:=fP.out _ zD;clear zD;have s1:=s1;have s2:=s2;have s3:=s3;have s4:=s4;have s5:=s5;have s6:=s6;go_simp;rfl
    try simp only[tn]
    refine zAC 16 rfl fun K hK=>?_
    have GM:=hU2 LR
    go_simp
    refine GM.mono ?_
    clear GM
    rintro e X4 ⟨rfl,h⟩
    have Sv:=bt L7 h
    have Pz:=AO.below h
    have zJU:=h.size
    clear AO h L7
    refine hK _ _ (fun _=>Pz) ?_
    clear hK K
    try simp only[tn]
    refine zAB 17 ?_ rfl ?_ Pz ?_;rotate_left
    ·intro w zD;obtain⟨x0,x1,x2⟩:=fP.out _ zD;clear zD;have s1:=s1;have s2:=s2;have s3:=s3;have s4:=s4;have s5:=s5;have s6:=s6;go_simp;rfl
    try simp only[tn]
    refine zAB 18 ?_ rfl ?_ Pz ?_;rotate_left
    ·intro w zD;obtain⟨x0,x1,x2⟩:=fP.out _ zD;clear zD;have s1:=s1;have s2:=s2;have s3:=s3;have s4:=s4;have s5:=s5;have s6:=s6;go_simp;rfl
    try simp only[tn]
    refine zAB 19 ?_ rfl ?_ Pz ?_;rotate_left
    ·intro w zD;obtain⟨x0,x1,x2⟩:=fP.out _ zD;clear zD;have s1:=s1;have s2:=s2;have s3:=s3;have s4:=s4;have s5:=s5;have s6:=s6;go_simp;rfl
    try simp only[tn]
    refine zAC 20 rfl fun K hK=>?_
    go_simp
    refine hK _ _ (fun _=>Pz) ?_
    clear hK K
    try simp only[tn]
    refine zAE ?_
    rw[←Bg.out,←fW.out]
    go_wp2
    go_roundw
    case rel=>exact⟨k+1,rfl,rfl,by go_num,by omega,Sv⟩
    case measure=>simp[intOf];omega
   have XO:(j:Int)<(us.length:Int):=by omega
   have hj1:(j:Int)+1≤9223372036854775807:=by omega
   obtain⟨x0,x1,x2⟩:=rN (h.below hB) bZ
   have HJ:Hid (uX us la (j+1)=if(ltB la us[j].name&&(decide (q<0)||ltB us[j].name (us.getD q.toNat ⟨⟨#[]⟩,0,0⟩).name))=true then(j:Int)else q):=by
    unfold Hid
    rw[uX,HQ.out]
    have e:us.getD j ⟨⟨#[]⟩,0,0⟩=us[j]:=by simp[bZ]
    rw[e]
   obtain⟨nm,eE⟩: ∃nm,nm=us[j].name:=⟨_,rfl⟩
   rw[←eE]at x0 HJ
   clear eE x1 x2
   cases b1:ltB la nm with
   |false=>
    have b1':(!Op.bytesLess nm.toList la.toList&&!nm.toList==la.toList)=false:=H8.trans b1
    have HN:Hid (uX us la (j+1)=q):=by unfold Hid;rw[HJ.out,b1];rfl
    clear HJ b1 HQ
    go_wp2
    go_quiet (fail)
    go_wp2
    go_roundw
    case rel=>exact⟨j+1,q,rfl,by go_num,by omega,HN,hB.trans ((yB (Below.refl _ _) _).mono hB.size)⟩
    case measure=>simp[intOf];omega
   |true=>
   have b1':(!Op.bytesLess nm.toList la.toList&&!nm.toList==la.toList)=true:=H8.trans b1
   rcases gT us la j (by omega)with⟨hq,-⟩|⟨t,hq,htj,htl,-,-⟩
   ·have CT:q= -1:=by rw[←HQ.out];exact hq
    have HN:Hid (uX us la (j+1)=j):=by unfold Hid;rw[HJ.out,b1,CT];rfl
    subst CT
    clear HJ b1 HQ hq
    go_wp2
    go_quiet (fail)
    go_wp2
    go_roundw
    case rel=>exact⟨j+1,j,rfl,by go_num,by omega,HN,hB.trans ((yB (Below.refl _ _) _).mono hB.size)⟩
    case measure=>simp[intOf];omega
   ·have CT:q=(t:Int):=by rw[←HQ.out];exact hq
    obtain⟨v0,v1,v2⟩:=rN (h.below hB) htl
    have Gn:(t:Int)<(us.length:Int):=by omega
    have ht0:decide ((t:Int)<0)=false:=by simp
    have Xl:Hid (uX us la (j+1)=if ltB nm us[t].name=true then(j:Int)else q):=by
     have e:us.getD q.toNat ⟨⟨#[]⟩,0,0⟩=us[t]:=by rw[CT];simp[htl]
     have e2:decide (q<0)=false:=by simp[CT]
     unfold Hid;rw[HJ.out,b1,e,e2];rfl
    obtain⟨nt,hnt⟩: ∃nt,nt=us[t].name:=⟨_,rfl⟩
    rw[←hnt]at v0 Xl
    subst CT
    clear HJ b1 HQ hq hnt v1 v2
    cases b2:ltB nm nt with
    |false=>
     have b2':Op.bytesLess nm.toList nt.toList=false:=b2
     have HN:Hid (uX us la (j+1)=t):=by unfold Hid;rw[Xl.out,b2];rfl
     clear Xl b2
     go_wp2
     go_quiet (fail)
     go_wp2
     go_roundw
     case rel=>exact⟨j+1,t,rfl,by go_num,by omega,HN,hB.trans ((yB (Below.refl _ _) _).mono hB.size)⟩
     case measure=>simp[intOf];omega
    |true=>
     have b2':Op.bytesLess nm.toList nt.toList=true:=b2
     have HN:Hid (uX us la (j+1)=j):=by unfold Hid;rw[Xl.out,b2];rfl
     clear Xl b2
     go_wp2
     go_quiet (fail)
     go_wp2
     go_roundw
     case rel=>exact⟨j+1,j,rfl,by go_num,by omega,HN,hB.trans ((yB (Below.refl _ _) _).mono hB.size)⟩
     case measure=>simp[intOf];omega
end Go.Proofs.YtehmlpkapjdhkaaGreatDoor
