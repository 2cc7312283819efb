import Derived.Test.YtehmlpkapjdhkaaGreatDoorMK
namespace Go.Proofs.YtehmlpkapjdhkaaGreatDoor
set_option maxHeartbeats 16000000
open Go.RowKit
set_option maxRecDepth 100000
theorem pO{x y:Rf}:fV x y=true↔x=y:=by
 unfold fV
 constructor
 ·intro h
  simp only[Bool.and_eq_true,beq_iff_eq]at h
  cases x;cases y
  simp only[Rf.mk.injEq]
  exact⟨ByteArray.ext (Array.toList_inj.1 (by simpa[ByteArray.toList_eq]using h.1)),h.2⟩
 ·rintro rfl;simp
theorem GL(n1 n2:ByteArray)(i1 i2:Int)(w:World):(binOp .neq 65 (.agg #[.string n1,.int .i64 i1]) (.agg #[.string n2,.int .i64 i2])).run Tryz.prog w= .ok (.bool (!fV ⟨n1,i1⟩ ⟨n2,i2⟩)) w:=AB ⟨n1,i1⟩ ⟨n2,i2⟩ w
def dj(x y:Up):Bool:=x.name.toList==y.name.toList&&x.old==y.old&&x.new==y.new
theorem zAT(n1 n2:ByteArray)(i1 i2 j1 j2:Int)(w:World):(binOp .neq 40 (.agg #[.string n1,.int .i64 i1,.int .i64 j1]) (.agg #[.string n2,.int .i64 i2,.int .i64 j2])).run Tryz.prog w= .ok (.bool (!dj ⟨n1,i1,j1⟩ ⟨n2,i2,j2⟩)) w:=by
 have u3:=Tryz.underlying3
 have a3:=Tryz.isAgg3
 have z3:=Tryz.sizeOf3
 have u9:=Tryz.underlying9
 have a9:=Tryz.isAgg9
 have z9:=Tryz.sizeOf9
 have hS:Tryz.prog.underlying 40=some (.struct (Tryz.prog.fieldsOf 40)):=by kernel_rfl
 have hp:Tryz.prog.stoodInHeld 40=false:=by kernel_rfl
 rw[run_neq_struct,show(10000:Nat)=9999+1 from rfl,run_equalIn_agg w 9999 40 _ _ hS hp]
 simp only[Program.fieldsOf,Tryz.underlying40]
 go_simp
 unfold dj
 by_cases h1:n1.toList=n2.toList<;>by_cases h2:i1=i2<;>by_cases h3:j1=j2<;>simp[h1,h2,h3]
theorem bF{x y:Up}:dj x y=true↔x=y:=by
 unfold dj
 constructor
 ·intro h
  simp only[Bool.and_eq_true,beq_iff_eq]at h
  cases x;cases y
  simp only[Up.mk.injEq]
  exact⟨ByteArray.ext (Array.toList_inj.1 (by simpa[ByteArray.toList_eq]using h.1.1)),h.1.2,h.2⟩
 ·rintro rfl;simp
theorem eT{b:Bool}{P:Prop}(h:b=true↔P)(hP: ¬P):b=false:=by
 cases b
 ·rfl
 ·exact absurd (h.1 rfl) hP
theorem Z6(a:Option Addr)(c:Nat)(l:List Rf)(a2:Option Addr)(c2:Nat)(l2:List Rf)(w:World)(h:yU w a l)(h2:yU w a2 l2)(hl:l.length≤9223372036854775807):
  Calls Tryz.prog 22 #[.slice a l.length c,.slice a2 l2.length c2] w fun e w'=>∃r,e= .returned (.bool r)∧(r=true↔l=l2)∧Below w.heap.size w w':=by
 by_cases hn:l.length=l2.length
 case neg=>
  have zn:((l.length:Int) != (l2.length:Int))=true:=by simpa using(by omega: ¬((l.length:Int)=(l2.length:Int)))
  have HN:Hid (¬l=l2):=fun e=>hn (by rw[e])
  clear hn
  go_enter Tryz.func22,Tryz.ntmps22
  go_wp2
  go_ret
  exact⟨false,rfl,⟨fun e=>(by cases e),fun e=>absurd e HN.out⟩,Below.refl _ _⟩
 rw[←hn]
 have HN:Hid (l.length=l2.length):=hn
 clear hn
 go_enter Tryz.func22,Tryz.ntmps22
 go_wp2
 go_loopw [5] (fun i wr=>∃k:Nat,i= .int .i64 k∧k≤l.length∧Below w.heap.size w wr∧Hid (∀j (h1:j<l.length) (h2:j<l2.length),j<k→l[j]=l2[j])) (fun i _=>l.length-(intOf i).toNat)
 case atStart=>exact⟨0,rfl,Nat.zero_le _,Below.refl _ _,fun j _ _ h=>by omega⟩
 case round=>
  obtain⟨k,rfl,hk,hB,HE⟩:=hrel
  by_cases zN:k<l.length
  ·have vg:(k:Int)<(l.length:Int):=by omega
   have xy:k<l2.length:=by have:=HN.out;omega
   obtain⟨b,off,rfl,hb,hc⟩:=(h.below hB) k zN
   obtain⟨b2,vK,rfl,zZ,nT⟩:=(h2.below hB) k xy
   obtain⟨x0,x1⟩:=hc k zN
   obtain⟨y0,y1⟩:=nT k xy
   have HI:Hid (l[k]=l2[k]∨¬l[k]=l2[k]):=Classical.em _
   have Zw:Hid (l[k]=l2[k]→∀j (h1:j<l.length) (h2:j<l2.length),j<k+1→l[j]=l2[j]):=fun e j h1 h2 hj=>by
    rcases Nat.lt_or_ge j k with q|q
    ·exact HE.out j h1 h2 q
    ·have:j=k:=by omega
     subst this;exact e
   have pP:Hid (¬l[k]=l2[k]→¬l=l2):=fun e q=>e (by subst q;rfl)
   have HS:Hid (∀(_:l[k]=l2[k]),fV ⟨l[k].name,l[k].id⟩ ⟨l2[k].name,l2[k].id⟩=true):=fun e=>(pO (x:=l[k]) (y:=l2[k])).2 e
   have HT:Hid (∀(_: ¬l[k]=l2[k]),fV ⟨l[k].name,l[k].id⟩ ⟨l2[k].name,l2[k].id⟩=false):=fun e=>eT (pO (x:=l[k]) (y:=l2[k])) e
   have cG:=fun op a b w=>run_eqGuard_agg (P:=Tryz.prog) w op 65 a b #[.string l[k].name,.int .i64 l[k].id] #[.string l2[k].name,.int .i64 l2[k].id] (by kernel_rfl)
   have hq:=GL l[k].name l2[k].name l[k].id l2[k].id
   clear hc nT h h2
   go_wp2_with fail
   have xF:=(Below.refl wr.heap.size wr).drew
   have nf:=bt hB xF
   have tw:( (wr.drew.cell? ⟨b,off+k*2,none⟩=some (.string l[k].name)∧wr.drew.cell? ⟨b,off+k*2+1,none⟩=some (.int .i64 l[k].id))∧(wr.drew.cell? ⟨b2,vK+k*2,none⟩=some (.string l2[k].name)∧wr.drew.cell? ⟨b2,vK+k*2+1,none⟩=some (.int .i64 l2[k].id))):=⟨⟨x0,x1⟩,⟨y0,y1⟩⟩
   refine zS (fun W=>(W.cell? ⟨b,off+k*2,none⟩=some (.string l[k].name)∧W.cell? ⟨b,off+k*2+1,none⟩=some (.int .i64 l[k].id))∧(W.cell? ⟨b2,vK+k*2,none⟩=some (.string l2[k].name)∧W.cell? ⟨b2,vK+k*2+1,none⟩=some (.int .i64 l2[k].id))) (fun _=>false) (by kernel_rfl) tw (fun hS=>?_)
   generalize wr.drew=W0 at *
   clear tw xF hB x0 x1 y0 y1
   refine zAA 0 ?_ rfl ?_ ?_;rotate_left
   ·intro w zD;obtain⟨⟨z0,z1⟩,⟨u0,u1⟩⟩:=zD;go_simp;rfl
   try simp only[tn]
   refine zAA 1 ?_ rfl ?_ ?_;rotate_left
   ·intro w zD;obtain⟨⟨z0,z1⟩,⟨u0,u1⟩⟩:=zD;go_simp;rfl
   try simp only[tn]
   refine zAA 2 ?_ rfl ?_ ?_;rotate_left
   ·intro w zD;obtain⟨⟨z0,z1⟩,⟨u0,u1⟩⟩:=zD;go_simp;rfl
   try simp only[tn]
   refine zAA 3 ?_ rfl ?_ ?_;rotate_left
   ·intro w zD;obtain⟨⟨z0,z1⟩,⟨u0,u1⟩⟩:=zD;go_simp;rfl
   try simp only[tn]
   refine zAA 4 ?_ rfl ?_ ?_;rotate_left
   ·intro w zD;obtain⟨⟨z0,z1⟩,⟨u0,u1⟩⟩:=zD;go_simp;rfl
   try simp only[tn]
   refine zAA 5 ?_ rfl ?_ ?_;rotate_left
   ·intro w zD;obtain⟨⟨z0,z1⟩,⟨u0,u1⟩⟩:=zD;go_simp;rfl
   try simp only[tn]
   refine zAA 6 ?_ rfl ?_ ?_;rotate_left
   ·intro w zD;obtain⟨⟨z0,z1⟩,⟨u0,u1⟩⟩:=zD;go_simp;rfl
   try simp only[tn]
   refine zAA 7 ?_ rfl ?_ ?_;rotate_left
   ·intro w zD;obtain⟨⟨z0,z1⟩,⟨u0,u1⟩⟩:=zD;go_simp;rfl
   try simp only[tn]
   refine zAA 8 ?_ rfl ?_ ?_;rotate_left
   ·intro w zD;obtain⟨⟨z0,z1⟩,⟨u0,u1⟩⟩:=zD;go_simp;rfl
   try simp only[tn]
   refine zAE ?_
   clear hS
   rcases HI.out with he|he
   ·have hs:=HS.out he
    rw[hs]
    have HX:Hid (∀j (h1:j<l.length) (h2:j<l2.length),j<k+1→l[j]=l2[j]):=Zw.out he
    clear HE Zw pP HS HT HI he hs
    go_wp2
    go_roundw
    case rel=>exact⟨k+1,by go_num,by omega,nf,HX⟩
    case measure=>simp[intOf];omega
   ·have hs:=HT.out he
    rw[hs]
    have HX:Hid (¬l=l2):=pP.out he
    clear HE Zw pP HS HT HI he hs
    go_wp2
    go_ret
    exact⟨false,rfl,⟨fun e=>(by cases e),fun e=>absurd e HX.out⟩,nf⟩
  ·have xl:k=l.length:=by omega
   have HX:Hid (l=l2):=List.ext_getElem HN.out (fun j h1 h2=>HE.out j h1 h2 (by omega))
   clear HE
   subst xl
   go_wp2
   go_ret
   exact⟨true,rfl,⟨fun _=>HX.out,fun _=>rfl⟩,hB⟩
theorem bd(a:Option Addr)(c:Nat)(l:List Rf)(a2:Option Addr)(c2:Nat)(l2:List Rf)(w:World)(h:yU w a l)(h2:yU w a2 l2)(hl:l.length≤9223372036854775807):
  Calls Tryz.prog 103 #[.slice a l.length c,.slice a2 l2.length c2] w fun e w'=>∃r,e= .returned (.bool r)∧(r=true↔l=l2)∧Below w.heap.size w w':=by
 by_cases hn:l.length=l2.length
 case neg=>
  have zn:((l.length:Int) != (l2.length:Int))=true:=by simpa using(by omega: ¬((l.length:Int)=(l2.length:Int)))
  have HN:Hid (¬l=l2):=fun e=>hn (by rw[e])
  clear hn
  go_enter Tryz.func103,Tryz.ntmps103
  go_wp2
  go_ret
  exact⟨false,rfl,⟨fun e=>(by cases e),fun e=>absurd e HN.out⟩,Below.refl _ _⟩
 rw[←hn]
 have HN:Hid (l.length=l2.length):=hn
 clear hn
 go_enter Tryz.func103,Tryz.ntmps103
 go_wp2
 go_loopw [13] (fun i wr=>∃k:Nat,i= .int .i64 k∧k≤l.length∧Below w.heap.size w wr∧Hid (∀j (h1:j<l.length) (h2:j<l2.length),j<k→l[j]=l2[j])) (fun i _=>l.length-(intOf i).toNat)
 case atStart=>exact⟨0,rfl,Nat.zero_le _,Below.refl _ _,fun j _ _ h=>by omega⟩
 case round=>
  obtain⟨k,rfl,hk,hB,HE⟩:=hrel
  by_cases zN:k<l.length
  ·have vg:(k:Int)<(l.length:Int):=by omega
   have xy:k<l2.length:=by have:=HN.out;omega
   obtain⟨b,off,rfl,hb,hc⟩:=(h.below hB) k zN
   obtain⟨b2,vK,rfl,zZ,nT⟩:=(h2.below hB) k xy
   obtain⟨x0,x1⟩:=hc k zN
   obtain⟨y0,y1⟩:=nT k xy
   have HI:Hid (l[k]=l2[k]∨¬l[k]=l2[k]):=Classical.em _
   have Zw:Hid (l[k]=l2[k]→∀j (h1:j<l.length) (h2:j<l2.length),j<k+1→l[j]=l2[j]):=fun e j h1 h2 hj=>by
    rcases Nat.lt_or_ge j k with q|q
    ·exact HE.out j h1 h2 q
    ·have:j=k:=by omega
     subst this;exact e
   have pP:Hid (¬l[k]=l2[k]→¬l=l2):=fun e q=>e (by subst q;rfl)
   have HS:Hid (∀(_:l[k]=l2[k]),fV ⟨l[k].name,l[k].id⟩ ⟨l2[k].name,l2[k].id⟩=true):=fun e=>(pO (x:=l[k]) (y:=l2[k])).2 e
   have HT:Hid (∀(_: ¬l[k]=l2[k]),fV ⟨l[k].name,l[k].id⟩ ⟨l2[k].name,l2[k].id⟩=false):=fun e=>eT (pO (x:=l[k]) (y:=l2[k])) e
   have cG:=fun op a b w=>run_eqGuard_agg (P:=Tryz.prog) w op 65 a b #[.string l[k].name,.int .i64 l[k].id] #[.string l2[k].name,.int .i64 l2[k].id] (by kernel_rfl)
   have hq:=GL l[k].name l2[k].name l[k].id l2[k].id
   clear hc nT h h2
   go_wp2_with fail
   have xF:=(Below.refl wr.heap.size wr).drew
   have nf:=bt hB xF
   have tw:( (wr.drew.cell? ⟨b,off+k*2,none⟩=some (.string l[k].name)∧wr.drew.cell? ⟨b,off+k*2+1,none⟩=some (.int .i64 l[k].id))∧(wr.drew.cell? ⟨b2,vK+k*2,none⟩=some (.string l2[k].name)∧wr.drew.cell? ⟨b2,vK+k*2+1,none⟩=some (.int .i64 l2[k].id))):=⟨⟨x0,x1⟩,⟨y0,y1⟩⟩
   refine zS (fun W=>(W.cell? ⟨b,off+k*2,none⟩=some (.string l[k].name)∧W.cell? ⟨b,off+k*2+1,none⟩=some (.int .i64 l[k].id))∧(W.cell? ⟨b2,vK+k*2,none⟩=some (.string l2[k].name)∧W.cell? ⟨b2,vK+k*2+1,none⟩=some (.int .i64 l2[k].id))) (fun _=>false) (by kernel_rfl) tw (fun hS=>?_)
   generalize wr.drew=W0 at *
   clear tw xF hB x0 x1 y0 y1
   refine zAA 0 ?_ rfl ?_ ?_;rotate_left
   ·intro w zD;obtain⟨⟨z0,z1⟩,⟨u0,u1⟩⟩:=zD;go_simp;rfl
   try simp only[tn]
   refine zAA 1 ?_ rfl ?_ ?_;rotate_left
   ·intro w zD;obtain⟨⟨z0,z1⟩,⟨u0,u1⟩⟩:=zD;go_simp;rfl
   try simp only[tn]
   refine zAA 2 ?_ rfl ?_ ?_;rotate_left
   ·intro w zD;obtain⟨⟨z0,z1⟩,⟨u0,u1⟩⟩:=zD;go_simp;rfl
   try simp only[tn]
   refine zAA 3 ?_ rfl ?_ ?_;rotate_left
   ·intro w zD;obtain⟨⟨z0,z1⟩,⟨u0,u1⟩⟩:=zD;go_simp;rfl
   try simp only[tn]
   refine zAA 4 ?_ rfl ?_ ?_;rotate_left
   ·intro w zD;obtain⟨⟨z0,z1⟩,⟨u0,u1⟩⟩:=zD;go_simp;rfl
   try simp only[tn]
   refine zAA 5 ?_ rfl ?_ ?_;rotate_left
   ·intro w zD;obtain⟨⟨z0,z1⟩,⟨u0,u1⟩⟩:=zD;go_simp;rfl
   try simp only[tn]
   refine zAA 6 ?_ rfl ?_ ?_;rotate_left
   ·intro w zD;obtain⟨⟨z0,z1⟩,⟨u0,u1⟩⟩:=zD;go_simp;rfl
   try simp only[tn]
   refine zAA 7 ?_ rfl ?_ ?_;rotate_left
   ·intro w zD;obtain⟨⟨z0,z1⟩,⟨u0,u1⟩⟩:=zD;go_simp;rfl
   try simp only[tn]
   refine zAA 8 ?_ rfl ?_ ?_;rotate_left
   ·intro w zD;obtain⟨⟨z0,z1⟩,⟨u0,u1⟩⟩:=zD;go_simp;rfl
   try simp only[tn]
   refine zAE ?_
   clear hS
   rcases HI.out with he|he
   ·have hs:=HS.out he
    rw[hs]
    have HX:Hid (∀j (h1:j<l.length) (h2:j<l2.length),j<k+1→l[j]=l2[j]):=Zw.out he
    clear HE Zw pP HS HT HI he hs
    go_wp2
    go_roundw
    case rel=>exact⟨k+1,by go_num,by omega,nf,HX⟩
    case measure=>simp[intOf];omega
   ·have hs:=HT.out he
    rw[hs]
    have HX:Hid (¬l=l2):=pP.out he
    clear HE Zw pP HS HT HI he hs
    go_wp2
    go_ret
    exact⟨false,rfl,⟨fun e=>(by cases e),fun e=>absurd e HX.out⟩,nf⟩
  ·have xl:k=l.length:=by omega
   have HX:Hid (l=l2):=List.ext_getElem HN.out (fun j h1 h2=>HE.out j h1 h2 (by omega))
   clear HE
   subst xl
   go_wp2
   go_ret
   exact⟨true,rfl,⟨fun _=>HX.out,fun _=>rfl⟩,hB⟩
theorem Xd(a:Option Addr)(c:Nat)(l:List Up)(a2:Option Addr)(c2:Nat)(l2:List Up)(w:World)(h:zx w a l)(h2:zx w a2 l2)(hl:l.length≤9223372036854775807):
  Calls Tryz.prog 63 #[.slice a l.length c,.slice a2 l2.length c2] w fun e w'=>∃r,e= .returned (.bool r)∧(r=true↔l=l2)∧Below w.heap.size w w':=by
 by_cases hn:l.length=l2.length
 case neg=>
  have zn:((l.length:Int) != (l2.length:Int))=true:=by simpa using(by omega: ¬((l.length:Int)=(l2.length:Int)))
  have HN:Hid (¬l=l2):=fun e=>hn (by rw[e])
  clear hn
  go_enter Tryz.func63,Tryz.ntmps63
  go_wp2
  go_ret
  exact⟨false,rfl,⟨fun e=>(by cases e),fun e=>absurd e HN.out⟩,Below.refl _ _⟩
 rw[←hn]
 have HN:Hid (l.length=l2.length):=hn
 clear hn
 go_enter Tryz.func63,Tryz.ntmps63
 go_wp2
 go_loopw [5] (fun i wr=>∃k:Nat,i= .int .i64 k∧k≤l.length∧Below w.heap.size w wr∧Hid (∀j (h1:j<l.length) (h2:j<l2.length),j<k→l[j]=l2[j])) (fun i _=>l.length-(intOf i).toNat)
 case atStart=>exact⟨0,rfl,Nat.zero_le _,Below.refl _ _,fun j _ _ h=>by omega⟩
 case round=>
  obtain⟨k,rfl,hk,hB,HE⟩:=hrel
  by_cases zN:k<l.length
  ·have vg:(k:Int)<(l.length:Int):=by omega
   have xy:k<l2.length:=by have:=HN.out;omega
   obtain⟨b,off,rfl,hb,hc⟩:=(h.below hB) k zN
   obtain⟨b2,vK,rfl,zZ,nT⟩:=(h2.below hB) k xy
   obtain⟨x0,x1,x2⟩:=hc k zN
   obtain⟨y0,y1,y2⟩:=nT k xy
   have HI:Hid (l[k]=l2[k]∨¬l[k]=l2[k]):=Classical.em _
   have Zw:Hid (l[k]=l2[k]→∀j (h1:j<l.length) (h2:j<l2.length),j<k+1→l[j]=l2[j]):=fun e j h1 h2 hj=>by
    rcases Nat.lt_or_ge j k with q|q
    ·exact HE.out j h1 h2 q
    ·have:j=k:=by omega
     subst this;exact e
   have pP:Hid (¬l[k]=l2[k]→¬l=l2):=fun e q=>e (by subst q;rfl)
   have HS:Hid (∀(_:l[k]=l2[k]),dj ⟨l[k].name,l[k].old,l[k].new⟩ ⟨l2[k].name,l2[k].old,l2[k].new⟩=true):=fun e=>(bF (x:=l[k]) (y:=l2[k])).2 e
   have HT:Hid (∀(_: ¬l[k]=l2[k]),dj ⟨l[k].name,l[k].old,l[k].new⟩ ⟨l2[k].name,l2[k].old,l2[k].new⟩=false):=fun e=>eT (bF (x:=l[k]) (y:=l2[k])) e
   have cG:=fun op a b w=>run_eqGuard_agg (P:=Tryz.prog) w op 40 a b #[.string l[k].name,.int .i64 l[k].old,.int .i64 l[k].new] #[.string l2[k].name,.int .i64 l2[k].old,.int .i64 l2[k].new] (by kernel_rfl)
   have hq:=zAT l[k].name l2[k].name l[k].old l2[k].old l[k].new l2[k].new
   clear hc nT h h2
   go_wp2_with fail
   have xF:=(Below.refl wr.heap.size wr).drew
   have nf:=bt hB xF
   have tw:( (wr.drew.cell? ⟨b,off+k*3,none⟩=some (.string l[k].name)∧wr.drew.cell? ⟨b,off+k*3+1,none⟩=some (.int .i64 l[k].old)∧wr.drew.cell? ⟨b,off+k*3+2,none⟩=some (.int .i64 l[k].new))∧(wr.drew.cell? ⟨b2,vK+k*3,none⟩=some (.string l2[k].name)∧wr.drew.cell? ⟨b2,vK+k*3+1,none⟩=some (.int .i64 l2[k].old)∧wr.drew.cell? ⟨b2,vK+k*3+2,none⟩=some (.int .i64 l2[k].new))):=⟨⟨x0,x1,x2⟩,⟨y0,y1,y2⟩⟩
   refine zS (fun W=>(W.cell? ⟨b,off+k*3,none⟩=some (.string l[k].name)∧W.cell? ⟨b,off+k*3+1,none⟩=some (.int .i64 l[k].old)∧W.cell? ⟨b,off+k*3+2,none⟩=some (.int .i64 l[k].new))∧(W.cell? ⟨b2,vK+k*3,none⟩=some (.string l2[k].name)∧W.cell? ⟨b2,vK+k*3+1,none⟩=some (.int .i64 l2[k].old)∧W.cell? ⟨b2,vK+k*3+2,none⟩=some (.int .i64 l2[k].new))) (fun _=>false) (by kernel_rfl) tw (fun hS=>?_)
   generalize wr.drew=W0 at *
   clear tw xF hB x0 x1 x2 y0 y1 y2
   refine zAA 0 ?_ rfl ?_ ?_;rotate_left
   ·intro w zD;obtain⟨⟨z0,z1,z2⟩,⟨u0,u1,u2⟩⟩:=zD;go_simp;rfl
   try simp only[tn]
   refine zAA 1 ?_ rfl ?_ ?_;rotate_left
   ·intro w zD;obtain⟨⟨z0,z1,z2⟩,⟨u0,u1,u2⟩⟩:=zD;go_simp;rfl
   try simp only[tn]
   refine zAA 2 ?_ rfl ?_ ?_;rotate_left
   ·intro w zD;obtain⟨⟨z0,z1,z2⟩,⟨u0,u1,u2⟩⟩:=zD;go_simp;rfl
   try simp only[tn]
   refine zAA 3 ?_ rfl ?_ ?_;rotate_left
   ·intro w zD;obtain⟨⟨z0,z1,z2⟩,⟨u0,u1,u2⟩⟩:=zD;go_simp;rfl
   try simp only[tn]
   refine zAA 4 ?_ rfl ?_ ?_;rotate_left
   ·intro w zD;obtain⟨⟨z0,z1,z2⟩,⟨u0,u1,u2⟩⟩:=zD;go_simp;rfl
   try simp only[tn]
   refine zAA 5 ?_ rfl ?_ ?_;rotate_left
   ·intro w zD;obtain⟨⟨z0,z1,z2⟩,⟨u0,u1,u2⟩⟩:=zD;go_simp;rfl
   try simp only[tn]
   refine zAA 6 ?_ rfl ?_ ?_;rotate_left
   ·intro w zD;obtain⟨⟨z0,z1,z2⟩,⟨u0,u1,u2⟩⟩:=zD;go_simp;rfl
   try simp only[tn]
   refine zAA 7 ?_ rfl ?_ ?_;rotate_left
   ·intro w zD;obtain⟨⟨z0,z1,z2⟩,⟨u0,u1,u2⟩⟩:=zD;go_simp;rfl
   try simp only[tn]
   refine zAA 8 ?_ rfl ?_ ?_;rotate_left
   ·intro w zD;obtain⟨⟨z0,z1,z2⟩,⟨u0,u1,u2⟩⟩:=zD;go_simp;rfl
   try simp only[tn]
   refine zAE ?_
   clear hS
   rcases HI.out with he|he
   ·have hs:=HS.out he
    rw[hs]
    have HX:Hid (∀j (h1:j<l.length) (h2:j<l2.length),j<k+1→l[j]=l2[j]):=Zw.out he
    clear HE Zw pP HS HT HI he hs
    go_wp2
    go_roundw
    case rel=>exact⟨k+1,by go_num,by omega,nf,HX⟩
    case measure=>simp[intOf];omega
   ·have hs:=HT.out he
    rw[hs]
    have HX:Hid (¬l=l2):=pP.out he
    clear HE Zw pP HS HT HI he hs
    go_wp2
    go_ret
    exact⟨false,rfl,⟨fun e=>(by cases e),fun e=>absurd e HX.out⟩,nf⟩
  ·have xl:k=l.length:=by omega
   have HX:Hid (l=l2):=List.ext_getElem HN.out (fun j h1 h2=>HE.out j h1 h2 (by omega))
   clear HE
   subst xl
   go_wp2
   go_ret
   exact⟨true,rfl,⟨fun _=>HX.out,fun _=>rfl⟩,hB⟩
theorem ZU{x y:Ob}:xi x.id x.kind x.links x.text y.id y.kind y.links y.text=true↔x=y:=by
 unfold xi nK
 constructor
 ·intro h
  simp only[Bool.and_eq_true,decide_eq_true_eq]at h
  obtain⟨⟨⟨h1,h2⟩,h3⟩,h4⟩:=h
  cases x;cases y
  simp only[Ob.mk.injEq]
  exact⟨h1,h2,h4,ByteArray.ext (Array.toList_inj.1 (by simpa[ByteArray.toList_eq]using h3))⟩
 ·rintro rfl;simp
theorem mp(a:Option Addr)(c:Nat)(l:List Ob)(a2:Option Addr)(c2:Nat)(l2:List Ob)(w:World)(h:zP w a l)(h2:zP w a2 l2)(hl:l.length≤9223372036854775807):
  Calls Tryz.prog 34 #[.slice a l.length c,.slice a2 l2.length c2] w fun e w'=>∃r,e= .returned (.bool r)∧(r=true↔l=l2)∧Below w.heap.size w w':=by
 by_cases hn:l.length=l2.length
 case neg=>
  have zn:((l.length:Int) != (l2.length:Int))=true:=by simpa using(by omega: ¬((l.length:Int)=(l2.length:Int)))
  have HN:Hid (¬l=l2):=fun e=>hn (by rw[e])
  clear hn
  go_enter Tryz.func34,Tryz.ntmps34
  go_wp2
  go_ret
  exact⟨false,rfl,⟨fun e=>(by cases e),fun e=>absurd e HN.out⟩,Below.refl _ _⟩
 rw[←hn]
 have HN:Hid (l.length=l2.length):=hn
 clear hn
 go_enter Tryz.func34,Tryz.ntmps34
 go_wp2
 go_loopw [5] (fun i wr=>∃k:Nat,i= .int .i64 k∧k≤l.length∧Below w.heap.size w wr∧Hid (∀j (h1:j<l.length) (h2:j<l2.length),j<k→l[j]=l2[j])) (fun i _=>l.length-(intOf i).toNat)
 case atStart=>exact⟨0,rfl,Nat.zero_le _,Below.refl _ _,fun j _ _ h=>by omega⟩
 case round=>
  obtain⟨k,rfl,hk,hB,HE⟩:=hrel
  by_cases zN:k<l.length
  ·have vg:(k:Int)<(l.length:Int):=by omega
   have xy:k<l2.length:=by have:=HN.out;omega
   obtain⟨b,off,rfl,hb,hc⟩:=(h.below hB) k zN
   obtain⟨b2,vK,rfl,zZ,nT⟩:=(h2.below hB) k xy
   obtain⟨sa,sc,x0,x1,x2,x3,x4,x5⟩:=hc k zN
   obtain⟨ta,tc,y0,y1,y2,y3,y4,y5⟩:=nT k xy
   have HI:Hid (l[k]=l2[k]∨¬l[k]=l2[k]):=Classical.em _
   have Zw:Hid (l[k]=l2[k]→∀j (h1:j<l.length) (h2:j<l2.length),j<k+1→l[j]=l2[j]):=fun e j h1 h2 hj=>by
    rcases Nat.lt_or_ge j k with q|q
    ·exact HE.out j h1 h2 q
    ·have:j=k:=by omega
     subst this;exact e
   have pP:Hid (¬l[k]=l2[k]→¬l=l2):=fun e q=>e (by subst q;rfl)
   have HS:Hid (∀(_:l[k]=l2[k]),xi l[k].id l[k].kind l[k].links l[k].text l2[k].id l2[k].kind l2[k].links l2[k].text=true):=fun e=>ZU.2 e
   have HT:Hid (∀(_: ¬l[k]=l2[k]),xi l[k].id l[k].kind l[k].links l[k].text l2[k].id l2[k].kind l2[k].links l2[k].text=false):=fun e=>eT ZU e
   clear hc nT h h2
   go_wp2_with fail
   have xF:=(Below.refl wr.heap.size wr).drew
   have nf:=bt hB xF
   have dw:b<wr.drew.heap.size:=hb
   have K5:b2<wr.drew.heap.size:=zZ
   have tw:(wr.drew.cell? ⟨b,off+k*4,none⟩=some (.int .i64 l[k].id)∧wr.drew.cell? ⟨b,off+k*4+1,none⟩=some (.int .i64 l[k].kind)∧wr.drew.cell? ⟨b,off+k*4+2,none⟩=some (.slice sa l[k].links.length sc)∧wr.drew.cell? ⟨b,off+k*4+3,none⟩=some (.string l[k].text))∧(wr.drew.cell? ⟨b2,vK+k*4,none⟩=some (.int .i64 l2[k].id)∧wr.drew.cell? ⟨b2,vK+k*4+1,none⟩=some (.int .i64 l2[k].kind)∧wr.drew.cell? ⟨b2,vK+k*4+2,none⟩=some (.slice ta l2[k].links.length tc)∧wr.drew.cell? ⟨b2,vK+k*4+3,none⟩=some (.string l2[k].text)):=⟨⟨x0,x1,x2,x3⟩,⟨y0,y1,y2,y3⟩⟩
   have Jt:=ry l[k].id l[k].kind sa sc l[k].links l[k].text l2[k].id l2[k].kind ta tc l2[k].links l2[k].text _ (x4.below xF) (y4.below xF) x5
   refine zS (fun W=>(W.cell? ⟨b,off+k*4,none⟩=some (.int .i64 l[k].id)∧W.cell? ⟨b,off+k*4+1,none⟩=some (.int .i64 l[k].kind)∧W.cell? ⟨b,off+k*4+2,none⟩=some (.slice sa l[k].links.length sc)∧W.cell? ⟨b,off+k*4+3,none⟩=some (.string l[k].text))∧(W.cell? ⟨b2,vK+k*4,none⟩=some (.int .i64 l2[k].id)∧W.cell? ⟨b2,vK+k*4+1,none⟩=some (.int .i64 l2[k].kind)∧W.cell? ⟨b2,vK+k*4+2,none⟩=some (.slice ta l2[k].links.length tc)∧W.cell? ⟨b2,vK+k*4+3,none⟩=some (.string l2[k].text))) (fun _=>false) (by kernel_rfl) tw (fun hS=>?_)
   generalize wr.drew=W0 at *
   clear tw xF hB x0 x1 x2 x3 x4 y0 y1 y2 y3 y4
   refine zAA 0 ?_ rfl ?_ ?_;rotate_left
   ·intro w zD;obtain⟨⟨z0,z1,z2,z3⟩,⟨u0,u1,u2,u3⟩⟩:=zD;go_simp;rfl
   try simp only[tn]
   refine zAA 1 ?_ rfl ?_ ?_;rotate_left
   ·intro w zD;obtain⟨⟨z0,z1,z2,z3⟩,⟨u0,u1,u2,u3⟩⟩:=zD;go_simp;rfl
   try simp only[tn]
   refine zAA 2 ?_ rfl ?_ ?_;rotate_left
   ·intro w zD;obtain⟨⟨z0,z1,z2,z3⟩,⟨u0,u1,u2,u3⟩⟩:=zD;go_simp;rfl
   try simp only[tn]
   refine zAA 3 ?_ rfl ?_ ?_;rotate_left
   ·intro w zD;obtain⟨⟨z0,z1,z2,z3⟩,⟨u0,u1,u2,u3⟩⟩:=zD;go_simp;rfl
   try simp only[tn]
   refine zAA 4 ?_ rfl ?_ ?_;rotate_left
   ·intro w zD;obtain⟨⟨z0,z1,z2,z3⟩,⟨u0,u1,u2,u3⟩⟩:=zD;go_simp;rfl
   try simp only[tn]
   refine zAA 5 ?_ rfl ?_ ?_;rotate_left
   ·intro w zD;obtain⟨⟨z0,z1,z2,z3⟩,⟨u0,u1,u2,u3⟩⟩:=zD;go_simp;rfl
   try simp only[tn]
   refine zAA 6 ?_ rfl ?_ ?_;rotate_left
   ·intro w zD;obtain⟨⟨z0,z1,z2,z3⟩,⟨u0,u1,u2,u3⟩⟩:=zD;go_simp;rfl
   try simp only[tn]
   refine zAA 7 ?_ rfl ?_ ?_;rotate_left
   ·intro w zD;obtain⟨⟨z0,z1,z2,z3⟩,⟨u0,u1,u2,u3⟩⟩:=zD;go_simp;rfl
   try simp only[tn]
   refine zAC 8 rfl fun K hK=>?_
   go_simp
   refine Jt.mono ?_
   clear Jt
   rintro e W1 ⟨rfl,zM⟩
   have zT:=bt nf zM
   have ue:(W1.cell? ⟨b,off+k*4,none⟩=some (.int .i64 l[k].id)∧W1.cell? ⟨b,off+k*4+1,none⟩=some (.int .i64 l[k].kind)∧W1.cell? ⟨b,off+k*4+2,none⟩=some (.slice sa l[k].links.length sc)∧W1.cell? ⟨b,off+k*4+3,none⟩=some (.string l[k].text))∧(W1.cell? ⟨b2,vK+k*4,none⟩=some (.int .i64 l2[k].id)∧W1.cell? ⟨b2,vK+k*4+1,none⟩=some (.int .i64 l2[k].kind)∧W1.cell? ⟨b2,vK+k*4+2,none⟩=some (.slice ta l2[k].links.length tc)∧W1.cell? ⟨b2,vK+k*4+3,none⟩=some (.string l2[k].text)):=by
    obtain⟨⟨z0,z1,z2,z3⟩,⟨u0,u1,u2,u3⟩⟩:=hS
    exact⟨⟨(zM.cell (p:=⟨b,off+k*4,none⟩) dw).trans z0,(zM.cell (p:=⟨b,off+k*4+1,none⟩) dw).trans z1,(zM.cell (p:=⟨b,off+k*4+2,none⟩) dw).trans z2,(zM.cell (p:=⟨b,off+k*4+3,none⟩) dw).trans z3⟩,⟨(zM.cell (p:=⟨b2,vK+k*4,none⟩) K5).trans u0,(zM.cell (p:=⟨b2,vK+k*4+1,none⟩) K5).trans u1,(zM.cell (p:=⟨b2,vK+k*4+2,none⟩) K5).trans u2,(zM.cell (p:=⟨b2,vK+k*4+3,none⟩) K5).trans u3⟩⟩
   go_simp
   refine hK _ _ (fun _=>ue) ?_
   clear hK K nf zM
   try simp only[tn]
   refine zAC 9 rfl fun K hK=>?_
   go_simp
   refine hK _ _ (fun _=>ue) ?_
   clear hK K
   try simp only[tn]
   refine zAE ?_
   clear hS ue
   rcases HI.out with he|he
   ·have hs:=HS.out he
    rw[hs]
    have HX:Hid (∀j (h1:j<l.length) (h2:j<l2.length),j<k+1→l[j]=l2[j]):=Zw.out he
    clear HE Zw pP HS HT HI he hs
    go_wp2
    go_roundw
    case rel=>exact⟨k+1,by go_num,by omega,zT,HX⟩
    case measure=>simp[intOf];omega
   ·have hs:=HT.out he
    rw[hs]
    have HX:Hid (¬l=l2):=pP.out he
    clear HE Zw pP HS HT HI he hs
    go_wp2
    go_ret
    exact⟨false,rfl,⟨fun e=>(by cases e),fun e=>absurd e HX.out⟩,zT⟩
  ·have xl:k=l.length:=by omega
   have HX:Hid (l=l2):=List.ext_getElem HN.out (fun j h1 h2=>HE.out j h1 h2 (by omega))
   clear HE
   subst xl
   go_wp2
   go_ret
   exact⟨true,rfl,⟨fun _=>HX.out,fun _=>rfl⟩,hB⟩
structure Rp where
 s:List Ob
 l:List Rf
 g:Int
 ph:Int
 m:List Ob
 us:List Up
 f:Bool
theorem jK(a:Option Addr)(c:Nat)(m:List Ob)(b:Option Addr)(d:Nat)(us:List Up)(f:Bool)(a2:Option Addr)(c2:Nat)(m2:List Ob)(b2:Option Addr)(d2:Nat)(us2:List Up)(f2:Bool)(w:World)
  (hm:zP w a m) (hu:zx w b us) (Ga:zP w a2 m2) (Tk:zx w b2 us2) (lm:m.length≤9223372036854775807) (lu:us.length≤9223372036854775807):
  Calls Tryz.prog 56 #[uw a m.length c b us.length d f,uw a2 m2.length c2 b2 us2.length d2 f2] w fun e w'=>∃r,e= .returned (.bool r)∧(r=true↔(m=m2∧us=us2∧f=f2))∧Below w.heap.size w w':=by
 have hB:=zV w (.cells #[.slice a m.length c,.slice b us.length d,.bool f] 28) (.cells #[.slice a2 m2.length c2,.slice b2 us2.length d2,.bool f2] 28)
 obtain⟨xa,xy⟩:=ye w (.cells #[.slice a m.length c,.slice b us.length d,.bool f] 28) (.cells #[.slice a2 m2.length c2,.slice b2 us2.length d2,.bool f2] 28)
 obtain⟨y0,y1,y2⟩:=zQ xa
 obtain⟨z0,z1,z2⟩:=zQ xy
 have BR:=mp a c m a2 c2 m2 _ (hm.below hB) (Ga.below hB) lm
 go_enter Tryz.func56,Tryz.ntmps56
 go_wp2_with fail
 generalize (w.alloc (.cells #[.slice a m.length c,.slice b us.length d,.bool f] 28)).alloc (.cells #[.slice a2 m2.length c2,.slice b2 us2.length d2,.bool f2] 28)=W0 at *
 refine BR.mono ?_
 clear BR
 rintro e W1 ⟨r1,rfl,q1,zM⟩
 have zT:=bt hB zM
 have k1:=zA5 zM xa
 have k2:=zA5 zM xy
 have Q1:Hid (r1=true↔m=m2):=q1
 clear zM hB xa xy y0 y1 y2 z0 z1 z2 q1
 obtain⟨y0,y1,y2⟩:=zQ k1
 obtain⟨z0,z1,z2⟩:=zQ k2
 cases r1 with
 |false=>
  go_wp2
  go_ret
  exact⟨false,rfl,⟨fun e=>(by cases e),fun e=>Q1.out.2 e.1⟩,zT⟩
 |true=>
 have E1:Hid (m=m2):=Q1.out.1 rfl
 clear Q1
 have hsu:=Xd b d us b2 d2 us2 W1 (hu.below zT) (Tk.below zT) lu
 go_wp2_with fail
 refine hsu.mono ?_
 clear hsu
 rintro e W2 ⟨r2,rfl,q2,zZ⟩
 have zj:=bt zT zZ
 have k12:=zA5 zZ k1
 have k22:=zA5 zZ k2
 have Q2:Hid (r2=true↔us=us2):=q2
 clear zZ zT k1 k2 y0 y1 y2 z0 z1 z2 q2
 obtain⟨y0,y1,y2⟩:=zQ k12
 obtain⟨z0,z1,z2⟩:=zQ k22
 cases r2 with
 |false=>
  go_wp2
  go_ret
  exact⟨false,rfl,⟨fun e=>(by cases e),fun e=>Q2.out.2 e.2.1⟩,zj⟩
 |true=>
 have E2:Hid (us=us2):=Q2.out.1 rfl
 clear Q2
 have HS:Hid ((f==f2)=true↔f=f2):=beq_iff_eq
 go_wp2
 go_ret
 exact⟨f==f2,rfl,⟨fun e=>⟨E1.out,E2.out,HS.out.1 e⟩,fun e=>HS.out.2 e.2.2⟩,zj⟩
theorem VU(aS:Option Addr)(cs:Nat)(s:List Ob)(al:Option Addr)(cl:Nat)(l:List Rf)(g ph:Int)(a1:Option Addr)(c1:Nat)(m:List Ob)(a2:Option Addr)(c2:Nat)(us:List Up)(f:Bool)
  (bS:Option Addr) (ds:Nat) (s':List Ob) (bl:Option Addr) (dl:Nat) (l':List Rf) (g' ph':Int) (b1:Option Addr) (d1:Nat) (m':List Ob) (b2:Option Addr) (d2:Nat) (us':List Up) (f':Bool) (w:World)
  (H:sJ w aS s al l a1 m a2 us) (H':sJ w bS s' bl l' b1 m' b2 us'):
  Calls Tryz.prog 14 #[RV aS cs s al cl l g ph a1 c1 m a2 c2 us f,RV bS ds s' bl dl l' g' ph' b1 d1 m' b2 d2 us' f'] w fun e w'=>∃r,e= .returned (.bool r)∧(r=true↔((⟨s,l,g,ph,m,us,f⟩:Rp)=⟨s',l',g',ph',m',us',f'⟩))∧Below w.heap.size w w':=by
 have hB:=zV w (RB aS cs s al cl l g ph a1 c1 m a2 c2 us f) (RB bS ds s' bl dl l' g' ph' b1 d1 m' b2 d2 us' f')
 obtain⟨xa,xy⟩:=ye w (RB aS cs s al cl l g ph a1 c1 m a2 c2 us f) (RB bS ds s' bl dl l' g' ph' b1 d1 m' b2 d2 us' f')
 obtain⟨y0,y1,y2,y3,y4,y5,y6⟩:=zI xa
 obtain⟨z0,z1,z2,z3,z4,z5,z6⟩:=zI xy
 have BR:=mp aS cs s bS ds s' _ (H.hs.below hB) (H'.hs.below hB) H.ns
 have HQ:Hid (((⟨s,l,g,ph,m,us,f⟩:Rp)=⟨s',l',g',ph',m',us',f'⟩)↔(s=s'∧l=l'∧g=g'∧ph=ph'∧m=m'∧us=us'∧f=f')):=by unfold Hid;simp only[Rp.mk.injEq]
 go_enter Tryz.func14,Tryz.ntmps14
 go_wp2_with fail
 generalize (w.alloc (RB aS cs s al cl l g ph a1 c1 m a2 c2 us f)).alloc (RB bS ds s' bl dl l' g' ph' b1 d1 m' b2 d2 us' f')=W0 at *
 refine BR.mono ?_
 clear BR
 rintro e W1 ⟨r1,rfl,q1,zM⟩
 have zT:=bt hB zM
 have k1:=zA5 zM xa
 have k2:=zA5 zM xy
 have Q1:Hid (r1=true↔s=s'):=q1
 clear zM hB xa xy y0 y1 y2 y3 y4 y5 y6 z0 z1 z2 z3 z4 z5 z6 q1
 obtain⟨y0,y1,y2,y3,y4,y5,y6⟩:=zI k1
 obtain⟨z0,z1,z2,z3,z4,z5,z6⟩:=zI k2
 cases r1 with
 |false=>
  go_wp2
  go_ret
  exact⟨false,rfl,⟨fun e=>(by cases e),fun e=>Q1.out.2 (HQ.out.1 e).1⟩,zT⟩
 |true=>
 have E1:Hid (s=s'):=Q1.out.1 rfl
 clear Q1
 have hsr:=Z6 al cl l bl dl l' W1 (H.hl.below zT) (H'.hl.below zT) H.nl
 go_wp2_with fail
 refine hsr.mono ?_
 clear hsr
 rintro e W2 ⟨r2,rfl,q2,zZ⟩
 have zj:=bt zT zZ
 have k12:=zA5 zZ k1
 have k22:=zA5 zZ k2
 have Q2:Hid (r2=true↔l=l'):=q2
 clear zZ zT k1 k2 y0 y1 y2 y3 y4 y5 y6 z0 z1 z2 z3 z4 z5 z6 q2
 obtain⟨y0,y1,y2,y3,y4,y5,y6⟩:=zI k12
 obtain⟨z0,z1,z2,z3,z4,z5,z6⟩:=zI k22
 cases r2 with
 |false=>
  go_wp2
  go_ret
  exact⟨false,rfl,⟨fun e=>(by cases e),fun e=>Q2.out.2 (HQ.out.1 e).2.1⟩,zj⟩
 |true=>
 have E2:Hid (l=l'):=Q2.out.1 rfl
 clear Q2
 by_cases hg:g=g'
 case neg=>
  have zg:(g==g')=false:=by simpa using hg
  have HG:Hid (¬g=g'):=hg
  clear hg
  go_wp2
  go_ret
  exact⟨false,rfl,⟨fun e=>(by cases e),fun e=>absurd (HQ.out.1 e).2.2.1 HG.out⟩,zj⟩
 have zg:(g==g')=true:=by simpa using hg
 have HG:Hid (g=g'):=hg
 clear hg
 by_cases hp:ph=ph'
 case neg=>
  have zp:(ph==ph')=false:=by simpa using hp
  have HP:Hid (¬ph=ph'):=hp
  clear hp
  go_wp2
  go_ret
  exact⟨false,rfl,⟨fun e=>(by cases e),fun e=>absurd (HQ.out.1 e).2.2.2.1 HP.out⟩,zj⟩
 have zp:(ph==ph')=true:=by simpa using hp
 have HP:Hid (ph=ph'):=hp
 clear hp
 have XM:=jK a1 c1 m a2 c2 us f b1 d1 m' b2 d2 us' f' W2 (H.hm.below zj) (H.hu.below zj) (H'.hm.below zj) (H'.hu.below zj) H.nm H.nu
 go_wp2_with fail
 refine XM.mono ?_
 clear XM
 rintro e W3 ⟨r3,rfl,q3,yT⟩
 have xL:=bt zj yT
 have Q3:Hid (r3=true↔(m=m'∧us=us'∧f=f')):=q3
 clear q3 yT
 go_wp2
 go_ret
 exact⟨r3,rfl,⟨fun e=>HQ.out.2 ⟨E1.out,E2.out,HG.out,HP.out,Q3.out.1 e⟩,fun e=>Q3.out.2 (HQ.out.1 e).2.2.2.2⟩,xL⟩
def Rp.err(r:Rp):Int:=xA r.s r.l r.g r.ph r.m r.us r.f
structure Rq where
 r:Rp
 aS:Option Addr
 cs:Nat
 al:Option Addr
 cl:Nat
 a1:Option Addr
 c1:Nat
 a2:Option Addr
 c2:Nat
def Rq.cells(q:Rq):List Value:=[.slice q.aS q.r.s.length q.cs,.slice q.al q.r.l.length q.cl,.int .i64 q.r.g,.int .i64 q.r.ph,.slice q.a1 q.r.m.length q.c1,.slice q.a2 q.r.us.length q.c2,.bool q.r.f]
def Rq.H(w:World)(q:Rq):Prop:=sJ w q.aS q.r.s q.al q.r.l q.a1 q.r.m q.a2 q.r.us
theorem Rq.H.below{w w':World}{q:Rq}(h:q.H w)(hb:Below w.heap.size w w'):q.H w':=sJ.below h hb
structure bY(w:World)(b o:Nat)(q:Rq):Prop where
 x0:w.cell? ⟨b,o,none⟩=some (.slice q.aS q.r.s.length q.cs)
 x1:w.cell? ⟨b,o+1,none⟩=some (.slice q.al q.r.l.length q.cl)
 x2:w.cell? ⟨b,o+2,none⟩=some (.int .i64 q.r.g)
 x3:w.cell? ⟨b,o+3,none⟩=some (.int .i64 q.r.ph)
 x4:w.cell? ⟨b,o+4,none⟩=some (.slice q.a1 q.r.m.length q.c1)
 x5:w.cell? ⟨b,o+5,none⟩=some (.slice q.a2 q.r.us.length q.c2)
 x6:w.cell? ⟨b,o+6,none⟩=some (.bool q.r.f)
theorem bY.block{w w':World}{b o:Nat}{q:Rq}(h:bY w b o q)(e:w'.heap[b]? =w.heap[b]?):bY w' b o q:=
 ⟨(World.cell?_of_block (a:=⟨b,o,none⟩) e).trans h.x0,(World.cell?_of_block (a:=⟨b,o+1,none⟩) e).trans h.x1,(World.cell?_of_block (a:=⟨b,o+2,none⟩) e).trans h.x2,(World.cell?_of_block (a:=⟨b,o+3,none⟩) e).trans h.x3,(World.cell?_of_block (a:=⟨b,o+4,none⟩) e).trans h.x4,(World.cell?_of_block (a:=⟨b,o+5,none⟩) e).trans h.x5,(World.cell?_of_block (a:=⟨b,o+6,none⟩) e).trans h.x6⟩
def zy(w:World)(a:Option Addr)(l:List Rq):Prop:=
 ∀i,i<l.length→∃b off,a=some ⟨b,off,none⟩∧b<w.heap.size∧∀i (h:i<l.length),bY w b (off+i*7) l[i]∧l[i].H w
theorem zy.below{w w':World}{a:Option Addr}{l:List Rq}(h:zy w a l)(hb:Below w.heap.size w w'):zy w' a l:=by
 intro i hi
 obtain⟨b,off,e,zN,hc⟩:=h i hi
 exact⟨b,off,e,Nat.lt_of_lt_of_le zN hb.size,fun j hj=>⟨(hc j hj).1.block (hb.block b zN),(hc j hj).2.below hb⟩⟩
theorem zy.drop{w:World}{a:Option Addr}{l:List Rq}{b off k:Nat}(h:zy w a l)(e:a=some ⟨b,off,none⟩)(hk:k≤l.length):zy w (some ⟨b,off+k*7,none⟩) (l.drop k):=by
 intro i hi
 rw[List.length_drop]at hi
 obtain⟨b',kQ,e',zN,hc⟩:=h (k+i) (by omega)
 rw[e]at e';cases e'
 refine⟨b,off+k*7,rfl,zN,fun j hj=>?_⟩
 rw[List.length_drop]at hj
 have:=hc (k+j) (by omega)
 rw[List.getElem_drop,show off+k*7+j*7=off+(k+j)*7 by omega]
 exact this
def za(gs:List Int):Nat→Nat
 |0=>0
 |k+1=>if gs.getD (za gs k) 0<gs.getD k 0 then k else za gs k
theorem pN(gs:List Int)(k n:Nat)(hn:0<n)(hk:k≤n):za gs k<n:=by
 induction k with
 |zero=>exact hn
 |succ k ih=>unfold za;split;omega;exact ih (by omega)
abbrev yu(l:List Rq):List Int:=l.map (fun q=>q.r.g)
theorem Zu{l:List Rq}{k:Nat}(hk:k<l.length):(yu l).getD k 0=l[k].r.g:=by simp[yu,hk]
theorem ck(a:Option Addr)(c:Nat)(l:List Rq)(w:World)(h:zy w a l)(hl:l.length≤9223372036854775807):
  Calls Tryz.prog 54 #[.slice a l.length c] w fun e w'=>e= .returned (.int .i64 (za (yu l) l.length))∧Below w.heap.size w w':=by
 go_enter Tryz.func54,Tryz.ntmps54
 go_wp2
 go_loopw [3,8] (fun o i wr=>∃k Qp:Nat,i= .int .i64 k∧o= .int .i64 Qp∧k≤l.length∧Hid (Qp=za (yu l) k)∧Below w.heap.size w wr) (fun _ i _=>l.length-(intOf i).toNat)
 case atStart=>exact⟨0,0,rfl,rfl,Nat.zero_le _,rfl,Below.refl _ _⟩
 case round=>
  obtain⟨k,Qp,rfl,rfl,hk,HA,hB⟩:=hrel
  by_cases zN:k<l.length
  ·have vg:(k:Int)<(l.length:Int):=by omega
   have CG:Qp<l.length:=by have:=HA.out;have:=pN (yu l) k l.length (by omega) hk;omega
   have ha1:(Qp:Int)<(l.length:Int):=by omega
   obtain⟨b,off,rfl,hb,hc⟩:=(h.below hB) k zN
   have HG1:Hid ((yu l).getD k 0=l[k].r.g):=Zu zN
   have HG2:Hid ((yu l).getD Qp 0=l[Qp].r.g):=Zu CG
   obtain⟨⟨x0,x1,x2,x3,x4,x5,x6⟩,_⟩:=hc k zN
   have hA:=zB wr (RB l[k].aS l[k].cs l[k].r.s l[k].al l[k].cl l[k].r.l l[k].r.g l[k].r.ph l[k].a1 l[k].c1 l[k].r.m l[k].a2 l[k].c2 l[k].r.us l[k].r.f)
   have si:=heap_alloc_new wr (RB l[k].aS l[k].cs l[k].r.s l[k].al l[k].cl l[k].r.l l[k].r.g l[k].r.ph l[k].a1 l[k].c1 l[k].r.m l[k].a2 l[k].c2 l[k].r.us l[k].r.f)
   have y2:=(hA.cell (p:=⟨b,off+Qp*7+2,none⟩) hb).trans (hc Qp CG).1.x2
   obtain⟨z0,z1,z2,z3,z4,z5,z6⟩:=zI si
   have mq:=bt hB hA
   clear hc si h
   by_cases hq:l[Qp].r.g<l[k].r.g
   ·have HN:Hid (k=za (yu l) (k+1)):=by unfold Hid;rw[za,←HA.out,HG1.out,HG2.out,if_pos hq]
    go_wp2_with fail
    go_region
    go_wp2
    go_roundw
    case rel=>exact⟨k+1,k,by go_num,rfl,by omega,HN,mq.trans ((Below.refl _ _).drew.mono mq.size)⟩
    case measure=>simp[intOf];omega
   ·have HN:Hid (Qp=za (yu l) (k+1)):=by unfold Hid;rw[za,←HA.out,HG1.out,HG2.out,if_neg hq]
    go_wp2_with fail
    go_region
    go_wp2
    go_roundw
    case rel=>exact⟨k+1,Qp,by go_num,rfl,by omega,HN,mq.trans ((Below.refl _ _).drew.mono mq.size)⟩
    case measure=>simp[intOf];omega
  ·have xl:k=l.length:=by omega
   subst xl
   have HN:Hid ((Qp:Int)=(za (yu l) l.length:Nat)):=by unfold Hid;rw[HA.out]
   go_wp2
   go_ret
   exact⟨zE HN.out,hB⟩
def bR(a b:Rp):Prop:=a.g=b.g∧¬a.l=b.l
abbrev Rq.blk(q:Rq):Obj:=RB q.aS q.cs q.r.s q.al q.cl q.r.l q.r.g q.r.ph q.a1 q.c1 q.r.m q.a2 q.c2 q.r.us q.r.f
abbrev Rq.val(q:Rq):Value:=RV q.aS q.cs q.r.s q.al q.cl q.r.l q.r.g q.r.ph q.a1 q.c1 q.r.m q.a2 q.c2 q.r.us q.r.f
theorem XL(q0 q:Rq)(p:Nat)(w:World)(hk:w.heap[p]? =some q0.blk)(h0:q0.H w)(h:q.H w):
  Calls Tryz.prog 102 #[q.val,.pointer (some ⟨p,0,none⟩)] w fun e w'=>∃r,e= .returned (.bool r)∧(r=true↔bR q0.r q.r)∧Below w.heap.size w w':=by
 have hA:=zB w q.blk
 have xy:=heap_alloc_new w q.blk
 have xa:=zA5 hA hk
 obtain⟨y0,y1,y2,y3,y4,y5,y6⟩:=zI xa
 obtain⟨z0,z1,z2,z3,z4,z5,z6⟩:=zI xy
 have heq:=bd q0.al q0.cl q0.r.l q.al q.cl q.r.l _ (h0.hl.below hA) (h.hl.below hA) h0.nl
 by_cases hg:q0.r.g=q.r.g
 case neg=>
  have zg:(q0.r.g==q.r.g)=false:=by simpa using hg
  have HG:Hid (¬q0.r.g=q.r.g):=hg
  clear hg heq
  go_enter Tryz.func102,Tryz.ntmps102
  go_wp2
  go_ret
  exact⟨false,rfl,⟨fun e=>(by cases e),fun e=>absurd e.1 HG.out⟩,hA⟩
 have zg:(q0.r.g==q.r.g)=true:=by simpa using hg
 have HG:Hid (q0.r.g=q.r.g):=hg
 clear hg
 go_enter Tryz.func102,Tryz.ntmps102
 go_wp2_with fail
 refine heq.mono ?_
 clear heq
 rintro e w1 ⟨r,rfl,hr,zM⟩
 have zT:=bt hA zM
 have HR:Hid (r=true↔q0.r.l=q.r.l):=hr
 clear hr zM
 go_wp2
 go_ret
 exact⟨!r,rfl,⟨fun e=>⟨HG.out,fun q=>by rw[HR.out.2 q]at e;cases e⟩,fun e=>by cases hr:r with|false=>rfl|true=>exact absurd (HR.out.1 hr) e.2⟩,zT⟩
theorem YD(q0:Rq)(p:Nat)(a:Option Addr)(c:Nat)(l:List Rq)(w:World)(h:zy w a l)(hl:l.length≤9223372036854775807)(hk:w.heap[p]? =some q0.blk)(h0:q0.H w):
  Calls Tryz.prog 168 #[.slice a l.length c,.func (.func 102) #[] #[.pointer (some ⟨p,0,none⟩)]] w fun e w'=>∃i,e= .returned (.int .i64 i)∧(0≤i↔∃j,∃hj:j<l.length,bR q0.r l[j].r)∧Below w.heap.size w w':=by
 go_enter Tryz.func168,Tryz.ntmps168
 go_wp2
 go_loopw [8] (fun i wr=>∃k:Nat,i= .int .i64 k∧k≤l.length∧Below w.heap.size w wr∧Hid (∀j (hj:j<l.length),j<k→¬bR q0.r l[j].r)) (fun i _=>l.length-(intOf i).toNat)
 case atStart=>exact⟨0,rfl,Nat.zero_le _,Below.refl _ _,fun j _ h=>absurd h (Nat.not_lt_zero j)⟩
 case round=>
  obtain⟨k,rfl,xl,hB,H⟩:=hrel
  by_cases zN:k<l.length
  ·obtain⟨b,off,rfl,hb,hc⟩:=(h.below hB) k zN
   obtain⟨⟨x0,x1,x2,x3,x4,x5,x6⟩,hH⟩:=hc k zN
   have rg:=XL q0 l[k] p wr ((zA5 hB hk)) (h0.below hB) hH
   clear hc
   go_wp2_with fail
   refine rg.mono ?_
   clear rg
   rintro e w1 ⟨r,rfl,hr,zM⟩
   have zT:=bt hB zM
   clear zM x0 x1 x2 x3 x4 x5 x6
   cases r with
   |true=>
    have HR:Hid (∃j,∃hj:j<l.length,bR q0.r l[j].r):=⟨k,zN,hr.1 rfl⟩
    clear hr
    go_wp2
    go_ret
    exact⟨_,rfl,⟨fun _=>HR.out,fun _=>by omega⟩,zT⟩
   |false=>
    have HN:Hid (∀j (hj:j<l.length),j<k+1→¬bR q0.r l[j].r):=fun j hj hjk=>by
     rcases Nat.lt_or_ge j k with h1|h1
     ·exact H.out j hj h1
     ·have:j=k:=by omega
      subst this
      exact fun q=>by cases hr.2 q
    clear hr
    go_wp2
    go_roundw
    case rel=>exact⟨k+1,by go_num,by omega,zT,HN⟩
    case measure=>simp[intOf];omega
  ·have HR:Hid (¬∃j,∃hj:j<l.length,bR q0.r l[j].r):=fun⟨j,hj,q⟩=>H.out j hj (by omega) q
   go_wp2
   go_ret
   exact⟨-1,rfl,⟨fun e=>by omega,fun e=>absurd e HR.out⟩,hB⟩
theorem fx(q0:Rq)(p:Nat)(a:Option Addr)(c:Nat)(l:List Rq)(w:World)(h:zy w a l)(hl:l.length≤9223372036854775807)(hk:w.heap[p]? =some q0.blk)(h0:q0.H w):
  Calls Tryz.prog 101 #[.slice a l.length c,.func (.func 102) #[] #[.pointer (some ⟨p,0,none⟩)]] w fun e w'=>∃r,e= .returned (.bool r)∧(r=true↔∃j,∃hj:j<l.length,bR q0.r l[j].r)∧Below w.heap.size w w':=by
 go_enter Tryz.func101,Tryz.ntmps101
 go_wp2_with fail
 refine(YD q0 p a c l w h hl hk h0).mono ?_
 rintro e w1 ⟨i,rfl,hi,zM⟩
 have HI:Hid (0≤i↔∃j,∃hj:j<l.length,bR q0.r l[j].r):=hi
 clear hi
 go_wp2
 go_ret
 exact⟨_,rfl,by rw[decide_eq_true_eq];exact HI.out,zM⟩
theorem Vy(a:Option Addr)(c:Nat)(l:List Rq)(w:World)(h:zy w a l)(hl:l.length≤1000)(rg:l.length≤c)(qt:c≤9223372036854775807):
  Calls Tryz.prog 53 #[.slice a l.length c] w fun e w'=>∃r,e= .returned (.bool r)∧(r=true↔∃i j,∃hi:i<l.length,∃hj:j<l.length,i<j∧bR l[i].r l[j].r)∧Below w.heap.size w w':=by
 go_enter Tryz.func53,Tryz.ntmps53
 go_wp2
 go_loopw [7] (fun i wr=>∃k:Nat,i= .int .i64 k∧k≤l.length∧Below w.heap.size w wr∧Hid (∀i j (hi:i<l.length) (hj:j<l.length),i<k→i<j→¬bR l[i].r l[j].r)) (fun i _=>l.length-(intOf i).toNat)
 case atStart=>exact⟨0,rfl,Nat.zero_le _,Below.refl _ _,fun i _ _ _ h=>absurd h (Nat.not_lt_zero i)⟩
 case round=>
  obtain⟨k,rfl,xl,hB,H⟩:=hrel
  by_cases zN:k<l.length
  ·obtain⟨b,off,rfl,hb,hc⟩:=(h.below hB) k zN
   obtain⟨⟨x0,x1,x2,x3,x4,x5,x6⟩,hH⟩:=hc k zN
   have hA:=zB wr l[k].blk
   have si:=heap_alloc_new wr l[k].blk
   have mq:=bt hB hA
   have hD:=zy.drop (k:=k+1) (h.below mq) rfl (by omega)
   have Yi: ∀ad cc,zy (wr.alloc l[k].blk) ad (l.drop (k+1))→Calls Tryz.prog 101 #[.slice ad (l.length-(k+1)) cc,.func (.func 102) #[] #[.pointer (some ⟨wr.heap.size,0,none⟩)]] (wr.alloc l[k].blk)
     (fun e w'=>∃r,e= .returned (.bool r)∧(r=true↔∃j,∃hj:j<l.length,k<j∧bR l[k].r l[j].r)∧Below (wr.alloc l[k].blk).heap.size (wr.alloc l[k].blk) w'):=fun ad cc hD=>by
    have q:=fx l[k] wr.heap.size ad cc (l.drop (k+1)) _ hD (by rw[List.length_drop];omega) si (hH.below hA)
    have q2:=q.mono (R':=fun e w'=>∃r,e= .returned (.bool r)∧(r=true↔∃j,∃hj:j<l.length,k<j∧bR l[k].r l[j].r)∧Below (wr.alloc l[k].blk).heap.size (wr.alloc l[k].blk) w') (by
     rintro e w1 ⟨r,he,hr,hb⟩
     refine⟨r,he,hr.trans ⟨?_,?_⟩,hb⟩
     ·rintro⟨j,hj,q⟩
      rw[List.length_drop]at hj
      rw[List.getElem_drop]at q
      exact⟨k+1+j,by omega,by omega,q⟩
     ·rintro⟨j,hj,hkj,q⟩
      refine⟨j-(k+1),by rw[List.length_drop];omega,?_⟩
      rw[List.getElem_drop]
      have e:k+1+(j-(k+1))=j:=by omega
      simpa only[e]using q)
    rw[List.length_drop]at q2
    exact q2
   have hE:c=k+1→zy (wr.alloc l[k].blk) (some ⟨b,off,none⟩) (l.drop (k+1)):=fun e i hi=>by rw[List.length_drop]at hi;omega
   clear hc si
   by_cases nL:c=k+1
   ·have CP:=hE nL
    clear hE hD
    subst nL
    go_wp2_with fail
    have RI:=Yi (some ⟨b,off,none⟩) 0 CP
    rw[show l.length-(k+1)=0 by omega]at RI
    clear Yi CP
    refine RI.mono ?_
    clear RI
    rintro e w1 ⟨r,rfl,hr,zM⟩
    have zT:=bt mq zM
    clear zM x0 x1 x2 x3 x4 x5 x6
    cases r with
    |true=>
     have HR:Hid (∃i j,∃hi:i<l.length,∃hj:j<l.length,i<j∧bR l[i].r l[j].r):=by
      obtain⟨j,hj,h1,h2⟩:=hr.1 rfl
      exact⟨k,j,zN,hj,h1,h2⟩
     clear hr
     go_wp2
     go_ret
     exact⟨true,rfl,⟨fun _=>HR.out,fun _=>rfl⟩,zT⟩
    |false=>
     have HN:Hid (∀i j (hi:i<l.length) (hj:j<l.length),i<k+1→i<j→¬bR l[i].r l[j].r):=fun i j hi hj eB nZ q=>by
      rcases Nat.lt_or_ge i k with h1|h1
      ·exact H.out i j hi hj h1 nZ q
      ·have:i=k:=by omega
       subst this
       cases hr.2 ⟨j,hj,nZ,q⟩
     clear hr
     go_wp2
     go_roundw
     case rel=>exact⟨k+1,by go_num,by omega,zT,HN⟩
     case measure=>simp[intOf];omega
   ·clear hE
    go_wp2_with fail
    have RI:=Yi (some ⟨b,off+(k+1)*7,none⟩) (c-(k+1)) hD
    clear Yi hD
    refine RI.mono ?_
    clear RI
    rintro e w1 ⟨r,rfl,hr,zM⟩
    have zT:=bt mq zM
    clear zM x0 x1 x2 x3 x4 x5 x6
    cases r with
    |true=>
     have HR:Hid (∃i j,∃hi:i<l.length,∃hj:j<l.length,i<j∧bR l[i].r l[j].r):=by
      obtain⟨j,hj,h1,h2⟩:=hr.1 rfl
      exact⟨k,j,zN,hj,h1,h2⟩
     clear hr
     go_wp2
     go_ret
     exact⟨true,rfl,⟨fun _=>HR.out,fun _=>rfl⟩,zT⟩
    |false=>
     have HN:Hid (∀i j (hi:i<l.length) (hj:j<l.length),i<k+1→i<j→¬bR l[i].r l[j].r):=fun i j hi hj eB nZ q=>by
      rcases Nat.lt_or_ge i k with h1|h1
      ·exact H.out i j hi hj h1 nZ q
      ·have:i=k:=by omega
       subst this
       cases hr.2 ⟨j,hj,nZ,q⟩
     clear hr
     go_wp2
     go_roundw
     case rel=>exact⟨k+1,by go_num,by omega,zT,HN⟩
     case measure=>simp[intOf];omega
  ·have HR:Hid (¬∃i j,∃hi:i<l.length,∃hj:j<l.length,i<j∧bR l[i].r l[j].r):=fun⟨i,j,hi,hj,nZ,q⟩=>H.out i j hi hj (by omega) nZ q
   go_wp2
   go_ret
   exact⟨false,rfl,⟨fun e=>(by cases e),fun e=>absurd e HR.out⟩,hB⟩
def xw(d:Nat→Bool):Nat→Nat
 |0=>0
 |k+1=>xw d k+(d k).toNat
theorem WZ(d:Nat→Bool)(k:Nat):xw d k≤k:=by
 induction k with
 |zero=>exact Nat.le_refl _
 |succ k ih=>
  unfold xw;have:(d k).toNat≤1:=by cases d k<;>decide
  omega
theorem ZA(a:Option Addr)(c n:Nat)(p q:Nat)(d:Nat→Bool)(w:World)(hn:n≤1000)
  (rg: ∀i W,i<n→Below w.heap.size w W→Calls Tryz.prog 55 #[.int .i64 i,.pointer (some ⟨p,0,none⟩),.pointer (some ⟨q,0,none⟩)] W (fun e w'=>e= .returned (.bool (d i))∧Below W.heap.size W w')):
  Calls Tryz.prog 49 #[.slice a n c,.func (.func 55) #[] #[.pointer (some ⟨p,0,none⟩),.pointer (some ⟨q,0,none⟩)]] w fun e w'=>e= .returned (.bool (decide (n<2*xw d n)))∧Below w.heap.size w w':=by
 go_enter Tryz.func49,Tryz.ntmps49
 go_wp2
 go_loopw [5,9] (fun o i wr=>∃k m:Nat,i= .int .i64 k∧o= .int .i64 m∧k≤n∧Hid (m=xw d k)∧Below w.heap.size w wr) (fun _ i _=>n-(intOf i).toNat)
 case atStart=>exact⟨0,0,rfl,rfl,Nat.zero_le _,rfl,Below.refl _ _⟩
 case round=>
  obtain⟨k,m,rfl,rfl,hk,HM,hB⟩:=hrel
  have hm:m≤1000:=by have:=HM.out;have:=WZ d k;omega
  by_cases zN:k<n
  ·have hc:=rg k wr zN hB
   go_wp2_with fail
   refine hc.mono ?_
   clear hc
   rintro e w1 ⟨rfl,zM⟩
   have zT:=bt hB zM
   clear zM
   cases hd:d k with
   |true=>
    have HN:Hid (m+1=xw d (k+1)):=by unfold Hid;rw[xw,HM.out,hd];rfl
    clear hd
    go_wp2
    go_roundw
    case rel=>exact⟨k+1,m+1,by go_num,by go_num,by omega,HN,zT⟩
    case measure=>simp[intOf];omega
   |false=>
    have HN:Hid (m=xw d (k+1)):=by unfold Hid;rw[xw,HM.out,hd];rfl
    clear hd
    go_wp2
    go_roundw
    case rel=>exact⟨k+1,m,by go_num,rfl,by omega,HN,zT⟩
    case measure=>simp[intOf];omega
  ·have D7:k=n:=by omega
   subst D7
   have HN:Hid (decide ((k:Int)<2*(m:Int))=decide (k<2*xw d k)):=by unfold Hid;rw[←HM.out];exact decide_eq_decide.2 (by omega)
   go_wp2
   go_ret
   exact⟨yI HN.out,hB⟩
theorem Qh(a:Option Addr)(c n:Nat)(p1 p2 p3 p4:Nat)(d:Nat→Bool)(w:World)(hn:n≤1000)
  (rg: ∀i W,i<n→Below w.heap.size w W→Calls Tryz.prog 47 #[.int .i64 i,.pointer (some ⟨p1,0,none⟩),.pointer (some ⟨p2,0,none⟩),.pointer (some ⟨p3,0,none⟩),.pointer (some ⟨p4,0,none⟩)] W (fun e w'=>e= .returned (.bool (d i))∧Below W.heap.size W w')):
  Calls Tryz.prog 49 #[.slice a n c,.func (.func 47) #[] #[.pointer (some ⟨p1,0,none⟩),.pointer (some ⟨p2,0,none⟩),.pointer (some ⟨p3,0,none⟩),.pointer (some ⟨p4,0,none⟩)]] w fun e w'=>e= .returned (.bool (decide (n<2*xw d n)))∧Below w.heap.size w w':=by
 go_enter Tryz.func49,Tryz.ntmps49
 go_wp2
 go_loopw [5,9] (fun o i wr=>∃k m:Nat,i= .int .i64 k∧o= .int .i64 m∧k≤n∧Hid (m=xw d k)∧Below w.heap.size w wr) (fun _ i _=>n-(intOf i).toNat)
 case atStart=>exact⟨0,0,rfl,rfl,Nat.zero_le _,rfl,Below.refl _ _⟩
 case round=>
  obtain⟨k,m,rfl,rfl,hk,HM,hB⟩:=hrel
  have hm:m≤1000:=by have:=HM.out;have:=WZ d k;omega
  by_cases zN:k<n
  ·have hc:=rg k wr zN hB
   go_wp2_with fail
   refine hc.mono ?_
   clear hc
   rintro e w1 ⟨rfl,zM⟩
   have zT:=bt hB zM
   clear zM
   cases hd:d k with
   |true=>
    have HN:Hid (m+1=xw d (k+1)):=by unfold Hid;rw[xw,HM.out,hd];rfl
    clear hd
    go_wp2
    go_roundw
    case rel=>exact⟨k+1,m+1,by go_num,by go_num,by omega,HN,zT⟩
    case measure=>simp[intOf];omega
   |false=>
    have HN:Hid (m=xw d (k+1)):=by unfold Hid;rw[xw,HM.out,hd];rfl
    clear hd
    go_wp2
    go_roundw
    case rel=>exact⟨k+1,m,by go_num,rfl,by omega,HN,zT⟩
    case measure=>simp[intOf];omega
  ·have D7:k=n:=by omega
   subst D7
   have HN:Hid (decide ((k:Int)<2*(m:Int))=decide (k<2*xw d k)):=by unfold Hid;rw[←HM.out];exact decide_eq_decide.2 (by omega)
   go_wp2
   go_ret
   exact⟨yI HN.out,hB⟩
theorem nz(a:Option Addr)(c:Nat)(l:List Rq)(p q k:Nat)(g:Int)(w:World)(h:zy w a l)(hk:k<l.length)(hp:w.heap[p]? =some (.cells #[.slice a l.length c] 24))(hq:w.heap[q]? =some (.cells #[.int .i64 g] 3)):
  Calls Tryz.prog 55 #[.int .i64 k,.pointer (some ⟨p,0,none⟩),.pointer (some ⟨q,0,none⟩)] w fun e w'=>e= .returned (.bool (l[k].r.g==g))∧Below w.heap.size w w':=by
 obtain⟨b,off,rfl,hb,hc⟩:=h k hk
 have x2:=(hc k hk).1.x2
 have y0:w.cell? ⟨p,0,none⟩=some (.slice (some ⟨b,off,none⟩) l.length c):=by rw[cell_of_row w _ _ _ _ _ hp];rfl
 have z0:w.cell? ⟨q,0,none⟩=some (.int .i64 g):=by rw[cell_of_row w _ _ _ _ _ hq];rfl
 have jB:(k:Int)<(l.length:Int):=by omega
 clear hc h
 go_enter Tryz.func55,Tryz.ntmps55
 go_wp2_with fail
 go_region
 go_wp2
 go_ret
 exact⟨rfl,(Below.refl _ _).drew⟩
theorem fG(n:Int)(w:World):Calls Tryz.prog 95 #[.int .i64 n] w fun e w'=>e= .returned (.bool (decide (0≤n)&&decide (n<8)))∧Below w.heap.size w w':=by
 by_cases h0:0≤n
 ·have HR:Hid (decide (n<8)=(decide (0≤n)&&decide (n<8))):=by simp[Hid,h0]
  go_enter Tryz.func95,Tryz.ntmps95
  go_wp2
  go_ret
  exact⟨yI HR.out,Below.refl _ _⟩
 ·have HR:Hid (false=(decide (0≤n)&&decide (n<8))):=by simp[Hid,h0]
  go_enter Tryz.func95,Tryz.ntmps95
  go_wp2
  go_ret
  exact⟨yI HR.out,Below.refl _ _⟩
def aV(n:Int)(i:Nat):Bool:=n.toNat.testBit i
theorem bN(n:Int)(i:Nat)(w:World)(h0:0≤n)(h1:n<8)(hi:i<3):Calls Tryz.prog 48 #[.int .i64 n,.int .i64 i] w fun e w'=>e= .returned (.bool (aV n i))∧Below w.heap.size w w':=by
 have hn:n=0∨n=1∨n=2∨n=3∨n=4∨n=5∨n=6∨n=7:=by omega
 have hj:i=0∨i=1∨i=2:=by omega
 rcases hn with rfl|rfl|rfl|rfl|rfl|rfl|rfl|rfl<;>rcases hj with rfl|rfl|rfl
 all_goals
  go_enter Tryz.func48,Tryz.ntmps48
  go_wp2
  go_ret
  exact⟨rfl,Below.refl _ _⟩
def dq:List Rf→List Rf→Bool
 |[],[]=>true
 |x::xs,y::ys=>fV x y&&dq xs ys
 |_,_=>false
theorem TW{a b:List Rf}:dq a b=true↔a=b:=by
 induction a generalizing b with
 |nil=>cases b<;>simp[dq]
 |cons x xs ih=>cases b with
  |nil=>simp[dq]
  |cons y ys=>simp[dq,pO,ih]
def Ed(a b:Rp):Bool:=a.g==b.g&&!dq a.l b.l
theorem Ws{a b:Rp}:Ed a b=true↔bR a b:=by
 unfold Ed bR
 rw[Bool.and_eq_true,beq_iff_eq,Bool.not_eq_true',←Bool.not_eq_true,TW]
def rK:List Rp→Bool
 |[]=>false
 |a::t=>t.any (Ed a)||rK t
theorem fM{l:List Rp}:rK l=true↔∃i j,∃hi:i<l.length,∃hj:j<l.length,i<j∧bR l[i] l[j]:=by
 induction l with
 |nil=>simp[rK]
 |cons a t ih=>
  rw[rK,Bool.or_eq_true,ih,List.any_eq_true]
  constructor
  ·rintro(⟨x,hx,q⟩|⟨i,j,hi,hj,nZ,q⟩)
   ·obtain⟨n,hn,rfl⟩:=List.mem_iff_getElem.1 hx
    exact⟨0,n+1,by simp,by simpa using hn,by omega,by simpa using Ws.1 q⟩
   ·exact⟨i+1,j+1,by simpa using hi,by simpa using hj,by omega,by simpa using q⟩
  ·rintro⟨i,j,hi,hj,nZ,q⟩
   cases j with
   |zero=>omega
   |succ j=>
    cases i with
    |zero=>exact .inl ⟨t[j]'(by simpa using hj),List.getElem_mem _,Ws.2 (by simpa using q)⟩
    |succ i=>exact .inr ⟨i,j,by simpa using hi,by simpa using hj,by omega,by simpa using q⟩
def vu:List Rp→Int
 |[]=>0
 |r::t=>if r.err≠0 then r.err else vu t
theorem fb{l:List Rp}:vu l=0↔∀r∈l,r.err=0:=by
 induction l with
 |nil=>simp[vu]
 |cons r t ih=>
  unfold vu
  by_cases h:r.err=0
  ·rw[if_neg (fun e=>e h),ih];simp[h]
  ·rw[if_pos h];simp[h]
theorem Xq{l:List Rp}{k:Nat}(hk:k<l.length):vu (l.drop k)=if l[k].err≠0 then l[k].err else vu (l.drop (k+1)):=by
 rw[List.drop_eq_getElem_cons hk,vu]
def Mu(l:List Rp):List Int:=l.map Rp.g
def aL(l:List Rp)(i:Nat):Bool:=(Mu l).getD i 0==(Mu l).getD (za (Mu l) l.length) 0
def zi(l:List Rp):Int:=if l.length≠3 then 1 else if vu l≠0 then vu l else if rK l=true then 4 else if 3<2*xw (aL l) 3 then 0 else 4
theorem zy.blk{w:World}{l:List Rq}{b off i:Nat}(h:zy w (some ⟨b,off,none⟩) l)(hi:i<l.length):b<w.heap.size:=by
 obtain⟨b',kQ,e,zN,_⟩:=h i hi
 cases e;exact zN
theorem DX(l:List Rq):yu l=Mu (l.map Rq.r):=by simp[yu,Mu,Function.comp_def]
theorem Qc{r s:Bool}(h:r=true↔s=true):r=s:=by
 cases r<;>cases s<;>simp_all
theorem MH(a:Option Addr)(c:Nat)(l:List Rq)(w:World)(h:zy w a l)(hl:l.length≤1000)(rg:l.length≤c)(qt:c≤9223372036854775807):
  Calls Tryz.prog 53 #[.slice a l.length c] w fun e w'=>e= .returned (.bool (rK (l.map Rq.r)))∧Below w.heap.size w w':=by
 refine(Vy a c l w h hl rg qt).mono ?_
 rintro e w1 ⟨r,rfl,hr,hb⟩
 refine⟨yI (Qc ?_),hb⟩
 rw[hr,fM]
 constructor
 ·rintro⟨i,j,hi,hj,nZ,q⟩;exact⟨i,j,by simpa using hi,by simpa using hj,nZ,by simpa using q⟩
 ·rintro⟨i,j,hi,hj,nZ,q⟩;exact⟨i,j,by simpa using hi,by simpa using hj,nZ,by simpa using q⟩
theorem kE(a:Option Addr)(c:Nat)(l:List Rq)(w:World)(hg:xr w)(h:zy w a l)(ZY:l.length≤c)(qt:c≤9223372036854775807):
  Calls Tryz.prog 13 #[.agg #[.slice a l.length c]] w fun e w'=>e= .returned (.int .i64 (zi (l.map Rq.r)))∧Below w.heap.size w w':=by
 have hA:=zB w (.cells #[.slice a l.length c] 24)
 have xa:=heap_alloc_new w (.cells #[.slice a l.length c] 24)
 have y0:(w.alloc (.cells #[.slice a l.length c] 24)).cell? ⟨w.heap.size,0,none⟩=some (.slice a l.length c):=by rw[cell_of_row _ _ _ _ _ _ xa];rfl
 by_cases h3:l.length=3
 case neg=>
  have z3:((l.length:Int) != 3)=true:=by simpa using(by omega: ¬(l.length:Int)=3)
  have HR:Hid (1=zi (l.map Rq.r)):=by unfold Hid zi;rw[if_pos (by simpa using h3)]
  clear h3
  go_enter Tryz.func13,Tryz.ntmps13
  go_wp2
  go_ret
  exact⟨zE HR.out,hA⟩
 have H3:Hid (l.length=3):=h3
 rw[h3]at xa y0 hA⊢
 clear h3
 have hhA:=h.below hA
 have CI:=hg.below hA
 go_enter Tryz.func13,Tryz.ntmps13
 go_wp2_with fail
 generalize w.alloc (.cells #[.slice a 3 c] 24)=W0 at *
 go_loopw [14] (fun i wr=>∃k:Nat,i= .int .i64 k∧k≤3∧Below W0.heap.size W0 wr∧Hid (vu (l.map Rq.r)=vu ((l.map Rq.r).drop k))) (fun i _=>3-(intOf i).toNat)
 case atStart=>exact⟨0,rfl,Nat.zero_le _,Below.refl _ _,by simp[Hid]⟩
 case round=>
  obtain⟨k,rfl,hk,hB,HE⟩:=hrel
  by_cases zN:k<3
  ·have xl:k<l.length:=by have:=H3.out;omega
   obtain⟨b,off,rfl,hb,hc⟩:=(hhA.below hB) k xl
   obtain⟨⟨x0,x1,x2,x3,x4,x5,x6⟩,hH⟩:=hc k xl
   have tu:=zB wr l[k].blk
   have si:=heap_alloc_new wr l[k].blk
   have zj:=bt hB tu
   have Gb:=vv l[k].aS l[k].cs l[k].r.s l[k].al l[k].cl l[k].r.l l[k].r.g l[k].r.ph l[k].a1 l[k].c1 l[k].r.m l[k].a2 l[k].c2 l[k].r.us l[k].r.f _ (CI.below zj) (sJ.below hH tu)
   obtain⟨z0,z1,z2,z3,z4,z5,z6⟩:=zI si
   have HD:Hid (vu ((l.map Rq.r).drop k)=if l[k].r.err≠0 then l[k].r.err else vu ((l.map Rq.r).drop (k+1))):=by
    have:=Xq (l:=l.map Rq.r) (k:=k) (by simpa using xl)
    unfold Hid
    simpa only[List.getElem_map]using this
   clear hc si tu
   go_wp2_with fail
   refine Gb.mono ?_
   clear Gb
   rintro e w1 ⟨rfl,zM⟩
   have zT:=bt zj zM
   clear zM x0 x1 x2 x3 x4 x5 x6 z0 z1 z2 z3 z4 z5 z6 zj
   by_cases he:xA l[k].r.s l[k].r.l l[k].r.g l[k].r.ph l[k].r.m l[k].r.us l[k].r.f=0
   ·have HN:Hid (vu (l.map Rq.r)=vu ((l.map Rq.r).drop (k+1))):=by unfold Hid;rw[HE.out,HD.out];exact if_neg (fun e=>e he)
    rw[he]
    clear he HD HE
    go_wp2
    go_roundw
    case rel=>exact⟨k+1,by go_num,by omega,zT,HN⟩
    case measure=>simp[intOf];omega
   ·have HN:Hid (xA l[k].r.s l[k].r.l l[k].r.g l[k].r.ph l[k].r.m l[k].r.us l[k].r.f=zi (l.map Rq.r)):=by
     have q:vu (l.map Rq.r)=xA l[k].r.s l[k].r.l l[k].r.g l[k].r.ph l[k].r.m l[k].r.us l[k].r.f:=by rw[HE.out,HD.out];exact if_pos he
     unfold Hid zi;rw[if_neg (by simpa using H3.out),if_pos (by rw[q];exact he),q]
    have ze:(xA l[k].r.s l[k].r.l l[k].r.g l[k].r.ph l[k].r.m l[k].r.us l[k].r.f != 0)=true:=by simpa using he
    have qM:=bt hA zT
    clear he HD HE
    go_wp2
    go_ret
    exact⟨zE HN.out,qM⟩
  ·have tv:k=3:=by omega
   subst tv
   have HF:Hid (vu (l.map Rq.r)=0):=by unfold Hid;rw[HE.out,List.drop_of_length_le (by simpa using Nat.le_of_eq H3.out)];rfl
   have qM:=bt hA hB
   have kr:=zA5 hB xa
   have y0r:wr.cell? ⟨w.heap.size,0,none⟩=some (.slice a 3 c):=by rw[cell_of_row _ _ _ _ _ _ kr];rfl
   have hu:=MH a c l wr (hhA.below hB) (by have:=H3.out;omega) ZY qt
   rw[H3.out]at hu
   clear HE
   go_wp2_with fail
   refine hu.mono ?_
   clear hu
   rintro e w1 ⟨rfl,zM⟩
   have zT:=bt qM zM
   have k1:=zA5 zM kr
   have Du:=(hhA.below hB).below zM
   clear zM hB qM kr y0r hhA
   cases hr:rK (l.map Rq.r)with
   |true=>
    have HR:Hid (4=zi (l.map Rq.r)):=by unfold Hid zi;rw[if_neg (by simpa using H3.out),if_neg (fun e=>e HF.out),if_pos hr]
    clear hr
    go_wp2
    go_ret
    exact⟨zE HR.out,zT⟩
   |false=>
   have HU:Hid (¬rK (l.map Rq.r)=true):=fun e=>by rw[hr]at e;cases e
   clear hr
   have na:Hid (za (yu l) 3<l.length):=by have:=pN (yu l) 3 3 (by omega) (by omega);unfold Hid;rw[H3.out];exact this
   have HT:Hid (∀i (hi:i<l.length),aL (l.map Rq.r) i=(l[i].r.g==(l[za (yu l) 3]'na.out).r.g)):=fun i hi=>by
    unfold aL
    have e3:(l.map Rq.r).length=3:=by simpa using H3.out
    rw[e3,←DX,Zu hi,Zu na.out]
   obtain⟨b,off,rfl,hb,hc⟩:=Du _ na.out
   have x2:=(hc _ na.out).1.x2
   have yT:za (yu l) 3<3:=pN (yu l) 3 3 (by omega) (by omega)
   have Fz:((za (yu l) 3:Nat):Int)<3:=by omega
   have hnw:=ck (some ⟨b,off,none⟩) c l
   rw[H3.out]at hnw
   have y01:w1.cell? ⟨w.heap.size,0,none⟩=some (.slice (some ⟨b,off,none⟩) 3 c):=by rw[cell_of_row _ _ _ _ _ _ k1];rfl
   clear hc
   go_wp2_with fail
   have xF:=(Below.refl w1.heap.size w1).drew
   have nf:=bt zT xF
   have kD:w1.drew.heap[w.heap.size]? =some (.cells #[.slice (some ⟨b,off,none⟩) 3 c] 24):=k1
   have Hx:=Du.below xF
   have jD:b<w1.drew.heap.size:=hb
   have tw:w1.drew.cell? ⟨w.heap.size,0,none⟩=some (.slice (some ⟨b,off,none⟩) 3 c)∧w1.drew.cell? ⟨b,off+za (yu l) 3*7+2,none⟩=some (.int .i64 (l[za (yu l) 3]'na.out).r.g):=⟨y01,x2⟩
   refine zS (fun W=>W.cell? ⟨w.heap.size,0,none⟩=some (.slice (some ⟨b,off,none⟩) 3 c)∧W.cell? ⟨b,off+za (yu l) 3*7+2,none⟩=some (.int .i64 (l[za (yu l) 3]'na.out).r.g)) (fun k=>k==9) (by kernel_rfl) tw (fun hS=>?_)
   generalize w1.drew=W1 at *
   clear tw xF zT k1 Du y01 x2 hb
   refine zAA 0 ?_ rfl ?_ ?_;rotate_left
   ·intro w zD;obtain⟨s0,s1⟩:=zD;go_simp;rfl
   try simp only[tn]
   refine zAA 1 ?_ rfl ?_ ?_;rotate_left
   ·intro w zD;obtain⟨s0,s1⟩:=zD;go_simp;rfl
   try simp only[tn]
   refine zAA 2 ?_ rfl ?_ ?_;rotate_left
   ·intro w zD;obtain⟨s0,s1⟩:=zD;go_simp;rfl
   try simp only[tn]
   refine zAA 3 ?_ rfl ?_ ?_;rotate_left
   ·intro w zD;obtain⟨s0,s1⟩:=zD;go_simp;rfl
   try simp only[tn]
   refine wpAnyE.two (i:=4) (j:=8) (by kernel_rfl) rfl rfl (fun K hK=>?_) (fun K hK=>?_)
   ·go_simp
    refine(hnw W1 Hx (by omega)).mono ?_
    rintro e W2 ⟨rfl,zZ⟩
    have zj:=bt nf zZ
    have k2:=zA5 zZ kD
    have Nc:=Hx.below zZ
    have r8:W2.cell? ⟨w.heap.size,0,none⟩=some (.slice (some ⟨b,off,none⟩) 3 c)∧W2.cell? ⟨b,off+za (yu l) 3*7+2,none⟩=some (.int .i64 (l[za (yu l) 3]'na.out).r.g):=⟨(zZ.cell (p:=⟨w.heap.size,0,none⟩) (zG kD)).trans hS.1,(zZ.cell (p:=⟨b,off+za (yu l) 3*7+2,none⟩) jD).trans hS.2⟩
    go_simp
    refine hK _ _ (fun _=>r8) ?_
    clear hK K nf kD Hx zZ hnw hS
    try simp only[tn]
    refine zAA 5 ?_ rfl ?_ ?_;rotate_left
    ·intro w zD;obtain⟨s0,s1⟩:=zD;go_simp;rfl
    try simp only[tn]
    refine zAA 6 ?_ rfl ?_ ?_;rotate_left
    ·intro w zD;obtain⟨s0,s1⟩:=zD;go_simp;rfl
    try simp only[tn]
    refine zAA 7 ?_ rfl ?_ ?_;rotate_left
    ·intro w zD;obtain⟨s0,s1⟩:=zD;go_simp;rfl
    try simp only[tn]
    refine zAC 8 rfl fun K hK=>?_
    go_simp
    have uM:=zB W2 (.cells #[.int .i64 0] 3)
    have k3:=heap_alloc_new W2 (.cells #[.int .i64 0] 3)
    have bw:=zA5 uM k2
    have tV:(W2.alloc (.cells #[.int .i64 0] 3)).cell? ⟨w.heap.size,0,none⟩=some (.slice (some ⟨b,off,none⟩) 3 c)∧(W2.alloc (.cells #[.int .i64 0] 3)).cell? ⟨b,off+za (yu l) 3*7+2,none⟩=some (.int .i64 (l[za (yu l) 3]'na.out).r.g):=⟨(uM.cell (p:=⟨w.heap.size,0,none⟩) (zG k2)).trans r8.1,(uM.cell (p:=⟨b,off+za (yu l) 3*7+2,none⟩) (Nc.blk na.out)).trans r8.2⟩
    refine hK _ _ (fun _=>tV) ?_
    clear hK K
    try simp only[tn]
    refine zAC 9 rfl fun K hK=>?_
    have c3:(W2.alloc (.cells #[.int .i64 0] 3)).cell? ⟨W2.heap.size,0,none⟩=some (.int .i64 0):=by rw[cell_of_row _ _ _ _ _ _ k3];rfl
    have f3:=zF (o:=0) k3
    go_simp
    refine hK _ _ (fun e=>by cases e) ?_
    clear hK K
    try simp only[tn]
    refine zAE ?_
    have GO:=zB W2 (.cells #[.int .i64 (l[za (yu l) 3]'na.out).r.g] 3)
    have KQ:=heap_alloc_new W2 (.cells #[.int .i64 (l[za (yu l) 3]'na.out).r.g] 3)
    have KP:=zA5 GO k2
    have db:=bt zj GO
    have HH:=Nc.below GO
    clear GO uM k3 bw k2 tV r8 c3 f3 Nc zj
    have Ls:(W2.alloc (.cells #[.int .i64 (l[za (yu l) 3]'na.out).r.g] 3)).heap[W2.heap.size]? =some (.cells #[.int .i64 (l[za (yu l) 3]'na.out).r.g] 3):=KQ
    have hmo:=ZA (some ⟨b,off,none⟩) c 3 w.heap.size (W2.heap.size) (aL (l.map Rq.r)) (W2.alloc (.cells #[.int .i64 (l[za (yu l) 3]'na.out).r.g] 3)) (by omega) (fun i W hi hb=>by
     have Vc:i<l.length:=by have:=H3.out;omega
     have hp:=zA5 hb KP
     rw[←H3.out]at hp
     have hh:=nz (some ⟨b,off,none⟩) c l w.heap.size (W2.heap.size) i (l[za (yu l) 3]'na.out).r.g W (HH.below hb) Vc hp ((zA5 hb Ls))
     rw[HT.out i Vc]
     exact hh)
    have yW:(W2.alloc (.cells #[.int .i64 (l[za (yu l) 3]'na.out).r.g] 3)).cell? ⟨w.heap.size,0,none⟩=some (.slice (some ⟨b,off,none⟩) 3 c):=by rw[cell_of_row _ _ _ _ _ _ KP];rfl
    clear Ls KQ KP HH
    go_wp2_with fail
    refine hmo.mono ?_
    clear hmo
    rintro e W4 ⟨rfl,xR⟩
    have xZ:=bt db xR
    clear xR yW
    cases hd:decide (3<2*xw (aL (l.map Rq.r)) 3)with
    |true=>
     have HR:Hid (0=zi (l.map Rq.r)):=by unfold Hid zi;rw[if_neg (by simpa using H3.out),if_neg (fun e=>e HF.out),if_neg (fun e=>HU.out e),if_pos (of_decide_eq_true hd)]
     clear hd
     go_wp2
     go_ret
     exact⟨zE HR.out,xZ⟩
    |false=>
     have HR:Hid (4=zi (l.map Rq.r)):=by unfold Hid zi;rw[if_neg (by simpa using H3.out),if_neg (fun e=>e HF.out),if_neg (fun e=>HU.out e),if_neg (of_decide_eq_false hd)]
     clear hd
     go_wp2
     go_ret
     exact⟨zE HR.out,xZ⟩
   ·go_simp
    have uM:=zB W1 (.cells #[.int .i64 0] 3)
    have k3:=heap_alloc_new W1 (.cells #[.int .i64 0] 3)
    have bw:=zA5 uM kD
    have tV:(W1.alloc (.cells #[.int .i64 0] 3)).cell? ⟨w.heap.size,0,none⟩=some (.slice (some ⟨b,off,none⟩) 3 c)∧(W1.alloc (.cells #[.int .i64 0] 3)).cell? ⟨b,off+za (yu l) 3*7+2,none⟩=some (.int .i64 (l[za (yu l) 3]'na.out).r.g):=⟨(uM.cell (p:=⟨w.heap.size,0,none⟩) (zG kD)).trans hS.1,(uM.cell (p:=⟨b,off+za (yu l) 3*7+2,none⟩) jD).trans hS.2⟩
    have xL:=bt nf uM
    have DZ:=Hx.below uM
    have MD:=zG kD
    refine hK _ _ (fun _=>tV) ?_
    clear hK K
    try simp only[tn]
    refine zAC 4 rfl fun K hK=>?_
    go_simp
    refine(hnw _ DZ (by omega)).mono ?_
    rintro e W2 ⟨rfl,zZ⟩
    have zj:=bt xL zZ
    have k2:=zA5 zZ k3
    have TU:=zA5 zZ bw
    have Nc:=DZ.below zZ
    have hlq:=zG k2
    have r8:W2.cell? ⟨w.heap.size,0,none⟩=some (.slice (some ⟨b,off,none⟩) 3 c)∧W2.cell? ⟨b,off+za (yu l) 3*7+2,none⟩=some (.int .i64 (l[za (yu l) 3]'na.out).r.g):=⟨(zZ.cell (p:=⟨w.heap.size,0,none⟩) (zG bw)).trans tV.1,(zZ.cell (p:=⟨b,off+za (yu l) 3*7+2,none⟩) (DZ.blk na.out)).trans tV.2⟩
    go_simp
    refine hK _ _ (fun _=>r8) ?_
    clear hK K zZ hnw hS tV DZ k3 bw uM
    try simp only[tn]
    refine zAA 5 ?_ rfl ?_ ?_;rotate_left
    ·intro w zD;obtain⟨s0,s1⟩:=zD;go_simp;rfl
    try simp only[tn]
    refine zAA 6 ?_ rfl ?_ ?_;rotate_left
    ·intro w zD;obtain⟨s0,s1⟩:=zD;go_simp;rfl
    try simp only[tn]
    refine zAA 7 ?_ rfl ?_ ?_;rotate_left
    ·intro w zD;obtain⟨s0,s1⟩:=zD;go_simp;rfl
    try simp only[tn]
    refine zAC 9 rfl fun K hK=>?_
    have c3:W2.cell? ⟨W1.heap.size,0,none⟩=some (.int .i64 0):=by rw[cell_of_row _ _ _ _ _ _ k2];rfl
    have f3:=zF (o:=0) k2
    go_simp
    refine hK _ _ (fun e=>by cases e) ?_
    clear hK K
    try simp only[tn]
    refine zAE ?_
    have KQ:=heap_setCell_same W2 W1.heap.size 0 _ 3 (.int .i64 (l[za (yu l) 3]'na.out).r.g) k2
    have KP:=(heap_setCell_other W2 ⟨W1.heap.size,0,none⟩ w.heap.size (.int .i64 (l[za (yu l) 3]'na.out).r.g) (by show w.heap.size≠W1.heap.size;omega)).trans TU
    have GO:Below w.heap.size w (W2.setCell ⟨W1.heap.size,0,none⟩ (.int .i64 (l[za (yu l) 3]'na.out).r.g)):=zj.setCell (by show w.heap.size≤W1.heap.size;omega) _
    have db:=GO
    have HH:=(h.below GO)
    clear GO TU k2 r8 c3 f3 Nc zj xL nf kD Hx
    have Ls:(W2.setCell ⟨W1.heap.size,0,none⟩ (.int .i64 (l[za (yu l) 3]'na.out).r.g)).heap[W1.heap.size]? =some (.cells #[.int .i64 (l[za (yu l) 3]'na.out).r.g] 3):=KQ
    have hmo:=ZA (some ⟨b,off,none⟩) c 3 w.heap.size (W1.heap.size) (aL (l.map Rq.r)) (W2.setCell ⟨W1.heap.size,0,none⟩ (.int .i64 (l[za (yu l) 3]'na.out).r.g)) (by omega) (fun i W hi hb=>by
     have Vc:i<l.length:=by have:=H3.out;omega
     have hp:=zA5 hb KP
     rw[←H3.out]at hp
     have hh:=nz (some ⟨b,off,none⟩) c l w.heap.size (W1.heap.size) i (l[za (yu l) 3]'na.out).r.g W (HH.below hb) Vc hp ((zA5 hb Ls))
     rw[HT.out i Vc]
     exact hh)
    have yW:(W2.setCell ⟨W1.heap.size,0,none⟩ (.int .i64 (l[za (yu l) 3]'na.out).r.g)).cell? ⟨w.heap.size,0,none⟩=some (.slice (some ⟨b,off,none⟩) 3 c):=by rw[cell_of_row _ _ _ _ _ _ KP];rfl
    clear Ls KQ KP HH
    go_wp2_with fail
    refine hmo.mono ?_
    clear hmo
    rintro e W4 ⟨rfl,xR⟩
    have xZ:=bt db xR
    clear xR yW
    cases hd:decide (3<2*xw (aL (l.map Rq.r)) 3)with
    |true=>
     have HR:Hid (0=zi (l.map Rq.r)):=by unfold Hid zi;rw[if_neg (by simpa using H3.out),if_neg (fun e=>e HF.out),if_neg (fun e=>HU.out e),if_pos (of_decide_eq_true hd)]
     clear hd
     go_wp2
     go_ret
     exact⟨zE HR.out,xZ⟩
    |false=>
     have HR:Hid (4=zi (l.map Rq.r)):=by unfold Hid zi;rw[if_neg (by simpa using H3.out),if_neg (fun e=>e HF.out),if_neg (fun e=>HU.out e),if_neg (of_decide_eq_false hd)]
     clear hd
     go_wp2
     go_ret
     exact⟨zE HR.out,xZ⟩
theorem fO(a:Option Addr)(c:Nat)(l:List Rq)(w:World)(hg:xr w)(h:zy w a l)(ZY:l.length≤c)(qt:c≤9223372036854775807):
  Calls Tryz.prog 16 #[.agg #[.slice a l.length c]] w fun e w'=>∃n:Nat,e= .returned (.tuple #[.int .i64 n,.int .i64 (zi (l.map Rq.r))])∧Hid (zi (l.map Rq.r)=0→n=za (yu l) l.length)∧Below w.heap.size w w':=by
 have hA:=zB w (.cells #[.slice a l.length c] 24)
 have xa:=heap_alloc_new w (.cells #[.slice a l.length c] 24)
 have y0:(w.alloc (.cells #[.slice a l.length c] 24)).cell? ⟨w.heap.size,0,none⟩=some (.slice a l.length c):=by rw[cell_of_row _ _ _ _ _ _ xa];rfl
 have hc:=kE a c l _ (hg.below hA) (h.below hA) ZY qt
 have hh:=h.below hA
 obtain⟨E,HE⟩: ∃E,Hid (zi (l.map Rq.r)=E):=⟨_,rfl⟩
 rw[HE.out]at hc⊢
 go_enter Tryz.func16,Tryz.ntmps16
 go_wp2_with fail
 generalize w.alloc (.cells #[.slice a l.length c] 24)=W0 at *
 refine hc.mono ?_
 clear hc
 rintro e w1 ⟨rfl,zM⟩
 have zT:=bt hA zM
 have k1:=zA5 zM xa
 have Du:=hh.below zM
 have y1:w1.cell? ⟨w.heap.size,0,none⟩=some (.slice a l.length c):=by rw[cell_of_row _ _ _ _ _ _ k1];rfl
 clear zM hA hh xa y0 h hg HE
 by_cases he:E=0
 ·have hn:=ck a c l w1 Du (by omega)
  obtain⟨n,HN⟩: ∃n:Nat,Hid (za (yu l) l.length=n):=⟨_,rfl⟩
  have HP:Hid (∀e w',(∃n':Nat,e=Ending.returned (.tuple #[.int .i64 n',.int .i64 0])∧n'=n∧Below w.heap.size w w')→∃n':Nat,e=Ending.returned (.tuple #[.int .i64 n',.int .i64 E])∧Hid (E=0→n'=za (yu l) l.length)∧Below w.heap.size w w'):=by
   rintro e w' ⟨n',q1,q2,q3⟩
   refine⟨n',?_,?_,q3⟩
   ·rw[he];exact q1
   ·intro _;rw[q2,HN.out]
  rw[HN.out]at hn
  have GF:(E != 0)=false:=by simpa using he
  go_wp2_with fail
  refine hn.mono ?_
  clear hn
  rintro e w2 ⟨rfl,zZ⟩
  have zj:=bt zT zZ
  clear zZ zT k1 Du y1 he GF
  go_wp2
  refine bodyPost_ret (v:=.tuple #[.int .i64 n,.int .i64 0]) (by simp[results,Tryz.results16,go_sem]) rfl ?_
  exact HP.out _ _ ⟨n,rfl,rfl,zj⟩
 ·have GF:(E != 0)=true:=by simpa using he
  have HP:Hid (E=0→(0:Nat)=za (yu l) l.length):=fun q=>absurd q he
  clear he
  go_wp2
  refine bodyPost_ret (v:=.tuple #[.int .i64 0,.int .i64 E]) (by simp[results,Tryz.results16,go_sem]) rfl ?_
  exact⟨0,rfl,HP,zT⟩
def un(n:Int):Bool:=decide (0≤n)&&decide (n<8)
def Wj(l:List Rp)(m:List Ob)(us:List Up)(up late:Int):Int:=if zi l≠0 then zi l else if zr m us≠0 then zr m us else if(un up&&un late)=true then 0 else 3
theorem X1{l:List Rp}{m:List Ob}{us:List Up}{up late:Int}:Wj l m us up late=0↔zi l=0∧zr m us=0∧(0≤up∧up<8)∧(0≤late∧late<8):=by
 unfold Wj
 split
 ·rename_i h;exact⟨fun e=>absurd e h,fun e=>absurd e.1 h⟩
 ·rename_i h
  split
  ·rename_i h2;exact⟨fun e=>absurd e h2,fun e=>absurd e.2.1 h2⟩
  ·rename_i h2
   split
   ·rename_i h3
    simp only[un,Bool.and_eq_true,decide_eq_true_eq]at h3
    exact⟨fun _=>⟨Classical.byContradiction h,Classical.byContradiction h2,h3.1,h3.2⟩,fun _=>rfl⟩
   ·rename_i h3
    refine⟨fun e=>absurd e (by decide),fun e=>?_⟩
    exact absurd (by simp only[un,Bool.and_eq_true,decide_eq_true_eq];exact⟨e.2.2.1,e.2.2.2⟩) h3
theorem bj(a:Option Addr)(c:Nat)(l:List Rq)(am:Option Addr)(cm:Nat)(m:List Ob)(au:Option Addr)(cu:Nat)(us:List Up)(f:Bool)(up late:Int)(w:World)(hg:xr w)(h:zy w a l)(ZY:l.length≤c)(qt:c≤9223372036854775807)
  (hm:zP w am m) (hml:m.length≤9223372036854775807) (hu:zx w au us) (hul:us.length≤9223372036854775807):
  Calls Tryz.prog 43 #[.agg #[.slice a l.length c],uw am m.length cm au us.length cu f,.int .i64 up,.int .i64 late] w fun e w'=>e= .returned (.int .i64 (Wj (l.map Rq.r) m us up late))∧Below w.heap.size w w':=by
 have hB:=zV w (.cells #[.slice a l.length c] 24) (.cells #[.slice am m.length cm,.slice au us.length cu,.bool f] 28)
 have Mp:=zB w (.cells #[.slice a l.length c] 24)
 have tu:=zB (w.alloc (.cells #[.slice a l.length c] 24)) (.cells #[.slice am m.length cm,.slice au us.length cu,.bool f] 28)
 have h1:=heap_alloc_new w (.cells #[.slice a l.length c] 24)
 have h2:=heap_alloc_new (w.alloc (.cells #[.slice a l.length c] 24)) (.cells #[.slice am m.length cm,.slice au us.length cu,.bool f] 28)
 rw[show(w.alloc (.cells #[.slice a l.length c] 24)).heap.size=w.heap.size+1 by simp]at h2
 have k1:=zA5 tu h1
 have y0:((w.alloc (.cells #[.slice a l.length c] 24)).alloc (.cells #[.slice am m.length cm,.slice au us.length cu,.bool f] 28)).cell? ⟨w.heap.size,0,none⟩=some (.slice a l.length c):=by rw[cell_of_row _ _ _ _ _ _ k1];rfl
 have hc:=kE a c l _ (hg.below hB) (h.below hB) ZY qt
 have PV:=hg.below hB
 have hmB:=hm.below hB
 have huB:=hu.below hB
 obtain⟨E,HE⟩: ∃E,Hid (zi (l.map Rq.r)=E):=⟨_,rfl⟩
 rw[HE.out]at hc
 clear Mp tu h1 hm hu hg h
 go_enter Tryz.func43,Tryz.ntmps43
 go_wp2_with fail
 generalize (w.alloc (.cells #[.slice a l.length c] 24)).alloc (.cells #[.slice am m.length cm,.slice au us.length cu,.bool f] 28)=W0 at *
 refine hc.mono ?_
 clear hc
 rintro e w1 ⟨rfl,zM⟩
 have zT:=bt hB zM
 have k2:=zA5 zM h2
 have YH:=PV.below zM
 have ec:=hmB.below zM
 have eM:=huB.below zM
 clear zM hB h2 k1 y0 PV hmB huB
 by_cases he:E=0
 case neg=>
  have HR:Hid (E=Wj (l.map Rq.r) m us up late):=by unfold Hid Wj;rw[HE.out,if_pos he]
  have GF:(E != 0)=true:=by simpa using he
  clear he HE
  go_wp2
  go_ret
  exact⟨zE HR.out,zT⟩
 have HC:Hid (zi (l.map Rq.r)=0):=HE.out.trans he
 subst he
 clear HE
 have z0:w1.cell? ⟨w.heap.size+1,0,none⟩=some (.slice am m.length cm):=by rw[cell_of_row _ _ _ _ _ _ k2];rfl
 have z1:w1.cell? ⟨w.heap.size+1,1,none⟩=some (.slice au us.length cu):=by rw[cell_of_row _ _ _ _ _ _ k2];rfl
 have z2:w1.cell? ⟨w.heap.size+1,2,none⟩=some (.bool f):=by rw[cell_of_row _ _ _ _ _ _ k2];rfl
 have hp:=sM am cm m au cu us f w1 YH ec hml eM hul
 obtain⟨E,HE⟩: ∃E,Hid (zr m us=E):=⟨_,rfl⟩
 rw[HE.out]at hp
 clear ec eM YH
 go_wp2_with fail
 refine hp.mono ?_
 clear hp
 rintro e w2 ⟨rfl,zZ⟩
 have zj:=bt zT zZ
 clear zZ zT z0 z1 z2 k2
 by_cases he:E=0
 case neg=>
  have HR:Hid (E=Wj (l.map Rq.r) m us up late):=by unfold Hid Wj;rw[HE.out,if_neg (fun e=>e HC.out),if_pos he]
  have GF:(E != 0)=true:=by simpa using he
  clear he HE
  go_wp2
  go_ret
  exact⟨zE HR.out,zj⟩
 have HD:Hid (zr m us=0):=HE.out.trans he
 subst he
 clear HE
 have HX:Hid (Wj (l.map Rq.r) m us up late=if(un up&&un late)=true then 0 else 3):=by unfold Hid Wj;rw[if_neg (fun e=>e HC.out),if_neg (fun e=>e HD.out)]
 have hup:=fG up w2
 obtain⟨p,HP⟩: ∃p,Hid (un up=p):=⟨_,rfl⟩
 rw[show(decide (0≤up)&&decide (up<8))=p from HP.out]at hup
 go_wp2_with fail
 refine hup.mono ?_
 clear hup
 rintro e w3 ⟨rfl,yT⟩
 have xL:=bt zj yT
 clear yT zj
 cases p with
 |false=>
  have HR:Hid (3=Wj (l.map Rq.r) m us up late):=by unfold Hid;rw[HX.out,HP.out];rfl
  clear HX HP
  go_wp2
  go_ret
  exact⟨zE HR.out,xL⟩
 |true=>
  have Dp:=fG late w3
  obtain⟨q,HQ⟩: ∃q,Hid (un late=q):=⟨_,rfl⟩
  rw[show(decide (0≤late)&&decide (late<8))=q from HQ.out]at Dp
  go_wp2_with fail
  refine Dp.mono ?_
  clear Dp
  rintro e w4 ⟨rfl,xR⟩
  have xZ:=bt xL xR
  clear xR xL
  cases q with
  |false=>
   have HR:Hid (3=Wj (l.map Rq.r) m us up late):=by unfold Hid;rw[HX.out,HP.out,HQ.out];rfl
   clear HX HP HQ
   go_wp2
   go_ret
   exact⟨zE HR.out,xZ⟩
  |true=>
   have HR:Hid (0=Wj (l.map Rq.r) m us up late):=by unfold Hid;rw[HX.out,HP.out,HQ.out];rfl
   clear HX HP HQ
   go_wp2
   go_ret
   exact⟨zE HR.out,xZ⟩
def tb:List Rq→List Value
 |[]=>[]
 |q::qs=>q.cells++tb qs
theorem WK(A B:List Rq):tb (A++B)=tb A++tb B:=by
 induction A with
 |nil=>rfl
 |cons r A ih=>simp[tb,ih,List.append_assoc]
theorem qR(A:List Rq):(tb A).length=A.length*7:=by
 induction A with
 |nil=>rfl
 |cons r A ih=>simp[tb,ih,Rq.cells];omega
theorem pK(A:List Rq)(i j:Nat)(hi:i<A.length)(hj:j<7):(tb A)[i*7+j]? =(A[i].cells)[j]?:=by
 induction A generalizing i with
 |nil=>simp at hi
 |cons r A ih=>
  cases i with
  |zero=>
   simp only[tb,Nat.zero_mul,Nat.zero_add,List.getElem_cons_zero]
   exact List.getElem?_append_left (by simpa[Rq.cells]using hj)
  |succ i=>
   have:=ih i (by simpa using hi)
   rw[List.getElem_cons_succ,←this]
   simp only[tb]
   rw[List.getElem?_append_right (by simp[Rq.cells];omega)]
   congr 1
   simp[Rq.cells];omega
def kI(z:Nat)(P:Nat→Prop)(w w':World):Prop:=w.heap.size≤w'.heap.size∧∀k,z≤k→k<w.heap.size→¬P k→w'.heap[k]? =w.heap[k]?
theorem kI.of_below{z:Nat}{P:Nat→Prop}{w w':World}(hb:Below w.heap.size w w'):kI z P w w':=⟨hb.size,fun k _ hk _=>hb.block k hk⟩
theorem kI.of_grown{z:Nat}{B:Option Nat}{w w':World}(hg:w.grownBy w' B):kI z (fun k=>B=some k) w w':=⟨hg.size,fun k _ hk hn=>hg.block k hk (fun e=>hn e.symm)⟩
def rQ(w:World)(z:Nat)(P:Nat→Prop)(q:Rq):Prop:=∀w',kI z P w w'→q.H w'
theorem rQ.next{w w':World}{z:Nat}{P P':Nat→Prop}{q:Rq}(h:rQ w z P q)(hg:kI z P w w')(hf: ∀k,k<w.heap.size→P' k→P k):rQ w' z P' q:=fun w2 h2=>
 h w2 ⟨Nat.le_trans hg.1 h2.1,fun k hz hk hn=>(h2.2 k hz (Nat.lt_of_lt_of_le hk hg.1) (fun e=>hn (hf k hk e))).trans (hg.2 k hz hk hn)⟩
theorem rQ.self{w:World}{z:Nat}{P:Nat→Prop}{q:Rq}(h:rQ w z P q):q.H w:=h w ⟨Nat.le_refl _,fun _ _ _ _=>rfl⟩
theorem rQ.below{w w':World}{z:Nat}{P:Nat→Prop}{q:Rq}(h:rQ w z P q)(hb:Below w.heap.size w w'):rQ w' z P q:=h.next (kI.of_below hb) (fun _ _ e=>e)
theorem rQ.fresh{w:World}{z z':Nat}{P:Nat→Prop}{q:Rq}(h:n7 w z' q.aS q.cs q.r.s q.al q.cl q.r.l q.a1 q.c1 q.r.m q.a2 q.c2 q.r.us)(hz:z≤z')(hP: ∀k,P k→k<z'):rQ w z P q:=fun w' hg=>by
 have hf:=h.fr.kept hg.1 (fun k xa xy=>hg.2 k (Nat.le_trans hz xa) xy (fun e=>by have:=hP k e;omega))
 have hh:=hf.holds
 exact⟨hh.1,hh.2.1,hh.2.2.1,hh.2.2.2,h.h.ns,h.h.nl,h.h.nm,h.h.nu⟩
structure Qs(w:World)(z:Nat)(v:Value)(qs:List Rq):Prop where
 own:w.ownsRow z 36 7 v qs.length (tb qs)
 each: ∀q∈qs,rQ w z (fun k=>v.ownBlock=some k) q
theorem Qs.below{w w':World}{z:Nat}{v:Value}{qs:List Rq}(h:Qs w z v qs)(hb:Below w.heap.size w w'):Qs w' z v qs:=
 ⟨zL h.own hb,fun q hq=>(h.each q hq).below hb⟩
theorem Qs.keep{w w':World}{z:Nat}{v:Value}{qs:List Rq}(h:Qs w z v qs)(hs:w.heap.size≤w'.heap.size)(hk: ∀k,z≤k→w'.heap[k]? =w.heap[k]?):Qs w' z v qs:=
 ⟨vS h.own hk,fun q hq=>(h.each q hq).next ⟨hs,fun k hz _ _=>hk k hz⟩ (fun _ _ e=>e)⟩
theorem Qs.from{w:World}{z z':Nat}{v:Value}{qs:List Rq}(h:Qs w z v qs)(hz:z'≤z):Qs w z' v qs:=
 ⟨vX h.own hz,fun q hq w' hl=>h.each q hq w' ⟨hl.1,fun k hk=>hl.2 k (Nat.le_trans hz hk)⟩⟩
theorem Tryz.info36:(Tryz.prog.info? 36).map (fun i=>(i.zero,i.size,i.bytes))=some (some (.agg #[.slice none 0 0,.slice none 0 0,.int .i64 0,.int .i64 0,.slice none 0 0,.slice none 0 0,.bool false]),7,120):=by kernel_rfl
theorem Pv(w:World)(base:Nat)(ty:TypeId)(v:Value)(n:Nat)(xs:List Value)(yj:w.ownsRow base 36 7 v n xs)(vb:Nat)(ys:Array Value)(hv:w.heap[vb]? =some (.cells ys 36))(fF:ys.size=7)
  (h2: ∀v∈ys.toList,v.oneCell'=true) (hn:n≤1000) (xq:base≤w.heap.size):
  ∃v' w',(Builtin.append_ #[22,22] ty #[v,.slice (some ⟨vb,0,none⟩) 1 1]).run Tryz.prog w= .ok v' w'∧w'.ownsRow base 36 7 v' (n+1) (xs++ys.toList)∧w.grownBy w' v.ownBlock∧∀k,v'.ownBlock=some k→v.ownBlock=some k∨w.heap.size≤k:=by
 obtain⟨i0,sN,sW,xQ,pS⟩:=info_parts Tryz.info36
 have hl:ys.toList.length=1*7:=by rw[Array.length_toList,fF]
 have tA:=World.news_of_block hv
 obtain⟨v',w',hr,q1,q2,_⟩:=run_append_own (P:=Tryz.prog) w base 22 ty 36 i0 _ 7 120 Tryz.underlying22 sN sW xQ pS rfl (by omega) v n xs yj ⟨vb,0,none⟩ 1 1 ys.toList hl tA h2 (by unfold maxLen;omega) (by omega) xq
 refine⟨v',w',hr,q1,q2,?_⟩
 rcases yj.2 with⟨rfl,rfl⟩|⟨g,cap,cur,rfl,hbg,hg,SK,qt,mz,htake⟩
 ·obtain⟨v2,w2,qZ,p1,_,_⟩:=run_append_own (P:=Tryz.prog) w w.heap.size 22 ty 36 i0 _ 7 120 Tryz.underlying22 sN sW xQ pS rfl (by omega) _ 0 [] (World.ownsRow_nil _ _ _ _) ⟨vb,0,none⟩ 1 1 ys.toList hl tA h2 (by unfold maxLen;omega) (by omega) (Nat.le_refl _)
  rw[hr]at qZ
  cases qZ
  exact fun k hk=>.inr (p1.lt k hk).1
 ·by_cases hroom:n+1≤cap
  ·have qZ:=run_append_room (P:=Tryz.prog) w 22 ty 36 i0 Tryz.underlying22 sN g n cap cur hg ⟨vb,0,none⟩ 1 1 ys.toList (by rw[xQ];exact hl) tA h2 hroom (by rw[xQ,hl];omega)
   rw[hr]at qZ
   cases qZ
   exact fun k hk=>.inl hk
  ·have qZ:=run_append_grow (P:=Tryz.prog) w 22 ty 36 i0 _ Tryz.underlying22 sN sW ⟨g,0,none⟩ n cap xs (by rw[xQ];exact yj.1) (yj.cells (g:=g) rfl) ⟨vb,0,none⟩ 1 1 ys.toList (by rw[xQ];exact hl) tA (by omega) (by omega) (by rw[pS];exact growslice_fits (by omega) (by omega))
   rw[hr]at qZ
   cases qZ
   exact fun k hk=>.inr (by simp[Value.ownBlock]at hk;omega)
theorem ch{w:World}{base:Nat}{v:Value}{n:Nat}{xs:List Value}(h:w.ownsRow base 36 7 v n xs): ∃g m c,v= .slice g m c:=by
 rcases h.2 with⟨e,_⟩|⟨g,cap,_,e,_⟩
 ·exact⟨_,_,_,e⟩
 ·exact⟨_,_,_,e⟩
theorem ZK(a:Option Addr)(c:Nat)(l:List Rq)(w:World)(h:zy w a l)(hl:l.length≤1000)(hE: ∀q∈l,q.r.err=0):
  Calls Tryz.prog 44 #[.agg #[.slice a l.length c]] w fun e w'=>∃v qs,e= .returned (.agg #[v])∧qs.map Rq.r=l.map Rq.r∧Qs w' w.heap.size v qs∧Below w.heap.size w w':=by
 obtain⟨xa,xy,tv,hB⟩:=xN w (.cells #[.slice a l.length c] 24) (.cells #[.slice none 0 0] 24) (.cells #[.slice none 0 0] 24)
 have y0:(((w.alloc (.cells #[.slice a l.length c] 24)).alloc (.cells #[.slice none 0 0] 24)).alloc (.cells #[.slice none 0 0] 24)).cell? ⟨w.heap.size,0,none⟩=some (.slice a l.length c):=by rw[cell_of_row _ _ _ _ _ _ xa];rfl
 have hs0:w.heap.size+2<(((w.alloc (.cells #[.slice a l.length c] 24)).alloc (.cells #[.slice none 0 0] 24)).alloc (.cells #[.slice none 0 0] 24)).heap.size:=zG tv
 go_enter Tryz.func44,Tryz.ntmps44
 go_wp2_with fail
 generalize ((w.alloc (.cells #[.slice a l.length c] 24)).alloc (.cells #[.slice none 0 0] 24)).alloc (.cells #[.slice none 0 0] 24)=W0 at *
 have S0:Qs W0 W0.heap.size (.slice none 0 0) []:=⟨World.ownsRow_nil _ _ _ _,fun q hq=>by cases hq⟩
 go_loopw [9] (fun i wr=>∃(k:Nat) (v:Value) (qs:List Rq),i= .int .i64 k∧k≤l.length∧Hid (qs.map Rq.r=(l.map Rq.r).take k)∧Qs wr W0.heap.size v qs∧wr.heap[w.heap.size+2]? =some (.cells #[v] 24)∧wr.heap[w.heap.size+1]? =some (.cells #[.slice none 0 0] 24)∧Below w.heap.size w wr∧W0.heap.size≤wr.heap.size) (fun i _=>l.length-(intOf i).toNat)
 case atStart=>exact⟨0,_,[],rfl,Nat.zero_le _,rfl,S0,tv,xy,hB,Nat.le_refl _⟩
 case round=>
  clear S0 xa xy tv y0
  obtain⟨k,v,qs,rfl,hk,HM,SQ,kv,kz,HB,gB⟩:=hrel
  obtain⟨g0,m0,c0,rfl⟩:=ch SQ.own
  by_cases zN:k<l.length
  ·obtain⟨b,off,rfl,hb,hc⟩:=(h.below HB) k zN
   obtain⟨⟨x0,x1,x2,x3,x4,x5,x6⟩,hH⟩:=hc k zN
   have hq:=hE l[k] (List.getElem_mem zN)
   obtain⟨n1,n2,n3,n4,n5,n6⟩:=rc hq
   have hA:=zB wr l[k].blk
   have Y7:=heap_alloc_new wr l[k].blk
   have SA:=SQ.below hA
   have kvA:=zA5 hA kv
   have kzA:=zA5 hA kz
   have TZ:=bt HB hA
   have hHA:=sJ.below hH hA
   have zA0:=Nat.le_trans gB hA.size
   obtain⟨z0,z1,z2,z3,z4,z5,z6⟩:=zI Y7
   have hvl: ∀j,(Value.slice g0 m0 c0).ownBlock=some j→j<(wr.alloc l[k].blk).heap.size:=fun j e=>Nat.lt_of_lt_of_le (SQ.own.lt j e).2 hA.size
   have hvr: ∀j,(Value.slice g0 m0 c0).ownBlock=some j→j<wr.heap.size:=fun j e=>(SQ.own.lt j e).2
   clear hc hA SQ
   go_wp2_with fail
   generalize wr.alloc l[k].blk=W at *
   have xF:=(Below.refl W.heap.size W).drew
   have SD:=SA.below xF
   have kvD:W.drew.heap[w.heap.size+2]? =some (.cells #[.slice g0 m0 c0] 24):=kvA
   have eW:W.drew.heap[w.heap.size+1]? =some (.cells #[.slice none 0 0] 24):=kzA
   have E8:W.drew.heap[wr.heap.size]? =some l[k].blk:=Y7
   have dA:=bt TZ xF
   have aQ:=sJ.below hHA xF
   have C7:W0.heap.size≤W.drew.heap.size:=zA0
   have hvD: ∀j,(Value.slice g0 m0 c0).ownBlock=some j→j<W.drew.heap.size:=hvl
   have yv:W.drew.cell? ⟨w.heap.size+2,0,none⟩=some (.slice g0 m0 c0):=by rw[cell_of_row _ _ _ _ _ _ kvD];rfl
   have tw:W.drew.cell? ⟨w.heap.size+2,0,none⟩=some (.slice g0 m0 c0)∧(W.drew.cell? ⟨wr.heap.size,0,none⟩=some (.slice l[k].aS l[k].r.s.length l[k].cs)∧W.drew.cell? ⟨wr.heap.size,1,none⟩=some (.slice l[k].al l[k].r.l.length l[k].cl)∧W.drew.cell? ⟨wr.heap.size,2,none⟩=some (.int .i64 l[k].r.g)∧W.drew.cell? ⟨wr.heap.size,3,none⟩=some (.int .i64 l[k].r.ph)∧W.drew.cell? ⟨wr.heap.size,4,none⟩=some (.slice l[k].a1 l[k].r.m.length l[k].c1)∧W.drew.cell? ⟨wr.heap.size,5,none⟩=some (.slice l[k].a2 l[k].r.us.length l[k].c2)∧W.drew.cell? ⟨wr.heap.size,6,none⟩=some (.bool l[k].r.f)):=⟨yv,zI E8⟩
   refine zS (fun W=>W.cell? ⟨w.heap.size+2,0,none⟩=some (.slice g0 m0 c0)∧(W.cell? ⟨wr.heap.size,0,none⟩=some (.slice l[k].aS l[k].r.s.length l[k].cs)∧W.cell? ⟨wr.heap.size,1,none⟩=some (.slice l[k].al l[k].r.l.length l[k].cl)∧W.cell? ⟨wr.heap.size,2,none⟩=some (.int .i64 l[k].r.g)∧W.cell? ⟨wr.heap.size,3,none⟩=some (.int .i64 l[k].r.ph)∧W.cell? ⟨wr.heap.size,4,none⟩=some (.slice l[k].a1 l[k].r.m.length l[k].c1)∧W.cell? ⟨wr.heap.size,5,none⟩=some (.slice l[k].a2 l[k].r.us.length l[k].c2)∧W.cell? ⟨wr.heap.size,6,none⟩=some (.bool l[k].r.f))) (fun k=>k==7) (by kernel_rfl) tw (fun hS=>?_)
   generalize W.drew=W1 at *
   clear tw yv xF SA kvA kzA Y7 TZ hHA zA0 hvl x0 x1 x2 x3 x4 x5 x6 z0 z1 z2 z3 z4 z5 z6
   refine zAA 0 ?_ rfl ?_ ?_;rotate_left
   ·intro w zD;obtain⟨s0,r0,r1,r2,r3,r4,r5,r6⟩:=zD;go_simp;rfl
   try simp only[tn]
   refine zAA 1 ?_ rfl ?_ ?_;rotate_left
   ·intro w zD;obtain⟨s0,r0,r1,r2,r3,r4,r5,r6⟩:=zD;go_simp;rfl
   try simp only[tn]
   refine zAA 2 ?_ rfl ?_ ?_;rotate_left
   ·intro w zD;obtain⟨s0,r0,r1,r2,r3,r4,r5,r6⟩:=zD;go_simp;rfl
   try simp only[tn]
   refine zAC 3 rfl fun K hK=>?_
   go_simp
   refine(tO l[k].aS l[k].cs l[k].r.s l[k].al l[k].cl l[k].r.l l[k].r.g l[k].r.ph l[k].a1 l[k].c1 l[k].r.m l[k].a2 l[k].c2 l[k].r.us l[k].r.f W1 aQ.hs (by omega) n2 aQ.hl (by omega) aQ.hm (by omega) n5 aQ.hu (by omega)).mono ?_
   rintro e W2 ⟨b0,d0,b1,d1,b2,d2,b3,d3,rfl,F2,zZ⟩
   have kv2:=zA5 zZ kvD
   have kz2:=zA5 zZ eW
   have Jp:=zA5 zZ E8
   have S2:=SD.below zZ
   have pv:=bt dA zZ
   have yv2:W2.cell? ⟨w.heap.size+2,0,none⟩=some (.slice g0 m0 c0):=by rw[cell_of_row _ _ _ _ _ _ kv2];rfl
   have r8:W2.cell? ⟨w.heap.size+2,0,none⟩=some (.slice g0 m0 c0)∧(W2.cell? ⟨wr.heap.size,0,none⟩=some (.slice l[k].aS l[k].r.s.length l[k].cs)∧W2.cell? ⟨wr.heap.size,1,none⟩=some (.slice l[k].al l[k].r.l.length l[k].cl)∧W2.cell? ⟨wr.heap.size,2,none⟩=some (.int .i64 l[k].r.g)∧W2.cell? ⟨wr.heap.size,3,none⟩=some (.int .i64 l[k].r.ph)∧W2.cell? ⟨wr.heap.size,4,none⟩=some (.slice l[k].a1 l[k].r.m.length l[k].c1)∧W2.cell? ⟨wr.heap.size,5,none⟩=some (.slice l[k].a2 l[k].r.us.length l[k].c2)∧W2.cell? ⟨wr.heap.size,6,none⟩=some (.bool l[k].r.f)):=⟨yv2,zI Jp⟩
   have Nc:=F2.holds
   have hF2:n7 W2 W1.heap.size b0 d0 l[k].r.s b1 d1 l[k].r.l b2 d2 l[k].r.m b3 d3 l[k].r.us:=⟨⟨Nc.1,Nc.2.1,Nc.2.2.1,Nc.2.2.2,aQ.ns,aQ.nl,aQ.nm,aQ.nu⟩,F2⟩
   have zR8:=zZ.size
   refine hK _ _ (fun _=>r8) ?_
   clear hK K hS yv2 zZ kvD eW E8 SD dA F2 Nc aQ
   try simp only[tn]
   refine zAC 4 rfl fun K hK=>?_
   obtain⟨q,bh⟩: ∃q:Rq,q=⟨l[k].r,b0,d0,b1,d1,b2,d2,b3,d3⟩:=⟨_,rfl⟩
   have uM:=zB W2 (.cells #[.slice b0 l[k].r.s.length d0,.slice b1 l[k].r.l.length d1,.int .i64 l[k].r.g,.int .i64 l[k].r.ph,.slice b2 l[k].r.m.length d2,.slice b3 l[k].r.us.length d3,.bool l[k].r.f] 36)
   have kb3:=heap_alloc_new W2 (.cells #[.slice b0 l[k].r.s.length d0,.slice b1 l[k].r.l.length d1,.int .i64 l[k].r.g,.int .i64 l[k].r.ph,.slice b2 l[k].r.m.length d2,.slice b3 l[k].r.us.length d3,.bool l[k].r.f] 36)
   have kv3:=zA5 uM kv2
   have kz3:=zA5 uM kz2
   have kn3:=zA5 uM Jp
   have S3:=S2.below uM
   have na:=bt pv uM
   have hF3:=hF2.below uM
   have yv3:=(uM.cell (p:=⟨w.heap.size+2,0,none⟩) (zG kv2)).trans r8.1
   have tV:(W2.alloc (.cells #[.slice b0 l[k].r.s.length d0,.slice b1 l[k].r.l.length d1,.int .i64 l[k].r.g,.int .i64 l[k].r.ph,.slice b2 l[k].r.m.length d2,.slice b3 l[k].r.us.length d3,.bool l[k].r.f] 36)).cell? ⟨w.heap.size+2,0,none⟩=some (.slice g0 m0 c0)∧((W2.alloc (.cells #[.slice b0 l[k].r.s.length d0,.slice b1 l[k].r.l.length d1,.int .i64 l[k].r.g,.int .i64 l[k].r.ph,.slice b2 l[k].r.m.length d2,.slice b3 l[k].r.us.length d3,.bool l[k].r.f] 36)).cell? ⟨wr.heap.size,0,none⟩=some (.slice l[k].aS l[k].r.s.length l[k].cs)∧(W2.alloc (.cells #[.slice b0 l[k].r.s.length d0,.slice b1 l[k].r.l.length d1,.int .i64 l[k].r.g,.int .i64 l[k].r.ph,.slice b2 l[k].r.m.length d2,.slice b3 l[k].r.us.length d3,.bool l[k].r.f] 36)).cell? ⟨wr.heap.size,1,none⟩=some (.slice l[k].al l[k].r.l.length l[k].cl)∧(W2.alloc (.cells #[.slice b0 l[k].r.s.length d0,.slice b1 l[k].r.l.length d1,.int .i64 l[k].r.g,.int .i64 l[k].r.ph,.slice b2 l[k].r.m.length d2,.slice b3 l[k].r.us.length d3,.bool l[k].r.f] 36)).cell? ⟨wr.heap.size,2,none⟩=some (.int .i64 l[k].r.g)∧(W2.alloc (.cells #[.slice b0 l[k].r.s.length d0,.slice b1 l[k].r.l.length d1,.int .i64 l[k].r.g,.int .i64 l[k].r.ph,.slice b2 l[k].r.m.length d2,.slice b3 l[k].r.us.length d3,.bool l[k].r.f] 36)).cell? ⟨wr.heap.size,3,none⟩=some (.int .i64 l[k].r.ph)∧(W2.alloc (.cells #[.slice b0 l[k].r.s.length d0,.slice b1 l[k].r.l.length d1,.int .i64 l[k].r.g,.int .i64 l[k].r.ph,.slice b2 l[k].r.m.length d2,.slice b3 l[k].r.us.length d3,.bool l[k].r.f] 36)).cell? ⟨wr.heap.size,4,none⟩=some (.slice l[k].a1 l[k].r.m.length l[k].c1)∧(W2.alloc (.cells #[.slice b0 l[k].r.s.length d0,.slice b1 l[k].r.l.length d1,.int .i64 l[k].r.g,.int .i64 l[k].r.ph,.slice b2 l[k].r.m.length d2,.slice b3 l[k].r.us.length d3,.bool l[k].r.f] 36)).cell? ⟨wr.heap.size,5,none⟩=some (.slice l[k].a2 l[k].r.us.length l[k].c2)∧(W2.alloc (.cells #[.slice b0 l[k].r.s.length d0,.slice b1 l[k].r.l.length d1,.int .i64 l[k].r.g,.int .i64 l[k].r.ph,.slice b2 l[k].r.m.length d2,.slice b3 l[k].r.us.length d3,.bool l[k].r.f] 36)).cell? ⟨wr.heap.size,6,none⟩=some (.bool l[k].r.f)):=⟨yv3,zI kn3⟩
   have zQX:=uM.size
   go_simp
   refine hK _ _ (fun _=>tV) ?_
   clear hK K yv3 r8 kv2 kz2 Jp S2 pv hF2 uM
   try simp only[tn]
   generalize Dl:W2.alloc (.cells #[.slice b0 l[k].r.s.length d0,.slice b1 l[k].r.l.length d1,.int .i64 l[k].r.g,.int .i64 l[k].r.ph,.slice b2 l[k].r.m.length d2,.slice b3 l[k].r.us.length d3,.bool l[k].r.f] 36)=W3 at *
   have ac:qs.length=k:=by have:=congrArg List.length HM.out;rw[List.length_map,List.length_take,List.length_map]at this;omega
   have hzW:W0.heap.size≤W3.heap.size:=by omega
   obtain⟨v',W4,hr4,mn,PT,AY⟩:=Pv W3 W0.heap.size 22 _ qs.length (tb qs) S3.own W2.heap.size _ kb3 rfl (by intro u hu;simp only[List.mem_cons,List.not_mem_nil,or_false]at hu;rcases hu with rfl|rfl|rfl|rfl|rfl|rfl|rfl<;>rfl) (by omega) hzW
   obtain⟨g',m',c',rfl⟩:=ch mn
   have yM: ∀x,x<W0.heap.size→some x≠(Value.slice g0 m0 c0).ownBlock:=fun x hx e=>by have:=(S3.own.lt x e.symm).1;omega
   have kv4:=(PT.block (w.heap.size+2) (zG kv3) (yM _ hs0)).trans kv3
   have kz4:=(PT.block (w.heap.size+1) (zG kz3) (yM _ (by omega))).trans kz3
   have Nu:Below w.heap.size w W4:=⟨PT.os.trans na.os,PT.tape.trans na.tape,PT.output.trans na.output,Nat.le_trans na.size PT.size,fun x hx=>(PT.block x (Nat.lt_of_lt_of_le hx na.size) (yM _ (by omega))).trans (na.block x hx)⟩
   have Cp:=(PT.block wr.heap.size (zG kn3) (fun e=>by have:=hvr _ e.symm;omega)).trans kn3
   have NQ:Qs W4 W0.heap.size (.slice g' m' c') (qs++[q]):=by
    refine⟨?_,?_⟩
    ·rw[List.length_append,WK];subst bh;exact mn
    ·intro x hx
     rcases List.mem_append.1 hx with p|p
     ·exact(S3.each x p).next (kI.of_grown PT) (fun j hj e=>by rcases AY j e with t|t;exact t;omega)
     ·have:x=q:=List.mem_singleton.1 p
      subst this;subst bh
      exact(rQ.fresh (z:=W0.heap.size) (z':=W1.heap.size) hF3 C7 hvD).next (kI.of_grown PT) (fun j hj e=>by rcases AY j e with t|t;exact t;omega)
   have HM':Hid ((qs++[q]).map Rq.r=(l.map Rq.r).take (k+1)):=by
    unfold Hid
    rw[List.map_append,HM.out,List.take_succ_eq_append_getElem (by simpa using zN)]
    subst bh;simp
   have y4:W4.cell? ⟨w.heap.size+2,0,none⟩=some (.slice g0 m0 c0):=by rw[cell_of_row _ _ _ _ _ _ kv4];rfl
   have AE:=Nat.le_trans hzW PT.size
   have mg:W4.cell? ⟨w.heap.size+2,0,none⟩=some (.slice g0 m0 c0)∧(W4.cell? ⟨wr.heap.size,0,none⟩=some (.slice l[k].aS l[k].r.s.length l[k].cs)∧W4.cell? ⟨wr.heap.size,1,none⟩=some (.slice l[k].al l[k].r.l.length l[k].cl)∧W4.cell? ⟨wr.heap.size,2,none⟩=some (.int .i64 l[k].r.g)∧W4.cell? ⟨wr.heap.size,3,none⟩=some (.int .i64 l[k].r.ph)∧W4.cell? ⟨wr.heap.size,4,none⟩=some (.slice l[k].a1 l[k].r.m.length l[k].c1)∧W4.cell? ⟨wr.heap.size,5,none⟩=some (.slice l[k].a2 l[k].r.us.length l[k].c2)∧W4.cell? ⟨wr.heap.size,6,none⟩=some (.bool l[k].r.f)):=⟨y4,zI Cp⟩
   clear tV kv3 kz3 kn3 S3 na hF3 kb3 hvD C7 hvr mn
   refine zAC 5 rfl fun K hK=>?_
   refine sT (by rfl) (.tmp 14) (.tmp 17) (by rfl) _ _ (by rfl) (by rfl) hr4 ?_
   refine hK _ _ (fun _=>mg) ?_
   clear hK K hr4 PT AY
   try simp only[tn]
   refine zAC 6 rfl fun K hK=>?_
   go_simp
   refine hK _ _ (fun _=>mg) ?_
   clear hK K
   try simp only[tn]
   refine zAC 7 rfl fun K hK=>?_
   have f4:=zF (o:=0) kv4
   have s5:=heap_setCell_same W4 (w.heap.size+2) 0 _ 24 (.slice g' m' c') kv4
   have k5:(W4.setCell ⟨w.heap.size+2,0,none⟩ (.slice g' m' c')).heap[w.heap.size+2]? =some (.cells #[.slice g' m' c'] 24):=by simpa using s5
   have kz5:=(heap_setCell_other W4 ⟨w.heap.size+2,0,none⟩ (w.heap.size+1) (.slice g' m' c') (by simp)).trans kz4
   have N5:=NQ.keep (yX W4 ⟨w.heap.size+2,0,none⟩ (.slice g' m' c')) (vY W4 (w.heap.size+2) 0 W0.heap.size (.slice g' m' c') hs0)
   have GA:Below w.heap.size w (W4.setCell ⟨w.heap.size+2,0,none⟩ (.slice g' m' c')):=Nu.setCell (by show w.heap.size≤w.heap.size+2;omega) _
   have zEE:W0.heap.size≤(W4.setCell ⟨w.heap.size+2,0,none⟩ (.slice g' m' c')).heap.size:=Nat.le_trans AE (yX _ _ _)
   go_simp
   refine hK _ _ (fun e=>by cases e) ?_
   clear hK K s5 NQ Nu AE kz4 kv4 y4 f4 mg Cp
   try simp only[tn]
   refine zAE ?_
   go_wp2
   go_roundw
   case rel=>exact⟨k+1,_,_,by go_num,by omega,HM',N5,k5,kz5,GA,zEE⟩
   case measure=>simp[intOf];omega
  ·have HMM:Hid (qs.map Rq.r=l.map Rq.r):=by unfold Hid;rw[HM.out,List.take_of_length_le (by simpa using zN)]
   have yv:wr.cell? ⟨w.heap.size+2,0,none⟩=some (.slice g0 m0 c0):=by rw[cell_of_row _ _ _ _ _ _ kv];rfl
   have yz:wr.cell? ⟨w.heap.size+1,0,none⟩=some (.slice none 0 0):=by rw[cell_of_row _ _ _ _ _ _ kz];rfl
   have fz:=zF (o:=0) kz
   have s5:=heap_setCell_same wr (w.heap.size+1) 0 _ 24 (.slice g0 m0 c0) kz
   have k5:(wr.setCell ⟨w.heap.size+1,0,none⟩ (.slice g0 m0 c0)).heap[w.heap.size+1]? =some (.cells #[.slice g0 m0 c0] 24):=by simpa using s5
   have y5:(wr.setCell ⟨w.heap.size+1,0,none⟩ (.slice g0 m0 c0)).cell? ⟨w.heap.size+1,0,none⟩=some (.slice g0 m0 c0):=by rw[cell_of_row _ _ _ _ _ _ k5];rfl
   have N5:Hid (_∧_):=⟨(SQ.keep (yX wr ⟨w.heap.size+1,0,none⟩ (.slice g0 m0 c0)) (vY wr (w.heap.size+1) 0 W0.heap.size (.slice g0 m0 c0) (by omega))).from (z':=w.heap.size) (by omega),(HB.setCell (p:=⟨w.heap.size+1,0,none⟩) (by show w.heap.size≤w.heap.size+1;omega) (.slice g0 m0 c0))⟩
   clear HM s5 k5 SQ HB kv kz gB
   go_wp2
   refine bodyPost_ret (v:=.agg #[.slice g0 m0 c0]) (by simp[results,Tryz.results44,go_sem,y5]) rfl ?_
   exact⟨_,qs,rfl,HMM.out,N5.out.1,N5.out.2⟩
structure Ld(w:World)(z L B off cap:Nat)(Q:Nat→Rq)(V:Nat→ByteArray):Prop where
 hL: ∃cur,w.heap[L]? =some (.cells cur 89)
 hB: ∃cur,w.heap[B]? =some (.cells cur 36)
 zl:z≤L
 zb:z≤B
 ne:L≠B
 head:w.cell? ⟨L,0,none⟩=some (.slice (some ⟨B,off,none⟩) 3 cap)
 vote: ∀i,i<3→w.cell? ⟨L,1+i,none⟩=some (.string (V i))
 row: ∀i,i<3→bY w B (off+i*7) (Q i)
 each: ∀i,i<3→rQ w z (fun k=>k=B∨k=L) (Q i)
theorem Ld.ltL{w:World}{z L B off cap:Nat}{Q:Nat→Rq}{V:Nat→ByteArray}(h:Ld w z L B off cap Q V):L<w.heap.size:=by
 obtain⟨c,q⟩:=h.hL;exact zG q
theorem Ld.ltB{w:World}{z L B off cap:Nat}{Q:Nat→Rq}{V:Nat→ByteArray}(h:Ld w z L B off cap Q V):B<w.heap.size:=by
 obtain⟨c,q⟩:=h.hB;exact zG q
theorem Ld.below{w w':World}{z L B off cap:Nat}{Q:Nat→Rq}{V:Nat→ByteArray}(h:Ld w z L B off cap Q V)(hb:Below w.heap.size w w'):Ld w' z L B off cap Q V:=by
 have l1:=h.ltL
 have l2:=h.ltB
 obtain⟨c1,q1⟩:=h.hL
 obtain⟨c2,q2⟩:=h.hB
 exact⟨⟨c1,(hb.block _ l1).trans q1⟩,⟨c2,(hb.block _ l2).trans q2⟩,h.zl,h.zb,h.ne,(hb.cell (p:=⟨L,0,none⟩) l1).trans h.head,fun i hi=>(hb.cell (p:=⟨L,1+i,none⟩) l1).trans (h.vote i hi),fun i hi=>(h.row i hi).block (hb.block _ l2),fun i hi=>(h.each i hi).below hb⟩
def jf{α:Type}(f:Nat→α)(k:Nat)(x:α):Nat→α:=fun i=>if i=k then x else f i
theorem tr{α:Type}(f:Nat→α)(k:Nat)(x:α):jf f k x k=x:=by simp[jf]
theorem vQ{α:Type}(f:Nat→α){k i:Nat}(x:α)(h:i≠k):jf f k x i=f i:=by simp[jf,h]
theorem xd{w:World}{p o q:Nat}{t:TypeId}(v:Value)(h: ∃cur,w.heap[q]? =some (.cells cur t)): ∃cur,(w.setCell ⟨p,o,none⟩ v).heap[q]? =some (.cells cur t):=by
 obtain⟨cur,e⟩:=h
 by_cases hq:q=p
 ·subst hq;exact⟨_,heap_setCell_same w q o _ t v e⟩
 ·exact⟨cur,(heap_setCell_other w ⟨p,o,none⟩ q v hq).trans e⟩
theorem zY(w:World)(b i o:Nat)(v:Value)(h:o≠i):(w.setCell ⟨b,i,none⟩ v).cell? ⟨b,o,none⟩=w.cell? ⟨b,o,none⟩:=by
 have:=World.cell?_setCells_out b [v] i w ⟨b,o,none⟩ (fun _ _=>by simp only[List.length_cons,List.length_nil];omega)
 simpa[World.setCells]using this
theorem XK(w:World)(b b' i o:Nat)(v:Value)(h:b'≠b):(w.setCell ⟨b,i,none⟩ v).cell? ⟨b',o,none⟩=w.cell? ⟨b',o,none⟩:=
 World.cell?_of_block (a:=⟨b',o,none⟩) (heap_setCell_other w ⟨b,i,none⟩ b' v h)
theorem MA(w:World)(z b o:Nat)(v:Value)(P:Nat→Prop)(h:P b):kI z P w (w.setCell ⟨b,o,none⟩ v):=
 ⟨yX _ _ _,fun k _ _ hn=>heap_setCell_other w ⟨b,o,none⟩ k v (fun e=>hn (by have e':k=b:=e;rw[e'];exact h))⟩
theorem kI.trans{z:Nat}{P:Nat→Prop}{a b c:World}(h:kI z P a b)(k:kI z P b c):kI z P a c:=
 ⟨Nat.le_trans h.1 k.1,fun i hz hi hn=>(k.2 i hz (Nat.lt_of_lt_of_le hi h.1) hn).trans (h.2 i hz hi hn)⟩
theorem Ld.vote_set{w:World}{z L B off cap k:Nat}{Q:Nat→Rq}{V:Nat→ByteArray}(h:Ld w z L B off cap Q V)(hk:k<3)(v:ByteArray):Ld (w.setCell ⟨L,1+k,none⟩ (.string v)) z L B off cap Q (jf V k v):=by
 refine⟨xd _ h.hL,xd _ h.hB,h.zl,h.zb,h.ne,(zY w L (1+k) 0 _ (by omega)).trans h.head,fun i hi=>?_,fun i hi=>(h.row i hi).block (heap_setCell_other w ⟨L,1+k,none⟩ B _ (fun e=>h.ne e.symm)),fun i hi=>(h.each i hi).next (MA w z L (1+k) _ _ (.inr rfl)) (fun _ _ e=>e)⟩
 by_cases e:i=k
 ·subst e;rw[tr];exact World.cell?_setCell_same' w _ _ (by rw[h.vote i hi];rfl)
 ·rw[vQ _ _ e,zY w L (1+k) (1+i) _ (by omega)];exact h.vote i hi
def xJ(w:World)(b o:Nat)(x0 x1 x2 x3 x4 x5 x6:Value):World:=
 ((((((w.setCell ⟨b,o,none⟩ x0).setCell ⟨b,o+1,none⟩ x1).setCell ⟨b,o+2,none⟩ x2).setCell ⟨b,o+3,none⟩ x3).setCell ⟨b,o+4,none⟩ x4).setCell ⟨b,o+5,none⟩ x5).setCell ⟨b,o+6,none⟩ x6
theorem vT(w:World)(b o p:Nat)(x0 x1 x2 x3 x4 x5 x6:Value)(h:p<o∨o+7≤p):(xJ w b o x0 x1 x2 x3 x4 x5 x6).cell? ⟨b,p,none⟩=w.cell? ⟨b,p,none⟩:=by
 unfold xJ
 rw[zY _ _ _ _ _ (by omega),zY _ _ _ _ _ (by omega),zY _ _ _ _ _ (by omega),zY _ _ _ _ _ (by omega),zY _ _ _ _ _ (by omega),zY _ _ _ _ _ (by omega),zY _ _ _ _ _ (by omega)]
theorem tZ(w:World)(b o k:Nat)(x0 x1 x2 x3 x4 x5 x6:Value)(h:k≠b):(xJ w b o x0 x1 x2 x3 x4 x5 x6).heap[k]? =w.heap[k]?:=by
 unfold xJ
 rw[heap_setCell_other _ ⟨b,o+6,none⟩ k _ h,heap_setCell_other _ ⟨b,o+5,none⟩ k _ h,heap_setCell_other _ ⟨b,o+4,none⟩ k _ h,heap_setCell_other _ ⟨b,o+3,none⟩ k _ h,heap_setCell_other _ ⟨b,o+2,none⟩ k _ h,heap_setCell_other _ ⟨b,o+1,none⟩ k _ h,heap_setCell_other _ ⟨b,o,none⟩ k _ h]
theorem gp(w:World)(b o:Nat)(x0 x1 x2 x3 x4 x5 x6:Value):(xJ w b o x0 x1 x2 x3 x4 x5 x6).heap.size=w.heap.size:=by simp[xJ]
theorem SU{w:World}{b o:Nat}{q0:Rq}(h:bY w b o q0)(q:Rq):bY (xJ w b o (.slice q.aS q.r.s.length q.cs) (.slice q.al q.r.l.length q.cl) (.int .i64 q.r.g) (.int .i64 q.r.ph) (.slice q.a1 q.r.m.length q.c1) (.slice q.a2 q.r.us.length q.c2) (.bool q.r.f)) b o q:=by
 obtain⟨h0,h1,h2,h3,h4,h5,h6⟩:=h
 have s0: ∀(W:World) (p:Nat) (v:Value),(W.cell? ⟨b,p,none⟩).isSome=true→(W.setCell ⟨b,p,none⟩ v).cell? ⟨b,p,none⟩=some v:=fun W p v hs=>World.cell?_setCell_same' W _ v hs
 unfold xJ
 constructor
 ·rw[zY _ _ _ _ _ (by omega),zY _ _ _ _ _ (by omega),zY _ _ _ _ _ (by omega),zY _ _ _ _ _ (by omega),zY _ _ _ _ _ (by omega),zY _ _ _ _ _ (by omega)]
  exact s0 _ _ _ (by rw[h0];rfl)
 ·rw[zY _ _ _ _ _ (by omega),zY _ _ _ _ _ (by omega),zY _ _ _ _ _ (by omega),zY _ _ _ _ _ (by omega),zY _ _ _ _ _ (by omega)]
  exact s0 _ _ _ (by rw[zY _ _ _ _ _ (by omega),h1];rfl)
 ·rw[zY _ _ _ _ _ (by omega),zY _ _ _ _ _ (by omega),zY _ _ _ _ _ (by omega),zY _ _ _ _ _ (by omega)]
  exact s0 _ _ _ (by rw[zY _ _ _ _ _ (by omega),zY _ _ _ _ _ (by omega),h2];rfl)
 ·rw[zY _ _ _ _ _ (by omega),zY _ _ _ _ _ (by omega),zY _ _ _ _ _ (by omega)]
  exact s0 _ _ _ (by rw[zY _ _ _ _ _ (by omega),zY _ _ _ _ _ (by omega),zY _ _ _ _ _ (by omega),h3];rfl)
 ·rw[zY _ _ _ _ _ (by omega),zY _ _ _ _ _ (by omega)]
  exact s0 _ _ _ (by rw[zY _ _ _ _ _ (by omega),zY _ _ _ _ _ (by omega),zY _ _ _ _ _ (by omega),zY _ _ _ _ _ (by omega),h4];rfl)
 ·rw[zY _ _ _ _ _ (by omega)]
  exact s0 _ _ _ (by rw[zY _ _ _ _ _ (by omega),zY _ _ _ _ _ (by omega),zY _ _ _ _ _ (by omega),zY _ _ _ _ _ (by omega),zY _ _ _ _ _ (by omega),h5];rfl)
 ·exact s0 _ _ _ (by rw[zY _ _ _ _ _ (by omega),zY _ _ _ _ _ (by omega),zY _ _ _ _ _ (by omega),zY _ _ _ _ _ (by omega),zY _ _ _ _ _ (by omega),zY _ _ _ _ _ (by omega),h6];rfl)
theorem ZG(w:World)(z b o:Nat)(x0 x1 x2 x3 x4 x5 x6:Value)(P:Nat→Prop)(h:P b):kI z P w (xJ w b o x0 x1 x2 x3 x4 x5 x6):=
 ⟨Nat.le_of_eq (gp _ _ _ _ _ _ _ _ _ _).symm,fun k _ _ hn=>tZ w b o k _ _ _ _ _ _ _ (fun e=>hn (by rw[e];exact h))⟩
theorem Ld.row_set{w:World}{z L B off cap k:Nat}{Q:Nat→Rq}{V:Nat→ByteArray}(h:Ld w z L B off cap Q V)(hk:k<3)(q:Rq)(hq:rQ w z (fun k=>k=B∨k=L) q):
  Ld (xJ w B (off+k*7) (.slice q.aS q.r.s.length q.cs) (.slice q.al q.r.l.length q.cl) (.int .i64 q.r.g) (.int .i64 q.r.ph) (.slice q.a1 q.r.m.length q.c1) (.slice q.a2 q.r.us.length q.c2) (.bool q.r.f)) z L B off cap (jf Q k q) V:=by
 have hl:=ZG w z B (off+k*7) (.slice q.aS q.r.s.length q.cs) (.slice q.al q.r.l.length q.cl) (.int .i64 q.r.g) (.int .i64 q.r.ph) (.slice q.a1 q.r.m.length q.c1) (.slice q.a2 q.r.us.length q.c2) (.bool q.r.f) (fun k=>k=B∨k=L) (.inl rfl)
 have hLb:=tZ w B (off+k*7) L (.slice q.aS q.r.s.length q.cs) (.slice q.al q.r.l.length q.cl) (.int .i64 q.r.g) (.int .i64 q.r.ph) (.slice q.a1 q.r.m.length q.c1) (.slice q.a2 q.r.us.length q.c2) (.bool q.r.f) h.ne
 refine⟨?_,?_,h.zl,h.zb,h.ne,(World.cell?_of_block (a:=⟨L,0,none⟩) hLb).trans h.head,fun i hi=>(World.cell?_of_block (a:=⟨L,1+i,none⟩) hLb).trans (h.vote i hi),fun i hi=>?_,fun i hi=>?_⟩
 ·obtain⟨c,e⟩:=h.hL;exact⟨c,hLb.trans e⟩
 ·unfold xJ
  exact xd _ (xd _ (xd _ (xd _ (xd _ (xd _ (xd _ h.hB))))))
 ·by_cases e:i=k
  ·subst e;rw[tr];exact SU (h.row i hi) q
  ·rw[vQ _ _ e]
   obtain⟨h0,h1,h2,h3,h4,h5,h6⟩:=h.row i hi
   constructor
   ·rw[vT _ _ _ _ _ _ _ _ _ _ _ (by omega)];exact h0
   ·rw[vT _ _ _ _ _ _ _ _ _ _ _ (by omega)];exact h1
   ·rw[vT _ _ _ _ _ _ _ _ _ _ _ (by omega)];exact h2
   ·rw[vT _ _ _ _ _ _ _ _ _ _ _ (by omega)];exact h3
   ·rw[vT _ _ _ _ _ _ _ _ _ _ _ (by omega)];exact h4
   ·rw[vT _ _ _ _ _ _ _ _ _ _ _ (by omega)];exact h5
   ·rw[vT _ _ _ _ _ _ _ _ _ _ _ (by omega)];exact h6
 ·by_cases e:i=k
  ·subst e;rw[tr];exact hq.next hl (fun _ _ e=>e)
  ·rw[vQ _ _ e];exact(h.each i hi).next hl (fun _ _ e=>e)
theorem pk{n:Nat}{w0 w:World}{b o:Nat}(x0 x1 x2 x3 x4 x5 x6:Value)(h:Below n w0 w)(hb:n≤b):Below n w0 (xJ w b o x0 x1 x2 x3 x4 x5 x6):=by
 unfold xJ
 exact((((((h.setCell hb _).setCell hb _).setCell hb _).setCell hb _).setCell hb _).setCell hb _).setCell hb _
def WE(B L:Nat)(w w':World):Prop:=w.heap.size≤w'.heap.size∧∀j,j<w.heap.size→j≠B→j≠L→w'.heap[j]? =w.heap[j]?
theorem WE.below{B L:Nat}{w w1 w2:World}(h:WE B L w w1)(hb:Below w1.heap.size w1 w2):WE B L w w2:=
 ⟨Nat.le_trans h.1 hb.size,fun j hj hn hm=>(hb.block j (Nat.lt_of_lt_of_le hj h.1)).trans (h.2 j hj hn hm)⟩
theorem WE.of{B L:Nat}{w w1:World}(hb:Below w.heap.size w w1):WE B L w w1:=⟨hb.size,fun j hj _ _=>hb.block j hj⟩
theorem WE.next{B L:Nat}{w w1 w2:World}(h:WE B L w w1)(hs:w1.heap.size≤w2.heap.size)(hk: ∀j,j<w1.heap.size→j≠B→j≠L→w2.heap[j]? =w1.heap[j]?):WE B L w w2:=
 ⟨Nat.le_trans h.1 hs,fun j hj hn hm=>(hk j (Nat.lt_of_lt_of_le hj h.1) hn hm).trans (h.2 j hj hn hm)⟩
def qr(up:Int)(r:Rp)(i:Nat):Bool:=aV up i&&(r.ph==0)
def n9(m:List Ob)(us:List Up)(f:Bool)(up:Int)(r:Rp)(i:Nat):Rp:=if qr up r i=true then⟨r.s,r.l,r.g,2,m,us,f⟩else r
def eA(m:List Ob)(us:List Up)(f:Bool)(up:Int)(r:Rp)(i:Nat):ByteArray:=if qr up r i=true then yY r.s r.l r.g m us f else yJ
theorem jx{s:List Ob}{l:List Rf}{g ph:Int}{m:List Ob}{us:List Up}{f:Bool}{m2:List Ob}{us2:List Up}{f2:Bool}{n:Int}(h:xA s l g ph m us f=0)(hp:zr m2 us2=0)(hn:1≤n∧n≤2):xA s l g n m2 us2 f2=0:=by
 obtain⟨h1,h2,_⟩:=tY.1 h
 exact tY.2 ⟨h1,h2,by omega,fun _=>hp,fun e=>by omega⟩
theorem Ld.same{w:World}{z L B off cap:Nat}{Q:Nat→Rq}{V V':Nat→ByteArray}(h:Ld w z L B off cap Q V)(e: ∀i,i<3→V i=V' i):Ld w z L B off cap Q V':=
 ⟨h.hL,h.hB,h.zl,h.zb,h.ne,h.head,fun i hi=>by rw[←e i hi];exact h.vote i hi,h.row,h.each⟩
theorem JJ(w0:World)(L B off cap:Nat)(Q:Nat→Rq)(am:Option Addr)(cm:Nat)(m:List Ob)(au:Option Addr)(cu:Nat)(us:List Up)(f:Bool)(up:Int)(w:World)(hg:xr w0)(ht:bP w0)
  (hm:zP w0 am m) (hu:zx w0 au us) (hp:zr m us=0) (GP:0≤up) (eM:up<8) (hE: ∀i,i<3→(Q i).r.err=0) (sP:Below w0.heap.size w0 w) (hd:Ld w w0.heap.size L B off cap Q (fun _=>yJ)):
  Calls Tryz.prog 45 #[.pointer (some ⟨L,0,none⟩),uw am m.length cm au us.length cu f,.int .i64 up] w fun e w'=>e= .returned (.int .i64 0)∧Below w0.heap.size w0 w'∧WE B L w w'∧∃Q',Ld w' w0.heap.size L B off cap Q' (fun i=>eA m us f up (Q i).r i)∧∀i,i<3→(Q' i).r=n9 m us f up (Q i).r i:=by
 have hml:m.length≤12:=(sL.1 hp).1
 have hul:us.length≤4:=(ve.1 (sL.1 hp).2.2).2.1
 have hA:=zB w (.cells #[.slice am m.length cm,.slice au us.length cu,.bool f] 28)
 have xa:=heap_alloc_new w (.cells #[.slice am m.length cm,.slice au us.length cu,.bool f] 28)
 have hdA:=hd.below hA
 have hbA:=bt sP hA
 have hLw:=hd.ltL
 have qM:=hd.ltB
 have yh:=hdA.head
 have HKA:WE B L w (w.alloc (.cells #[.slice am m.length cm,.slice au us.length cu,.bool f] 28)):=WE.of hA
 have HPU:Hid (zr m us=0):=hp
 clear hp sP hd hA
 go_enter Tryz.func45,Tryz.ntmps45
 go_wp2_with fail
 generalize w.alloc (.cells #[.slice am m.length cm,.slice au us.length cu,.bool f] 28)=W0 at *
 go_loopw [17] (fun i wr=>∃(k:Nat) (Qk:Nat→Rq) (Vk:Nat→ByteArray),i= .int .i64 k∧k≤3∧Below w0.heap.size w0 wr∧WE B L w wr∧Ld wr w0.heap.size L B off cap Qk Vk∧wr.heap[w.heap.size]? =some (.cells #[.slice am m.length cm,.slice au us.length cu,.bool f] 28)∧Hid (∀i,i<3→i<k→(Qk i).r=n9 m us f up (Q i).r i∧Vk i=eA m us f up (Q i).r i)∧Hid (∀i,i<3→k≤i→Qk i=Q i∧Vk i=yJ)) (fun i _=>3-(intOf i).toNat)
 case atStart=>exact⟨0,Q,_,rfl,Nat.zero_le _,hbA,HKA,hdA,xa,fun i _ h=>absurd h (Nat.not_lt_zero _),fun i _ _=>⟨rfl,rfl⟩⟩
 case round=>
  clear hdA hbA yh xa HKA
  obtain⟨k,Qk,Vk,rfl,hk,HB,HK,HL,kp,HI,HJ⟩:=hrel
  by_cases zN:k<3
  ·have vg:(k:Int)<3:=by omega
   obtain⟨x0,x1,x2,x3,x4,x5,x6⟩:=HL.row k zN
   have HQ:Hid (Qk k=Q k∧Vk k=yJ):=HJ.out k zN (Nat.le_refl _)
   have Gf:Hid ((Qk k).r.err=0):=by have:=hE k zN;unfold Hid;rw[HQ.out.1];exact this
   have hA:=zB wr (Qk k).blk
   have Y7:=heap_alloc_new wr (Qk k).blk
   have X5:=bt HB hA
   have U5:=HL.below hA
   have XD:=HK.below hA
   have kp1:=zA5 hA kp
   obtain⟨z0,z1,z2,z3,z4,z5,z6⟩:=zI Y7
   have pM:=bN up k (wr.alloc (Qk k).blk) GP eM zN
   obtain⟨bb,HBB⟩: ∃b,Hid (aV up k=b):=⟨_,rfl⟩
   rw[HBB.out]at pM
   have hkw:w.heap.size<wr.heap.size:=zG kp
   clear HL HB HK kp hA
   go_wp2_with fail
   generalize wr.alloc (Qk k).blk=W at *
   refine pM.mono ?_
   clear pM
   rintro e W1 ⟨rfl,zM⟩
   have pv:=bt X5 zM
   have j9:=U5.below zM
   have PW:=XD.below zM
   have TU:=zA5 zM kp1
   have Jp:=zA5 zM Y7
   clear zM X5 U5 XD kp1 Y7 x0 x1 x2 x3 x4 x5 x6 z0 z1 z2 z3 z4 z5 z6
   have pP:Hid (qr up (Q k).r k=false→∀(W':World),Below w0.heap.size w0 W'→WE B L w W'→Ld W' w0.heap.size L B off cap Qk Vk→W'.heap[w.heap.size]? =some (.cells #[.slice am m.length cm,.slice au us.length cu,.bool f] 28)→∃(k':Nat) (Qk':Nat→Rq) (Vk':Nat→ByteArray),Value.int .i64 ((k:Int)+1)= .int .i64 k'∧k'≤3∧Below w0.heap.size w0 W'∧WE B L w W'∧Ld W' w0.heap.size L B off cap Qk' Vk'∧W'.heap[w.heap.size]? =some (.cells #[.slice am m.length cm,.slice au us.length cu,.bool f] 28)∧Hid (∀i,i<3→i<k'→(Qk' i).r=n9 m us f up (Q i).r i∧Vk' i=eA m us f up (Q i).r i)∧Hid (∀i,i<3→k'≤i→Qk' i=Q i∧Vk' i=yJ)):=by
    intro pQ W' q1 qk q2 q3
    refine⟨k+1,Qk,Vk,by simp,by omega,q1,qk,q2,q3,fun i hi eB=>?_,fun i hi eB=>HJ.out i hi (by omega)⟩
    by_cases e:i=k
    ·subst e
     rw[HQ.out.1,HQ.out.2]
     unfold n9 eA
     rw[pQ];exact⟨rfl,rfl⟩
    ·exact HI.out i hi (by omega)
   cases bb with
   |false=>
    have EB:Hid (qr up (Q k).r k=false):=by unfold Hid qr;rw[HBB.out];rfl
    go_wp2
    go_roundw
    case rel=>exact pP.out EB.out _ pv PW j9 TU
    case measure=>simp[intOf];omega
   |true=>
   obtain⟨z0,z1,z2,z3,z4,z5,z6⟩:=zI Jp
   by_cases KV:(Qk k).r.ph=0
   case neg=>
    have EB:Hid (qr up (Q k).r k=false):=by unfold Hid qr;rw[←HQ.out.1,HBB.out];simpa using KV
    have yM:((Qk k).r.ph != 0)=true:=by simpa using KV
    go_wp2
    go_roundw
    case rel=>exact pP.out EB.out _ pv PW j9 TU
    case measure=>simp[intOf];omega
   have HA1:Hid (qr up (Q k).r k=true):=by unfold Hid qr;rw[←HQ.out.1,HBB.out];simpa using KV
   have yM:((Qk k).r.ph != 0)=false:=by simpa using KV
   have y0:W1.cell? ⟨w.heap.size,0,none⟩=some (.slice am m.length cm):=by rw[cell_of_row _ _ _ _ _ _ TU];rfl
   have y1:W1.cell? ⟨w.heap.size,1,none⟩=some (.slice au us.length cu):=by rw[cell_of_row _ _ _ _ _ _ TU];rfl
   have y2:W1.cell? ⟨w.heap.size,2,none⟩=some (.bool f):=by rw[cell_of_row _ _ _ _ _ _ TU];rfl
   have Ro:Hid (tz (Qk k).r.s (Qk k).r.l (Qk k).r.g (Qk k).r.ph (Qk k).r.m (Qk k).r.us (Qk k).r.f m us=0):=by
    unfold Hid tz
    rw[if_neg (fun e=>e (tF.2 ⟨Gf.out,KV⟩))];exact HPU.out
   have mP:=VX (Qk k).aS (Qk k).cs (Qk k).r.s (Qk k).al (Qk k).cl (Qk k).r.l (Qk k).r.g (Qk k).r.ph (Qk k).a1 (Qk k).c1 (Qk k).r.m (Qk k).a2 (Qk k).c2 (Qk k).r.us (Qk k).r.f am cm m au cu us f W1 (hg.below pv) (j9.each k zN).self (hm.below pv) (by omega) (hu.below pv) (by omega)
   clear pP KV
   go_wp2_with fail
   refine mP.mono ?_
   clear mP
   rintro e W2 ⟨zZ,xK⟩
   rcases xK with⟨KD,-⟩|⟨-,b0,d0,b1,d1,b2,d2,b3,d3,rfl,F2⟩
   ·exact absurd Ro.out KD
   have na:=bt pv zZ
   have nJ:=j9.below zZ
   have Eu:=PW.below zZ
   have bw:=zA5 zZ TU
   have uM:=zB W2 (RB b0 d0 (Qk k).r.s b1 d1 (Qk k).r.l (Qk k).r.g 1 b2 d2 m b3 d3 us f)
   have Cp:=heap_alloc_new W2 (RB b0 d0 (Qk k).r.s b1 d1 (Qk k).r.l (Qk k).r.g 1 b2 d2 m b3 d3 us f)
   have Nu:=bt na uM
   have Ln:=nJ.below uM
   have HK4:=Eu.below uM
   have uk:=zA5 uM bw
   have F4:=F2.below uM
   have XC:w.heap.size<W2.heap.size:=zG bw
   clear zZ pv j9 PW TU Jp na nJ Eu bw F2 uM z0 z1 z2 z3 z4 z5 z6 y0 y1 y2 yM Ro
   go_upto_region 8 with fail
   generalize W2.alloc (RB b0 d0 (Qk k).r.s b1 d1 (Qk k).r.l (Qk k).r.g 1 b2 d2 m b3 d3 us f)=W3 at *
   have xF:=(Below.refl W3.heap.size W3).drew
   have dA:=bt Nu xF
   have Ml:=Ln.below xF
   have HKD:=HK4.below xF
   have kpD:W3.drew.heap[w.heap.size]? =some (.cells #[.slice am m.length cm,.slice au us.length cu,.bool f] 28):=uk
   have E8:W3.drew.heap[W2.heap.size]? =some (RB b0 d0 (Qk k).r.s b1 d1 (Qk k).r.l (Qk k).r.g 1 b2 d2 m b3 d3 us f):=Cp
   have FD:=F4.below xF
   have tw:W3.drew.cell? ⟨L,0,none⟩=some (.slice (some ⟨B,off,none⟩) 3 cap)∧(W3.drew.cell? ⟨W2.heap.size,0,none⟩=some (.slice b0 (Qk k).r.s.length d0)∧W3.drew.cell? ⟨W2.heap.size,1,none⟩=some (.slice b1 (Qk k).r.l.length d1)∧W3.drew.cell? ⟨W2.heap.size,2,none⟩=some (.int .i64 (Qk k).r.g)∧W3.drew.cell? ⟨W2.heap.size,3,none⟩=some (.int .i64 1)∧W3.drew.cell? ⟨W2.heap.size,4,none⟩=some (.slice b2 m.length d2)∧W3.drew.cell? ⟨W2.heap.size,5,none⟩=some (.slice b3 us.length d3)∧W3.drew.cell? ⟨W2.heap.size,6,none⟩=some (.bool f)):=⟨Ml.head,zI E8⟩
   refine zS (fun W=>W.cell? ⟨L,0,none⟩=some (.slice (some ⟨B,off,none⟩) 3 cap)∧(W.cell? ⟨W2.heap.size,0,none⟩=some (.slice b0 (Qk k).r.s.length d0)∧W.cell? ⟨W2.heap.size,1,none⟩=some (.slice b1 (Qk k).r.l.length d1)∧W.cell? ⟨W2.heap.size,2,none⟩=some (.int .i64 (Qk k).r.g)∧W.cell? ⟨W2.heap.size,3,none⟩=some (.int .i64 1)∧W.cell? ⟨W2.heap.size,4,none⟩=some (.slice b2 m.length d2)∧W.cell? ⟨W2.heap.size,5,none⟩=some (.slice b3 us.length d3)∧W.cell? ⟨W2.heap.size,6,none⟩=some (.bool f))) (fun _=>false) (by kernel_rfl) tw (fun hS=>?_)
   generalize W3.drew=W4 at *
   clear tw xF Nu Ln HK4 uk Cp F4
   refine zAA 0 ?_ rfl ?_ ?_;rotate_left
   ·intro w zD;obtain⟨s0,r0,r1,r2,r3,r4,r5,r6⟩:=zD;go_simp;rfl
   try simp only[tn]
   refine zAA 1 ?_ rfl ?_ ?_;rotate_left
   ·intro w zD;obtain⟨s0,r0,r1,r2,r3,r4,r5,r6⟩:=zD;go_simp;rfl
   try simp only[tn]
   refine zAA 2 ?_ rfl ?_ ?_;rotate_left
   ·intro w zD;obtain⟨s0,r0,r1,r2,r3,r4,r5,r6⟩:=zD;go_simp;rfl
   try simp only[tn]
   refine zAA 3 ?_ rfl ?_ ?_;rotate_left
   ·intro w zD;obtain⟨s0,r0,r1,r2,r3,r4,r5,r6⟩:=zD;go_simp;rfl
   try simp only[tn]
   refine zAA 4 ?_ rfl ?_ ?_;rotate_left
   ·intro w zD;obtain⟨s0,r0,r1,r2,r3,r4,r5,r6⟩:=zD;go_simp;rfl
   try simp only[tn]
   refine zAA 5 ?_ rfl ?_ ?_;rotate_left
   ·intro w zD;obtain⟨s0,r0,r1,r2,r3,r4,r5,r6⟩:=zD;go_simp;rfl
   try simp only[tn]
   refine zAA 6 ?_ rfl ?_ ?_;rotate_left
   ·intro w zD;obtain⟨s0,r0,r1,r2,r3,r4,r5,r6⟩:=zD;go_simp;rfl
   try simp only[tn]
   refine zAA 7 ?_ rfl ?_ ?_;rotate_left
   ·intro w zD;obtain⟨s0,r0,r1,r2,r3,r4,r5,r6⟩:=zD;go_simp;rfl
   try simp only[tn]
   refine zAA 8 ?_ rfl ?_ ?_;rotate_left
   ·intro w zD;obtain⟨s0,r0,r1,r2,r3,r4,r5,r6⟩:=zD;go_simp;rfl
   try simp only[tn]
   refine zAA 16 ?_ rfl ?_ ?_;rotate_left
   ·intro w zD;obtain⟨s0,r0,r1,r2,r3,r4,r5,r6⟩:=zD;go_simp;rfl
   try simp only[tn]
   refine zAA 17 ?_ rfl ?_ ?_;rotate_left
   ·intro w zD;obtain⟨s0,r0,r1,r2,r3,r4,r5,r6⟩:=zD;go_simp;rfl
   try simp only[tn]
   refine zAC 9 rfl fun K hK=>?_
   go_simp
   refine(M1 b0 d0 (Qk k).r.s b1 d1 (Qk k).r.l (Qk k).r.g 1 b2 d2 m b3 d3 us f W4 (hg.below dA) (ht.below dA) FD.h).mono ?_
   rintro e W5 ⟨xu,xK⟩
   have HVE:Hid (bQ (Qk k).r.s (Qk k).r.l (Qk k).r.g 1 m us f 1=0):=tF.2 ⟨jx Gf.out HPU.out (by omega),rfl⟩
   rcases xK with⟨KD,-⟩|⟨-,e0,g0,e1,g1,e2,g2,e3,g3,rfl,F5⟩
   ·exact absurd HVE.out KD
   have GA:=bt dA xu
   have CB:=Ml.below xu
   have Bm:=HKD.below xu
   have Fd:=zA5 xu kpD
   have kn5:=zA5 xu E8
   have Y8:W5.cell? ⟨L,0,none⟩=some (.slice (some ⟨B,off,none⟩) 3 cap)∧(W5.cell? ⟨W2.heap.size,0,none⟩=some (.slice b0 (Qk k).r.s.length d0)∧W5.cell? ⟨W2.heap.size,1,none⟩=some (.slice b1 (Qk k).r.l.length d1)∧W5.cell? ⟨W2.heap.size,2,none⟩=some (.int .i64 (Qk k).r.g)∧W5.cell? ⟨W2.heap.size,3,none⟩=some (.int .i64 1)∧W5.cell? ⟨W2.heap.size,4,none⟩=some (.slice b2 m.length d2)∧W5.cell? ⟨W2.heap.size,5,none⟩=some (.slice b3 us.length d3)∧W5.cell? ⟨W2.heap.size,6,none⟩=some (.bool f)):=⟨CB.head,zI kn5⟩
   have G4:=Ml.ltL
   have xZ:=Ml.ltB
   have h04:w0.heap.size≤W4.heap.size:=dA.size
   have JH:rQ W5 w0.heap.size (fun j=>j=B∨j=L) ⟨⟨(Qk k).r.s,(Qk k).r.l,(Qk k).r.g,2,m,us,f⟩,e0,g0,e1,g1,e2,g2,e3,g3⟩:=rQ.fresh (z':=W4.heap.size) F5 h04 (fun j hj=>by rcases hj with rfl|rfl<;>assumption)
   refine hK _ _ (fun _=>Y8) ?_
   clear hK K hS xu dA Ml HKD kpD E8 FD F5
   try simp only[tn]
   refine zAA 10 ?_ rfl ?_ ?_;rotate_left
   ·intro w zD;obtain⟨s0,r0,r1,r2,r3,r4,r5,r6⟩:=zD;go_simp;rfl
   try simp only[tn]
   refine zAA 11 ?_ rfl ?_ ?_;rotate_left
   ·intro w zD;obtain⟨s0,r0,r1,r2,r3,r4,r5,r6⟩:=zD;go_simp;rfl
   try simp only[tn]
   refine zAA 12 ?_ rfl ?_ ?_;rotate_left
   ·intro w zD;obtain⟨s0,r0,r1,r2,r3,r4,r5,r6⟩:=zD;go_simp;rfl
   try simp only[tn]
   refine zAA 13 ?_ rfl ?_ ?_;rotate_left
   ·intro w zD;obtain⟨s0,r0,r1,r2,r3,r4,r5,r6⟩:=zD;go_simp;rfl
   try simp only[tn]
   refine zAA 14 ?_ rfl ?_ ?_;rotate_left
   ·intro w zD;obtain⟨s0,r0,r1,r2,r3,r4,r5,r6⟩:=zD;go_simp;rfl
   try simp only[tn]
   refine zAC 15 rfl fun K hK=>?_
   obtain⟨u0,u1,u2,u3,u4,u5,u6⟩:=CB.row k zN
   obtain⟨cb,nv⟩:=CB.hB
   have Ep:=zF (o:=off+k*7) nv
   have DC:=zF (o:=off+k*7+1) nv
   have Fb:=zF (o:=off+k*7+2) nv
   have DF:=zF (o:=off+k*7+3) nv
   have Fq:=zF (o:=off+k*7+4) nv
   have Gp:=zF (o:=off+k*7+5) nv
   have F0:=zF (o:=off+k*7+6) nv
   have bs:=CB.row_set zN _ JH
   have gC:Below w0.heap.size w0 (xJ W5 B (off+k*7) (.slice e0 (Qk k).r.s.length g0) (.slice e1 (Qk k).r.l.length g1) (.int .i64 (Qk k).r.g) (.int .i64 2) (.slice e2 m.length g2) (.slice e3 us.length g3) (.bool f)):=pk _ _ _ _ _ _ _ GA CB.zb
   have Dz:WE B L w (xJ W5 B (off+k*7) (.slice e0 (Qk k).r.s.length g0) (.slice e1 (Qk k).r.l.length g1) (.int .i64 (Qk k).r.g) (.int .i64 2) (.slice e2 m.length g2) (.slice e3 us.length g3) (.bool f)):=Bm.next (Nat.le_of_eq (gp _ _ _ _ _ _ _ _ _ _).symm) (fun j _ hn _=>tZ W5 B (off+k*7) j _ _ _ _ _ _ _ hn)
   have hwB:w.heap.size≠B:=by omega
   have hwL:w.heap.size≠L:=by omega
   have kp6:(xJ W5 B (off+k*7) (.slice e0 (Qk k).r.s.length g0) (.slice e1 (Qk k).r.l.length g1) (.int .i64 (Qk k).r.g) (.int .i64 2) (.slice e2 m.length g2) (.slice e3 us.length g3) (.bool f)).heap[w.heap.size]? =some (.cells #[.slice am m.length cm,.slice au us.length cu,.bool f] 28):=(tZ W5 B (off+k*7) w.heap.size _ _ _ _ _ _ _ hwB).trans Fd
   have zj:W2.heap.size≠B:=by omega
   have kn6:(xJ W5 B (off+k*7) (.slice e0 (Qk k).r.s.length g0) (.slice e1 (Qk k).r.l.length g1) (.int .i64 (Qk k).r.g) (.int .i64 2) (.slice e2 m.length g2) (.slice e3 us.length g3) (.bool f)).heap[W2.heap.size]? =some (RB b0 d0 (Qk k).r.s b1 d1 (Qk k).r.l (Qk k).r.g 1 b2 d2 m b3 d3 us f):=(tZ W5 B (off+k*7) W2.heap.size _ _ _ _ _ _ _ zj).trans kn5
   have Zi:(xJ W5 B (off+k*7) (.slice e0 (Qk k).r.s.length g0) (.slice e1 (Qk k).r.l.length g1) (.int .i64 (Qk k).r.g) (.int .i64 2) (.slice e2 m.length g2) (.slice e3 us.length g3) (.bool f)).cell? ⟨L,0,none⟩=some (.slice (some ⟨B,off,none⟩) 3 cap)∧((xJ W5 B (off+k*7) (.slice e0 (Qk k).r.s.length g0) (.slice e1 (Qk k).r.l.length g1) (.int .i64 (Qk k).r.g) (.int .i64 2) (.slice e2 m.length g2) (.slice e3 us.length g3) (.bool f)).cell? ⟨W2.heap.size,0,none⟩=some (.slice b0 (Qk k).r.s.length d0)∧(xJ W5 B (off+k*7) (.slice e0 (Qk k).r.s.length g0) (.slice e1 (Qk k).r.l.length g1) (.int .i64 (Qk k).r.g) (.int .i64 2) (.slice e2 m.length g2) (.slice e3 us.length g3) (.bool f)).cell? ⟨W2.heap.size,1,none⟩=some (.slice b1 (Qk k).r.l.length d1)∧(xJ W5 B (off+k*7) (.slice e0 (Qk k).r.s.length g0) (.slice e1 (Qk k).r.l.length g1) (.int .i64 (Qk k).r.g) (.int .i64 2) (.slice e2 m.length g2) (.slice e3 us.length g3) (.bool f)).cell? ⟨W2.heap.size,2,none⟩=some (.int .i64 (Qk k).r.g)∧(xJ W5 B (off+k*7) (.slice e0 (Qk k).r.s.length g0) (.slice e1 (Qk k).r.l.length g1) (.int .i64 (Qk k).r.g) (.int .i64 2) (.slice e2 m.length g2) (.slice e3 us.length g3) (.bool f)).cell? ⟨W2.heap.size,3,none⟩=some (.int .i64 1)∧(xJ W5 B (off+k*7) (.slice e0 (Qk k).r.s.length g0) (.slice e1 (Qk k).r.l.length g1) (.int .i64 (Qk k).r.g) (.int .i64 2) (.slice e2 m.length g2) (.slice e3 us.length g3) (.bool f)).cell? ⟨W2.heap.size,4,none⟩=some (.slice b2 m.length d2)∧(xJ W5 B (off+k*7) (.slice e0 (Qk k).r.s.length g0) (.slice e1 (Qk k).r.l.length g1) (.int .i64 (Qk k).r.g) (.int .i64 2) (.slice e2 m.length g2) (.slice e3 us.length g3) (.bool f)).cell? ⟨W2.heap.size,5,none⟩=some (.slice b3 us.length d3)∧(xJ W5 B (off+k*7) (.slice e0 (Qk k).r.s.length g0) (.slice e1 (Qk k).r.l.length g1) (.int .i64 (Qk k).r.g) (.int .i64 2) (.slice e2 m.length g2) (.slice e3 us.length g3) (.bool f)).cell? ⟨W2.heap.size,6,none⟩=some (.bool f)):=⟨bs.head,zI kn6⟩
   go_simp
   refine hK _ _ (fun _=>Zi) ?_
   clear hK K
   try simp only[tn]
   generalize hW6:(xJ W5 B (off+k*7) (.slice e0 (Qk k).r.s.length g0) (.slice e1 (Qk k).r.l.length g1) (.int .i64 (Qk k).r.g) (.int .i64 2) (.slice e2 m.length g2) (.slice e3 us.length g3) (.bool f))=W6 at bs gC Dz kp6 kn6 Zi
   unfold xJ at hW6
   rw[hW6]
   clear hW6 u0 u1 u2 u3 u4 u5 u6 Ep DC Fb DF Fq Gp F0 nv CB GA Bm Fd kn5 Y8 JH
   refine zAA 18 ?_ rfl ?_ ?_;rotate_left
   ·intro w zD;obtain⟨s0,r0,r1,r2,r3,r4,r5,r6⟩:=zD;go_simp;rfl
   try simp only[tn]
   refine zAC 19 rfl fun K hK=>?_
   have v0:=bs.vote k zN
   obtain⟨cl,kl6⟩:=bs.hL
   have fl:=zF (o:=1+k) kl6
   have HL7:=bs.vote_set zN (yY (Qk k).r.s (Qk k).r.l (Qk k).r.g m us f)
   have HB7:Below w0.heap.size w0 (W6.setCell ⟨L,1+k,none⟩ (.string (yY (Qk k).r.s (Qk k).r.l (Qk k).r.g m us f))):=gC.setCell bs.zl _
   have HK7:WE B L w (W6.setCell ⟨L,1+k,none⟩ (.string (yY (Qk k).r.s (Qk k).r.l (Qk k).r.g m us f))):=Dz.next (yX _ _ _) (fun j _ _ hm=>heap_setCell_other W6 ⟨L,1+k,none⟩ j _ hm)
   have Kg:=(heap_setCell_other W6 ⟨L,1+k,none⟩ w.heap.size (.string (yY (Qk k).r.s (Qk k).r.l (Qk k).r.g m us f)) hwL).trans kp6
   have CC:W2.heap.size≠L:=by omega
   have kn7:=(heap_setCell_other W6 ⟨L,1+k,none⟩ W2.heap.size (.string (yY (Qk k).r.s (Qk k).r.l (Qk k).r.g m us f)) CC).trans kn6
   have hS7:(W6.setCell ⟨L,1+k,none⟩ (.string (yY (Qk k).r.s (Qk k).r.l (Qk k).r.g m us f))).cell? ⟨L,0,none⟩=some (.slice (some ⟨B,off,none⟩) 3 cap)∧((W6.setCell ⟨L,1+k,none⟩ (.string (yY (Qk k).r.s (Qk k).r.l (Qk k).r.g m us f))).cell? ⟨W2.heap.size,0,none⟩=some (.slice b0 (Qk k).r.s.length d0)∧(W6.setCell ⟨L,1+k,none⟩ (.string (yY (Qk k).r.s (Qk k).r.l (Qk k).r.g m us f))).cell? ⟨W2.heap.size,1,none⟩=some (.slice b1 (Qk k).r.l.length d1)∧(W6.setCell ⟨L,1+k,none⟩ (.string (yY (Qk k).r.s (Qk k).r.l (Qk k).r.g m us f))).cell? ⟨W2.heap.size,2,none⟩=some (.int .i64 (Qk k).r.g)∧(W6.setCell ⟨L,1+k,none⟩ (.string (yY (Qk k).r.s (Qk k).r.l (Qk k).r.g m us f))).cell? ⟨W2.heap.size,3,none⟩=some (.int .i64 1)∧(W6.setCell ⟨L,1+k,none⟩ (.string (yY (Qk k).r.s (Qk k).r.l (Qk k).r.g m us f))).cell? ⟨W2.heap.size,4,none⟩=some (.slice b2 m.length d2)∧(W6.setCell ⟨L,1+k,none⟩ (.string (yY (Qk k).r.s (Qk k).r.l (Qk k).r.g m us f))).cell? ⟨W2.heap.size,5,none⟩=some (.slice b3 us.length d3)∧(W6.setCell ⟨L,1+k,none⟩ (.string (yY (Qk k).r.s (Qk k).r.l (Qk k).r.g m us f))).cell? ⟨W2.heap.size,6,none⟩=some (.bool f)):=⟨HL7.head,zI kn7⟩
   go_simp
   refine hK _ _ (fun _=>hS7) ?_
   clear hK K
   try simp only[tn]
   refine zAC 20 rfl fun K hK=>?_
   go_simp
   refine hK _ _ (fun _=>hS7) ?_
   clear hK K
   try simp only[tn]
   refine zAE ?_
   have HI':Hid (∀i,i<3→i<k+1→(jf Qk k ⟨⟨(Qk k).r.s,(Qk k).r.l,(Qk k).r.g,2,m,us,f⟩,e0,g0,e1,g1,e2,g2,e3,g3⟩ i).r=n9 m us f up (Q i).r i∧jf Vk k (yY (Qk k).r.s (Qk k).r.l (Qk k).r.g m us f) i=eA m us f up (Q i).r i):=fun i hi eB=>by
    by_cases e:i=k
    ·subst e
     rw[tr,tr,HQ.out.1]
     unfold n9 eA
     rw[HA1.out];exact⟨rfl,rfl⟩
    ·rw[vQ _ _ e,vQ _ _ e];exact HI.out i hi (by omega)
   have HJ':Hid (∀i,i<3→k+1≤i→jf Qk k ⟨⟨(Qk k).r.s,(Qk k).r.l,(Qk k).r.g,2,m,us,f⟩,e0,g0,e1,g1,e2,g2,e3,g3⟩ i=Q i∧jf Vk k (yY (Qk k).r.s (Qk k).r.l (Qk k).r.g m us f) i=yJ):=fun i hi eB=>by
    rw[vQ _ _ (by omega:i≠k),vQ _ _ (by omega:i≠k)];exact HJ.out i hi (by omega)
   generalize hW7:W6.setCell ⟨L,1+k,none⟩ (.string (yY (Qk k).r.s (Qk k).r.l (Qk k).r.g m us f))=W7 at *
   clear Zi hS7 kn7 kn6 kp6 gC bs Dz fl v0 HI HJ
   go_wp2
   go_roundw
   case rel=>exact⟨k+1,_,_,by go_num,by omega,HB7,HK7,HL7,Kg,HI',HJ'⟩
   case measure=>simp[intOf];omega
  ·have tv:k=3:=by omega
   subst tv
   have HF:Hid (Below w0.heap.size w0 wr∧WE B L w wr∧∃Q',Ld wr w0.heap.size L B off cap Q' (fun i=>eA m us f up (Q i).r i)∧∀i,i<3→(Q' i).r=n9 m us f up (Q i).r i):=⟨HB,HK,Qk,HL.same (fun i hi=>(HI.out i hi hi).2),fun i hi=>(HI.out i hi hi).1⟩
   clear HI HJ HB HL HK kp
   go_wp2
   go_ret
   exact⟨rfl,HF.out⟩
theorem zU(w:World):Below w.heap.size w w.drew:=(Below.refl _ _).drew
def nx(won:Bool)(v said:ByteArray)(late:Int)(i:Nat):Bool:=won&&(v.toList==said.toList)&&!aV late i
def fg(r:Rp)(v:ByteArray)(c:Bool):Rp:=if v.toList.isEmpty=true then r else⟨ti r.s r.m c,tW r.l r.us c,td r.g c,0,[],[],false⟩
def qo(r:Rp)(v:ByteArray)(c:Bool):Int:=if v.toList.isEmpty=true then 0 else uH r.s r.l r.g r.ph r.m r.us r.f c
def km(g:Nat→Int):Int:=if g 0≠0 then g 0 else if g 1≠0 then g 1 else g 2
theorem Ks{g:Nat→Int}{k:Nat}(hk:k<3)(h: ∀i,i<k→g i=0)(hn:g k≠0):km g=g k:=by
 unfold km
 have:k=0∨k=1∨k=2:=by omega
 rcases this with rfl|rfl|rfl
 ·rw[if_pos hn]
 ·rw[if_neg (fun e=>e (h 0 (by omega))),if_pos hn]
 ·rw[if_neg (fun e=>e (h 0 (by omega))),if_neg (fun e=>e (h 1 (by omega)))]
theorem Zp{g:Nat→Int}:km g=0↔∀i,i<3→g i=0:=by
 constructor
 ·intro h i hi
  refine Classical.byContradiction fun hn=>?_
  have:i=0∨i=1∨i=2:=by omega
  unfold km at h
  rcases this with rfl|rfl|rfl
  ·rw[if_pos hn]at h;exact hn h
  ·split at h
   ·rename_i q;exact q h
   ·first|exact hn h|(rw[if_pos hn]at h;exact hn h)
  ·split at h
   ·rename_i q;exact q h
   ·split at h
    ·rename_i q;exact q h
    ·exact hn h
 ·intro h;unfold km;rw[if_neg (fun e=>e (h 0 (by omega))),if_neg (fun e=>e (h 1 (by omega)))];exact h 2 (by omega)
theorem Qr(i:Nat)(hi:i<3)(pw pl ps pt L:Nat)(won:Bool)(said v:ByteArray)(late:Int)(w:World)(Dx:0≤late)(TT:late<8)
  (kw:w.heap[pw]? =some (.cells #[.bool won] 4)) (kl:w.heap[pl]? =some (.cells #[.pointer (some ⟨L,0,none⟩)] 85)) (ks:w.heap[ps]? =some (.cells #[.string said] 9)) (kt:w.heap[pt]? =some (.cells #[.int .i64 late] 3)) (hL:L<w.heap.size) (kv:w.cell? ⟨L,1+i,none⟩=some (.string v)):
  Calls Tryz.prog 47 #[.int .i64 i,.pointer (some ⟨pw,0,none⟩),.pointer (some ⟨pl,0,none⟩),.pointer (some ⟨ps,0,none⟩),.pointer (some ⟨pt,0,none⟩)] w fun e w'=>e= .returned (.bool (nx won v said late i))∧Below w.heap.size w w':=by
 have Y5:(i:Int)<3:=by omega
 have y0:w.cell? ⟨pw,0,none⟩=some (.bool won):=by rw[cell_of_row _ _ _ _ _ _ kw];rfl
 have y1:w.cell? ⟨pl,0,none⟩=some (.pointer (some ⟨L,0,none⟩)):=by rw[cell_of_row _ _ _ _ _ _ kl];rfl
 have y2:w.cell? ⟨ps,0,none⟩=some (.string said):=by rw[cell_of_row _ _ _ _ _ _ ks];rfl
 have y3:w.cell? ⟨pt,0,none⟩=some (.int .i64 late):=by rw[cell_of_row _ _ _ _ _ _ kt];rfl
 have hW:=zU w
 have tw:w.drew.cell? ⟨pw,0,none⟩=some (.bool won)∧w.drew.cell? ⟨pl,0,none⟩=some (.pointer (some ⟨L,0,none⟩))∧w.drew.cell? ⟨ps,0,none⟩=some (.string said)∧w.drew.cell? ⟨pt,0,none⟩=some (.int .i64 late)∧w.drew.cell? ⟨L,1+i,none⟩=some (.string v):=⟨y0,y1,y2,y3,kv⟩
 have ka:=zG kw
 have qu:=zG kl
 have Y6:=zG ks
 have T6:=zG kt
 obtain⟨RB,HR⟩: ∃b,Hid (nx won v said late i=b):=⟨_,rfl⟩
 rw[HR.out]
 clear y0 y1 y2 y3 kw kl ks kt kv
 go_enter Tryz.func47,Tryz.ntmps47
 go_wp2_with fail
 refine zS (fun W=>W.cell? ⟨pw,0,none⟩=some (.bool won)∧W.cell? ⟨pl,0,none⟩=some (.pointer (some ⟨L,0,none⟩))∧W.cell? ⟨ps,0,none⟩=some (.string said)∧W.cell? ⟨pt,0,none⟩=some (.int .i64 late)∧W.cell? ⟨L,1+i,none⟩=some (.string v)) (fun _=>false) (by kernel_rfl) tw (fun hS=>?_)
 generalize w.drew=W1 at *
 clear tw
 cases won with
 |false=>
  have HR0:Hid (false=RB):=by rw[←HR.out];rfl
  refine zAA 0 ?_ rfl ?_ ?_;rotate_left
  ·intro w zD;obtain⟨s0,s1,s2,s3,s4⟩:=zD;go_simp;rfl
  try simp only[tn]
  refine zAA 1 ?_ rfl ?_ ?_;rotate_left
  ·intro w zD;obtain⟨s0,s1,s2,s3,s4⟩:=zD;go_simp;rfl
  try simp only[tn]
  refine zAD 2 rfl (by assumption) ?_
  try simp only[tn]
  refine zAD 3 rfl (by assumption) ?_
  try simp only[tn]
  refine zAD 4 rfl (by assumption) ?_
  try simp only[tn]
  refine zAD 5 rfl (by assumption) ?_
  try simp only[tn]
  refine zAD 6 rfl (by assumption) ?_
  try simp only[tn]
  refine zAD 7 rfl (by assumption) ?_
  try simp only[tn]
  refine zAD 8 rfl (by assumption) ?_
  try simp only[tn]
  refine zAD 9 rfl (by assumption) ?_
  try simp only[tn]
  refine zAA 10 ?_ rfl ?_ ?_;rotate_left
  ·intro w zD;obtain⟨s0,s1,s2,s3,s4⟩:=zD;go_simp;rfl
  try simp only[tn]
  refine zAA 11 ?_ rfl ?_ ?_;rotate_left
  ·intro w zD;obtain⟨s0,s1,s2,s3,s4⟩:=zD;go_simp;rfl
  try simp only[tn]
  refine zAD 12 rfl (by assumption) ?_
  try simp only[tn]
  refine zAD 13 rfl (by assumption) ?_
  try simp only[tn]
  refine zAD 14 rfl (by assumption) ?_
  try simp only[tn]
  refine zAD 15 rfl (by assumption) ?_
  try simp only[tn]
  refine zAA 16 ?_ rfl ?_ ?_;rotate_left
  ·intro w zD;obtain⟨s0,s1,s2,s3,s4⟩:=zD;go_simp;rfl
  try simp only[tn]
  refine zAC 17 rfl fun K hK=>?_
  go_simp
  refine hK _ _ (fun _=>hS) ?_
  clear hK K
  try simp only[tn]
  refine zAE ?_
  go_wp2
  go_ret
  exact⟨yI HR0.out,hW⟩
 |true=>
 cases he:(v.toList==said.toList)with
 |false=>
  have HR0:Hid (false=RB):=by rw[←HR.out];unfold nx;rw[he];rfl
  refine zAA 0 ?_ rfl ?_ ?_;rotate_left
  ·intro w zD;obtain⟨s0,s1,s2,s3,s4⟩:=zD;go_simp;rfl
  try simp only[tn]
  refine zAA 1 ?_ rfl ?_ ?_;rotate_left
  ·intro w zD;obtain⟨s0,s1,s2,s3,s4⟩:=zD;go_simp;rfl
  try simp only[tn]
  refine zAA 2 ?_ rfl ?_ ?_;rotate_left
  ·intro w zD;obtain⟨s0,s1,s2,s3,s4⟩:=zD;go_simp;rfl
  try simp only[tn]
  refine zAA 3 ?_ rfl ?_ ?_;rotate_left
  ·intro w zD;obtain⟨s0,s1,s2,s3,s4⟩:=zD;go_simp;rfl
  try simp only[tn]
  refine zAA 4 ?_ rfl ?_ ?_;rotate_left
  ·intro w zD;obtain⟨s0,s1,s2,s3,s4⟩:=zD;go_simp;rfl
  try simp only[tn]
  refine zAA 5 ?_ rfl ?_ ?_;rotate_left
  ·intro w zD;obtain⟨s0,s1,s2,s3,s4⟩:=zD;go_simp;rfl
  try simp only[tn]
  refine zAA 6 ?_ rfl ?_ ?_;rotate_left
  ·intro w zD;obtain⟨s0,s1,s2,s3,s4⟩:=zD;go_simp;rfl
  try simp only[tn]
  refine zAA 7 ?_ rfl ?_ ?_;rotate_left
  ·intro w zD;obtain⟨s0,s1,s2,s3,s4⟩:=zD;go_simp;rfl
  try simp only[tn]
  refine zAA 8 ?_ rfl ?_ ?_;rotate_left
  ·intro w zD;obtain⟨s0,s1,s2,s3,s4⟩:=zD;go_simp;rfl
  try simp only[tn]
  refine zAA 9 ?_ rfl ?_ ?_;rotate_left
  ·intro w zD;obtain⟨s0,s1,s2,s3,s4⟩:=zD;go_simp;rfl
  try simp only[tn]
  refine zAA 10 ?_ rfl ?_ ?_;rotate_left
  ·intro w zD;obtain⟨s0,s1,s2,s3,s4⟩:=zD;go_simp;rfl
  try simp only[tn]
  refine zAA 11 ?_ rfl ?_ ?_;rotate_left
  ·intro w zD;obtain⟨s0,s1,s2,s3,s4⟩:=zD;go_simp;rfl
  try simp only[tn]
  refine zAD 12 rfl (by assumption) ?_
  try simp only[tn]
  refine zAD 13 rfl (by assumption) ?_
  try simp only[tn]
  refine zAD 14 rfl (by assumption) ?_
  try simp only[tn]
  refine zAD 15 rfl (by assumption) ?_
  try simp only[tn]
  refine zAA 16 ?_ rfl ?_ ?_;rotate_left
  ·intro w zD;obtain⟨s0,s1,s2,s3,s4⟩:=zD;go_simp;rfl
  try simp only[tn]
  refine zAC 17 rfl fun K hK=>?_
  go_simp
  refine hK _ _ (fun _=>hS) ?_
  clear hK K
  try simp only[tn]
  refine zAE ?_
  go_wp2
  go_ret
  exact⟨yI HR0.out,hW⟩
 |true=>
  have HR0:Hid ((!aV late i)=RB):=by rw[←HR.out];unfold nx Hid;rw[he];simp
  refine zAA 0 ?_ rfl ?_ ?_;rotate_left
  ·intro w zD;obtain⟨s0,s1,s2,s3,s4⟩:=zD;go_simp;rfl
  try simp only[tn]
  refine zAA 1 ?_ rfl ?_ ?_;rotate_left
  ·intro w zD;obtain⟨s0,s1,s2,s3,s4⟩:=zD;go_simp;rfl
  try simp only[tn]
  refine zAA 2 ?_ rfl ?_ ?_;rotate_left
  ·intro w zD;obtain⟨s0,s1,s2,s3,s4⟩:=zD;go_simp;rfl
  try simp only[tn]
  refine zAA 3 ?_ rfl ?_ ?_;rotate_left
  ·intro w zD;obtain⟨s0,s1,s2,s3,s4⟩:=zD;go_simp;rfl
  try simp only[tn]
  refine zAA 4 ?_ rfl ?_ ?_;rotate_left
  ·intro w zD;obtain⟨s0,s1,s2,s3,s4⟩:=zD;go_simp;rfl
  try simp only[tn]
  refine zAA 5 ?_ rfl ?_ ?_;rotate_left
  ·intro w zD;obtain⟨s0,s1,s2,s3,s4⟩:=zD;go_simp;rfl
  try simp only[tn]
  refine zAA 6 ?_ rfl ?_ ?_;rotate_left
  ·intro w zD;obtain⟨s0,s1,s2,s3,s4⟩:=zD;go_simp;rfl
  try simp only[tn]
  refine zAA 7 ?_ rfl ?_ ?_;rotate_left
  ·intro w zD;obtain⟨s0,s1,s2,s3,s4⟩:=zD;go_simp;rfl
  try simp only[tn]
  refine zAA 8 ?_ rfl ?_ ?_;rotate_left
  ·intro w zD;obtain⟨s0,s1,s2,s3,s4⟩:=zD;go_simp;rfl
  try simp only[tn]
  refine zAA 9 ?_ rfl ?_ ?_;rotate_left
  ·intro w zD;obtain⟨s0,s1,s2,s3,s4⟩:=zD;go_simp;rfl
  try simp only[tn]
  refine zAA 10 ?_ rfl ?_ ?_;rotate_left
  ·intro w zD;obtain⟨s0,s1,s2,s3,s4⟩:=zD;go_simp;rfl
  try simp only[tn]
  refine zAA 11 ?_ rfl ?_ ?_;rotate_left
  ·intro w zD;obtain⟨s0,s1,s2,s3,s4⟩:=zD;go_simp;rfl
  try simp only[tn]
  refine zAA 12 ?_ rfl ?_ ?_;rotate_left
  ·intro w zD;obtain⟨s0,s1,s2,s3,s4⟩:=zD;go_simp;rfl
  try simp only[tn]
  refine zAA 13 ?_ rfl ?_ ?_;rotate_left
  ·intro w zD;obtain⟨s0,s1,s2,s3,s4⟩:=zD;go_simp;rfl
  try simp only[tn]
  refine zAC 14 rfl fun K hK=>?_
  go_simp
  refine(bN late i W1 Dx TT hi).mono ?_
  rintro e W2 ⟨rfl,zZ⟩
  have r8:W2.cell? ⟨pw,0,none⟩=some (.bool true)∧W2.cell? ⟨pl,0,none⟩=some (.pointer (some ⟨L,0,none⟩))∧W2.cell? ⟨ps,0,none⟩=some (.string said)∧W2.cell? ⟨pt,0,none⟩=some (.int .i64 late)∧W2.cell? ⟨L,1+i,none⟩=some (.string v):=⟨(zZ.cell (p:=⟨pw,0,none⟩) (Nat.lt_of_lt_of_le ka hW.size)).trans hS.1,(zZ.cell (p:=⟨pl,0,none⟩) (Nat.lt_of_lt_of_le qu hW.size)).trans hS.2.1,(zZ.cell (p:=⟨ps,0,none⟩) (Nat.lt_of_lt_of_le Y6 hW.size)).trans hS.2.2.1,(zZ.cell (p:=⟨pt,0,none⟩) (Nat.lt_of_lt_of_le T6 hW.size)).trans hS.2.2.2.1,(zZ.cell (p:=⟨L,1+i,none⟩) (Nat.lt_of_lt_of_le hL hW.size)).trans hS.2.2.2.2⟩
  have XC:=bt hW zZ
  refine hK _ _ (fun _=>r8) ?_
  clear hK K hS
  try simp only[tn]
  refine zAA 15 ?_ rfl ?_ ?_;rotate_left
  ·intro w zD;obtain⟨s0,s1,s2,s3,s4⟩:=zD;go_simp;rfl
  try simp only[tn]
  refine zAA 16 ?_ rfl ?_ ?_;rotate_left
  ·intro w zD;obtain⟨s0,s1,s2,s3,s4⟩:=zD;go_simp;rfl
  try simp only[tn]
  refine zAC 17 rfl fun K hK=>?_
  go_simp
  refine hK _ _ (fun _=>r8) ?_
  clear hK K
  try simp only[tn]
  refine zAE ?_
  go_wp2
  go_ret
  exact⟨yI HR0.out,XC⟩
theorem Wt(i:Nat)(pd pf p1 p2 p3 p4:Nat)(done d:Bool)(w:World)
  (kd:w.heap[pd]? =some (.cells #[.bool done] 4)) (kf:w.heap[pf]? =some (.cells #[.func (.func 47) #[] #[.pointer (some ⟨p1,0,none⟩),.pointer (some ⟨p2,0,none⟩),.pointer (some ⟨p3,0,none⟩),.pointer (some ⟨p4,0,none⟩)]] 94))
  (hc:Calls Tryz.prog 47 #[.int .i64 i,.pointer (some ⟨p1,0,none⟩),.pointer (some ⟨p2,0,none⟩),.pointer (some ⟨p3,0,none⟩),.pointer (some ⟨p4,0,none⟩)] w (fun e w'=>e= .returned (.bool d)∧Below w.heap.size w w')):
  Calls Tryz.prog 51 #[.int .i64 i,.pointer (some ⟨pd,0,none⟩),.pointer (some ⟨pf,0,none⟩)] w fun e w'=>e= .returned (.bool (done&&d))∧Below w.heap.size w w':=by
 have y0:w.cell? ⟨pd,0,none⟩=some (.bool done):=by rw[cell_of_row _ _ _ _ _ _ kd];rfl
 have y1:w.cell? ⟨pf,0,none⟩=some (.func (.func 47) #[] #[.pointer (some ⟨p1,0,none⟩),.pointer (some ⟨p2,0,none⟩),.pointer (some ⟨p3,0,none⟩),.pointer (some ⟨p4,0,none⟩)]):=by rw[cell_of_row _ _ _ _ _ _ kf];rfl
 clear kd kf
 cases done with
 |false=>
  have HR:Hid (false=(false&&d)):=rfl
  obtain⟨rb,Bo⟩: ∃b,Hid ((false&&d)=b):=⟨_,rfl⟩
  rw[Bo.out]at HR⊢
  go_enter Tryz.func51,Tryz.ntmps51
  go_wp2
  go_ret
  exact⟨yI HR.out,Below.refl _ _⟩
 |true=>
  obtain⟨rb,Bo⟩: ∃b,Hid ((true&&d)=b):=⟨_,rfl⟩
  have HR:Hid (d=rb):=by rw[←Bo.out];simp[Hid]
  rw[Bo.out]
  clear Bo
  go_enter Tryz.func51,Tryz.ntmps51
  go_wp2_with fail
  refine hc.mono ?_
  clear hc
  rintro e w1 ⟨rfl,zM⟩
  go_wp2
  go_ret
  exact⟨yI HR.out,zM⟩
end Go.Proofs.YtehmlpkapjdhkaaGreatDoor
