import Derived.Test.YtehmlpkapjdhkaaGreatDoorRows
import Derived.BigQuiet
import Derived.Carry
import Derived.Deep.AppendLies
import Derived.Deep.CutRange
import Derived.Deep.DrawnRows
import Derived.Deep.QuietTactic
import Derived.Deep.RegionHeld
import Derived.Deep.RegionWith
import Derived.Deep.Slices
import Derived.Defers
import Derived.Laws.BytesArg
import Derived.Laws.CopyOwn
import Derived.Laws.CopyRow
import Derived.Laws.EntriesVeiled
import Derived.Laws.OwnMore
import Derived.Laws.StructEq
import Derived.Lib.AppendZeros
import Derived.Lib.AppendZerosOnto
import Derived.Lib.LaidTab
import Derived.Lib.Overlaps
import Derived.Lib.RowBridge
import Derived.Lib.SlicesCompact
import Derived.Lib.SmallJoins
import Derived.LoopIn
import Derived.LoopNIn
import Derived.OpenShut
import Derived.OrdersHeld
import Derived.OwnWalkIn
import Derived.ProofKit
import Derived.RangeFuncBound
import Derived.RangeFuncCalls
import Derived.RangeFuncLeaves
import Derived.RangeFuncNested
import Derived.Recover
import Derived.RegionIn
import Derived.RegionTactic
import Derived.Shelf.Abstract
import Derived.Shelf.LaysM
import Derived.Shelf.RegionOpen
import Derived.Shelf.Slices.CompactS
import Derived.SizedLaws
import Derived.SliceStrings
import Derived.Sort.Walk0
import Derived.TacticsInMore
import Derived.WalkKit
import Derived.WalkLawsBesides
import Derived.WalkSpells
namespace Go.Proofs.YtehmlpkapjdhkaaGreatDoor
set_option maxHeartbeats 16000000
open Go.RowKit
set_option maxRecDepth 100000
theorem uA{α:Type}{xs:List α}{i:Nat}(h:i<xs.toArray.size):xs.toArray[i]=xs[i]'(by simpa using h):=List.getElem_toArray h
theorem uB{α:Type}(a:α)(xs:List α)(i:Nat)(h:i+1<(a::xs).length):(a::xs)[i+1]=xs[i]'(by simpa using h):=List.getElem_cons_succ a xs i h
theorem uC{α:Type}{a:α}{xs:List α}{h:0<(a::xs).length}:(a::xs)[0]=a:=rfl
theorem uD{α:Type}(l:List α)(i:Nat)(a:α):l.toArray.setIfInBounds i a=(l.set i a).toArray:=List.setIfInBounds_toArray l i a
theorem uE{α:Type}{x a:α}{xs:List α}:(x::xs).set 0 a=a::xs:=rfl
theorem uF{α:Type}{x a:α}{xs:List α}{n:Nat}:(x::xs).set (n+1) a=x::xs.set n a:=rfl
theorem tn:(∀(a:Act) (d:Nat) (v:Value),a.put (some d) v={a with tmps:=a.tmps.setIfInBounds d v })∧(∀(a:Act) (v:Value),a.put none v=a)∧(∀{α:Type} {xs:List α} {i:Nat} (h:i<xs.toArray.size),xs.toArray[i]=xs[i]'(by simpa using h))∧(∀{α:Type} (a:α) (xs:List α) (i:Nat) (h:i+1<(a::xs).length), (a::xs)[i+1]=xs[i]'(by simpa using h))∧(∀{α:Type} {a:α} {xs:List α} {h:0<(a::xs).length}, (a::xs)[0]=a)∧(∀{α:Type} (l:List α) (i:Nat) (a:α),l.toArray.setIfInBounds i a=(l.set i a).toArray)∧(∀{α:Type} {x a:α} {xs:List α}, (x::xs).set 0 a=a::xs)∧∀{α:Type} {x a:α} {xs:List α} {n:Nat}, (x::xs).set (n+1) a=x::xs.set n a:=⟨fun _ _ _=>rfl,fun _ _=>rfl,fun _=>List.getElem_toArray _,fun a xs i h=>List.getElem_cons_succ a xs i h,rfl,fun l i a=>List.setIfInBounds_toArray l i a,rfl,rfl⟩
theorem bt{w w1 w2:World}(h:Below w.heap.size w w1)(k:Below w1.heap.size w1 w2):Below w.heap.size w w2:=h.trans (k.mono h.size)
theorem zAH: @Act.put=fun a d v=>match d with|some d=>{a with tmps:=a.tmps.setIfInBounds d v }|none=>a:=by funext a d v;cases d<;>rfl
def yD(w:World)(a:Option Addr)(L:List Int):Prop:=
 ∀i,i<L.length→∃b off,a=some ⟨b,off,none⟩∧b<w.heap.size∧∀i,i<L.length→w.cell? ⟨b,off+i,none⟩=some (.int .i64 (L.getD i 0))
def nK(A B:List Int):Bool:=decide (A=B)
def ur(n lo hi:Int):Bool:=decide (lo≤n∧n≤hi)
theorem yI{a b:Bool}(h:a=b):Ending.returned (.bool a)= .returned (.bool b):=by rw[h]
theorem WR{A B:List Int}{k:Nat}{zN:k<A.length}(h:(A[k] != B[k]?.getD 0)=true):nK A B=false:=by
 simp only[nK,decide_eq_false_iff_not]
 intro e
 subst e
 simp[zN]at h
theorem es{A B:List Int}{k:Nat}(hl:A.length=B.length)(ht:A.take k=B.take k)(zN:k<A.length)(h:(A[k] != B[k]?.getD 0)=false):A.take (k+1)=B.take (k+1):=by
 have hb:k<B.length:=by omega
 rw[List.take_succ_eq_append_getElem zN,List.take_succ_eq_append_getElem hb,ht]
 simp[hb]at h
 rw[h]
theorem aw{A B:List Int}{k:Nat}(hk:k≤A.length)(zN: ¬k<A.length)(hl:A.length=B.length)(ht:A.take k=B.take k):nK A B=true:=by
 have e:k=A.length:=by omega
 subst e
 rw[List.take_length,hl,List.take_length]at ht
 simp[nK,ht]
theorem Y3(a1:Option Addr)(c1:Nat)(A:List Int)(a2:Option Addr)(c2:Nat)(B:List Int)(w:World)
  (hA:yD w a1 A) (hB:yD w a2 B) (lA:A.length≤9223372036854775807):
  Calls Tryz.prog 83 #[.slice a1 A.length c1,.slice a2 B.length c2] w fun e w'=>e= .returned (.bool (nK A B))∧∃n,w'=w.drewN n:=by
 by_cases hl:A.length=B.length
 ·have hd:((A.length:Int) != (B.length:Int))=false:=by simp[hl]
  have HL:Hid (A.length=B.length):=hl
  clear hl
  go_enter Tryz.func83,Tryz.ntmps83
  go_wp2
  go_loopw [5] (fun i wr=>∃k:Nat,i= .int .i64 k∧k≤A.length∧A.take k=B.take k∧∃n,wr=w.drewN n) (fun i _=>A.length-(intOf i).toNat)
  case atStart=>exact⟨0,rfl,Nat.zero_le _,rfl,0,rfl⟩
  case round=>
   obtain⟨k,rfl,hk,Db,n,rfl⟩:=hrel
   by_cases zN:k<A.length
   ·obtain⟨b1,o1,rfl,zM,bV⟩:=hA k zN
    obtain⟨b2,o2,rfl,zZ,nT⟩:=hB k (by rw[←HL.out];exact zN)
    have sZ:(k:Int)<(B.length:Int):=by have:=HL.out;omega
    have xa:=bV k zN
    have xy:=nT k (by omega)
    have HT:Hid (A.take k=B.take k):=Db
    clear Db bV nT
    have zIR: ∀m,(w.drewN m).cell? ⟨b1,o1+k,none⟩=some (.int .i64 A[k]):=fun m=>by simpa[zN]using xa
    have zH3: ∀m,(w.drewN m).cell? ⟨b2,o2+k,none⟩=some (.int .i64 (B.getD k 0)):=fun m=>by simpa using xy
    clear xa xy
    go_wp2
    go_quiet (fail)
    go_wp2
    ·go_ret
     exact⟨yI (WR ‹_›).symm,n+nq,by simp⟩
    ·go_roundw
     case rel=>exact⟨k+1,by go_num,by omega,es HL.out HT.out zN ‹_›,_,rfl⟩
     case measure=>simp[intOf];omega
   ·go_wp2
    go_ret
    exact⟨yI (aw hk zN HL.out Db).symm,_,rfl⟩
 ·have hd:((A.length:Int) != (B.length:Int))=true:=by simp;omega
  go_enter Tryz.func83,Tryz.ntmps83
  go_wp2
  go_ret
  exact⟨by have: ¬A=B:=fun h=>hl (by rw[h]);simp[nK,this],0,rfl⟩
theorem yD.below{w w':World}{a:Option Addr}{L:List Int}(h:yD w a L)(hb:Below w.heap.size w w'):yD w' a L:=by
 intro i hi
 obtain⟨b,off,rfl,zN,hc⟩:=h i hi
 exact⟨b,off,rfl,Nat.lt_of_lt_of_le zN hb.size,fun j hj=>(hb.cell (p:=⟨b,off+j,none⟩) zN).trans (hc j hj)⟩
theorem yB{B:Nat}{a w:World}(h:Below B a w)(n:Nat):Below B a (w.drewN n):=by
 induction n with
 |zero=>exact h
 |succ n ih=>exact ih.drew
theorem zV(w:World)(o o':Obj):Below w.heap.size w ((w.alloc o).alloc o'):=((Below.refl _ _).alloc (Nat.le_refl _) o).alloc (by simp) o'
theorem zB(w:World)(o:Obj):Below w.heap.size w (w.alloc o):=(Below.refl _ _).alloc (Nat.le_refl _) o
def xi(i1 k1:Int)(L1:List Int)(t1:ByteArray)(i2 k2:Int)(L2:List Int)(t2:ByteArray):Bool:=
 decide (i1=i2)&&decide (k1=k2)&&decide (t1.toList=t2.toList)&&nK L1 L2
theorem ry(i1 k1:Int)(a1:Option Addr)(c1:Nat)(L1:List Int)(t1:ByteArray)(i2 k2:Int)(a2:Option Addr)(c2:Nat)(L2:List Int)(t2:ByteArray)(w:World)
  (h1:yD w a1 L1) (h2:yD w a2 L2) (l1:L1.length≤9223372036854775807):
  Calls Tryz.prog 30 #[.agg #[.int .i64 i1,.int .i64 k1,.slice a1 L1.length c1,.string t1],.agg #[.int .i64 i2,.int .i64 k2,.slice a2 L2.length c2,.string t2]] w
   fun e w'=>e= .returned (.bool (xi i1 k1 L1 t1 i2 k2 L2 t2))∧Below w.heap.size w w':=by
 go_enter Tryz.func30,Tryz.ntmps30
 go_wp2_with fail
 ·refine(Y3 a1 c1 L1 a2 c2 L2 _ (h1.below (zV _ _ _)) (h2.below (zV _ _ _)) l1).mono ?_
  rintro e w' ⟨rfl,n,rfl⟩
  go_wp2
  go_ret
  exact⟨yI (by simp[xi, *]),yB (zV _ _ _) n⟩
 all_goals go_ret
 all_goals exact⟨yI (by simp[xi, *]),zV _ _ _⟩
def yR(id kind:Int):Nat→Int→List Int→Int
 |_,_,[]=>0
 |i,last,x::xs=>if x<1∨id≤x then 3 else if x≤last then 4 else yR id kind (i+1) (if kind=3∧i=0 then last else x) xs
theorem zE{k:IntKind}{a b:Int}(h:a=b):Ending.returned (.int k a)= .returned (.int k b):=by rw[h]
theorem qW{L:List Int}{k:Nat}(h:k<L.length):L.drop k=L[k]::L.drop (k+1):=List.drop_eq_getElem_cons h
theorem qK{id kind:Int}{L:List Int}{k:Nat}{last r:Int}(zN:k<L.length)(H:r=yR id kind k last (L.drop k))(h:L[k]<1∨id≤L[k]):r=3:=by
 rw[H,qW zN,yR,if_pos h]
theorem jI{id kind:Int}{L:List Int}{k:Nat}{last r:Int}(zN:k<L.length)(H:r=yR id kind k last (L.drop k))(h:1≤L[k]∧L[k]<id)(h2:L[k]≤last):r=4:=by
 rw[H,qW zN,yR,if_neg (by omega),if_pos h2]
theorem Sw{id kind:Int}{L:List Int}{k:Nat}{last r:Int}(zN:k<L.length)(H:r=yR id kind k last (L.drop k))(h:1≤L[k]∧L[k]<id)(h2:last<L[k])(h3: ¬(kind=3∧k=0)):r=yR id kind (k+1) L[k] (L.drop (k+1)):=by
 rw[H,qW zN,yR,if_neg (by omega),if_neg (by omega),if_neg h3]
theorem Pa{id:Int}{L:List Int}{k:Nat}{last r:Int}(zN:k<L.length)(H:r=yR id 3 k last (L.drop k))(h:1≤L[k]∧L[k]<id)(h2:last<L[k])(h3:k=0):r=yR id 3 (k+1) last (L.drop (k+1)):=by
 rw[H,qW zN,yR,if_neg (by omega),if_neg (by omega),if_pos ⟨rfl,h3⟩]
theorem Ul{id kind:Int}{L:List Int}{k:Nat}{last r:Int}(hk:k≤L.length)(zN: ¬k<L.length)(H:r=yR id kind k last (L.drop k)):r=0:=by
 rw[H,List.drop_of_length_le (by omega)];rfl
theorem dY(id kind:Int)(a:Option Addr)(c:Nat)(L:List Int)(t:ByteArray)(w:World)
  (h:yD w a L) (l:L.length≤9223372036854775807):
  Calls Tryz.prog 188 #[.agg #[.int .i64 id,.int .i64 kind,.slice a L.length c,.string t]] w
   fun e w'=>e= .returned (.int .i64 (yR id kind 0 0 L))∧Below w.heap.size w w':=by
 have h':=h.below (zB w (.cells #[.int .i64 id,.int .i64 kind,.slice a L.length c,.string t] 58))
 by_cases tv:kind=3
 ·subst tv
  go_enter Tryz.func188,Tryz.ntmps188
  go_wp2
  go_loop [3,9] (fun z i=>∃(k:Nat) (last:Int),i= .int .i64 k∧z= .int .i64 last∧k≤L.length∧Hid (yR id 3 0 0 L=yR id 3 k last (L.drop k))) (fun _ i=>L.length-(intOf i).toNat)
  case atStart=>exact⟨0,0,rfl,rfl,Nat.zero_le _,rfl⟩
  case round=>
   obtain⟨k,last,rfl,rfl,hk,H⟩:=hrel
   by_cases zN:k<L.length
   ·obtain⟨b1,o1,rfl,zM,bV⟩:=h' k zN
    have xa:=bV k zN
    clear bV
    by_cases h0:(0:Int)<(k:Int)
    ·go_wp2
     ·go_ret
      exact⟨zE (qK zN H.out ‹_›).symm,zB _ _⟩
     ·go_ret
      exact⟨zE (jI zN H.out ‹_› ‹_›).symm,zB _ _⟩
     ·go_round
      case rel=>exact⟨k+1,_,by go_num,rfl,by omega,Sw zN H.out ‹_› ‹_› (by omega)⟩
      case measure=>simp[intOf];omega
     ·go_ret
      exact⟨zE (qK zN H.out (Or.inl ‹_›)).symm,zB _ _⟩
    ·have Vj:k=0:=by omega
     have HK:Hid (k=0):=Vj
     clear Vj
     go_wp2
     ·go_ret
      exact⟨zE (qK zN H.out ‹_›).symm,zB _ _⟩
     ·go_ret
      exact⟨zE (jI zN H.out ‹_› ‹_›).symm,zB _ _⟩
     ·go_round
      case rel=>exact⟨k+1,_,by go_num,rfl,by omega,Pa zN H.out ‹_› ‹_› HK.out⟩
      case measure=>simp[intOf];omega
     ·go_ret
      exact⟨zE (qK zN H.out (Or.inl ‹_›)).symm,zB _ _⟩
   ·go_wp2
    go_ret
    exact⟨zE (Ul hk zN H.out).symm,zB _ _⟩
 ·have hkb:(kind != 3)=true:=by simpa using tv
  go_enter Tryz.func188,Tryz.ntmps188
  go_wp2
  go_loop [3,9] (fun z i=>∃(k:Nat) (last:Int),i= .int .i64 k∧z= .int .i64 last∧k≤L.length∧Hid (yR id kind 0 0 L=yR id kind k last (L.drop k))) (fun _ i=>L.length-(intOf i).toNat)
  case atStart=>exact⟨0,0,rfl,rfl,Nat.zero_le _,rfl⟩
  case round=>
   obtain⟨k,last,rfl,rfl,hk,H⟩:=hrel
   by_cases zN:k<L.length
   ·obtain⟨b1,o1,rfl,zM,bV⟩:=h' k zN
    have xa:=bV k zN
    clear bV
    go_wp2
    ·go_ret
     exact⟨zE (qK zN H.out ‹_›).symm,zB _ _⟩
    ·go_ret
     exact⟨zE (jI zN H.out ‹_› ‹_›).symm,zB _ _⟩
    ·go_round
     case rel=>exact⟨k+1,_,by go_num,rfl,by omega,Sw zN H.out ‹_› ‹_› (by omega)⟩
     case measure=>simp[intOf];omega
    ·go_ret
     exact⟨zE (qK zN H.out (Or.inl ‹_›)).symm,zB _ _⟩
   ·go_wp2
    go_ret
    exact⟨zE (Ul hk zN H.out).symm,zB _ _⟩
theorem zC1{W w1:World}(hb:Below W.heap.size W w1):(∀b o,b<W.heap.size→w1.cell? ⟨b,o,none⟩=W.cell? ⟨b,o,none⟩)∧(∀b o,b<W.heap.size→w1.frozen? ⟨b,o,none⟩=W.frozen? ⟨b,o,none⟩):=
 ⟨fun b o h=>hb.cell (p:=⟨b,o,none⟩) h,fun b o h=>hb.frozen (p:=⟨b,o,none⟩) h⟩
def xC(id kind:Int)(L:List Int)(n:Nat):Int:=
 if id<1∨99<id then 3 else if kind<1∨3<kind then 7 else if 4<L.length∨8<n then 2
 else if yR id kind 0 0 L≠0 then yR id kind 0 0 L
 else if(kind=1∧0<L.length)∨(kind=3∧L.length=0)then 1 else 0
theorem bL{id kind:Int}{L:List Int}{n:Nat}(h:id<1∨99<id):xC id kind L n=3:=by rw[xC,if_pos h]
theorem YN{id kind:Int}{L:List Int}{n:Nat}(h0:1≤id∧id≤99)(h:kind<1∨3<kind):xC id kind L n=7:=by rw[xC,if_neg (by omega),if_pos h]
theorem YV{id kind:Int}{L:List Int}{n:Nat}(h0:1≤id∧id≤99)(h1:1≤kind∧kind≤3)(h:(4:Int)<L.length∨(8:Int)<n):xC id kind L n=2:=by rw[xC,if_neg (by omega),if_neg (by omega),if_pos (by omega)]
theorem jc{id kind:Int}{L:List Int}{n:Nat}(h0:1≤id∧id≤99)(h1:1≤kind∧kind≤3)(h:(L.length:Int)≤4∧(n:Int)≤8)(h2:yR id kind 0 0 L≠0):xC id kind L n=yR id kind 0 0 L:=by rw[xC,if_neg (by omega),if_neg (by omega),if_neg (by omega),if_pos h2]
theorem eN{id kind:Int}{L:List Int}{n:Nat}(h0:1≤id∧id≤99)(h1:1≤kind∧kind≤3)(h:(L.length:Int)≤4∧(n:Int)≤8)(h2:yR id kind 0 0 L=0)(h3:(kind=1∧0<L.length)∨(kind=3∧L.length=0)):xC id kind L n=1:=by rw[xC,if_neg (by omega),if_neg (by omega),if_neg (by omega),if_neg (by omega),if_pos h3]
theorem aj{id kind:Int}{L:List Int}{n:Nat}(h0:1≤id∧id≤99)(h1:1≤kind∧kind≤3)(h:(L.length:Int)≤4∧(n:Int)≤8)(h2:yR id kind 0 0 L=0)(h3: ¬((kind=1∧0<L.length)∨(kind=3∧L.length=0))):xC id kind L n=0:=by rw[xC,if_neg (by omega),if_neg (by omega),if_neg (by omega),if_neg (by omega),if_neg h3]
theorem mS(id kind:Int)(a:Option Addr)(c:Nat)(L:List Int)(t:ByteArray)(w:World)
  (h:yD w a L) (l:L.length≤9223372036854775807):
  Calls Tryz.prog 134 #[.agg #[.int .i64 id,.int .i64 kind,.slice a L.length c,.string t]] w
   fun e w'=>e= .returned (.int .i64 (xC id kind L t.size))∧Below w.heap.size w w':=by
 have h':=h.below (zB w (.cells #[.int .i64 id,.int .i64 kind,.slice a L.length c,.string t] 58))
 go_enter Tryz.func134,Tryz.ntmps134
 go_wp2_with fail
 ·go_ret
  exact⟨zE (bL ‹_›).symm,zB _ _⟩
 ·go_ret
  exact⟨zE (YN ‹_› ‹_›).symm,zB _ _⟩
 ·go_ret
  exact⟨zE (YV ‹1≤id∧id≤99› ‹1≤kind∧kind≤3› ‹_›).symm,zB _ _⟩
 ·have H0:1≤id∧id≤99:= ‹_›
  have H1:1≤kind∧kind≤3:=‹_›
  have H2:(L.length:Int)≤4∧(t.size:Int)≤8:=‹_›
  refine(dY id kind a c L t _ h' l).mono ?_
  rintro e w1 ⟨rfl,hb⟩
  have hB:=(zB _ _).trans (hb.mono (by simp))
  by_cases hz:yR id kind 0 0 L=0
  ·rw[hz]
   have HZ:Hid (yR id kind 0 0 L=0):=hz
   clear hz
   obtain⟨hc,hf⟩:=zC1 hb
   by_cases k1:kind=1
   ·subst k1
    cases L with
    |nil=>
     go_wp2
     go_ret
     exact⟨zE (aj H0 H1 H2 HZ.out (by simp)).symm,hB⟩
    |cons x xs=>
     go_wp2
     go_ret
     exact⟨zE (eN H0 H1 H2 HZ.out (by simp)).symm,hB⟩
   ·by_cases k3:kind=3
    ·subst k3
     cases L with
     |nil=>
      go_wp2
      go_ret
      exact⟨zE (eN H0 H1 H2 HZ.out (by simp)).symm,hB⟩
     |cons x xs=>
      have yM:(((x::xs).length:Int)==0)=false:=by simp;omega
      go_wp2
      go_ret
      exact⟨zE (aj H0 H1 H2 HZ.out (by simp)).symm,hB⟩
    ·have e1:(kind==1)=false:=by simpa using k1
     have e3:(kind==3)=false:=by simpa using k3
     go_wp2
     go_ret
     exact⟨zE (aj H0 H1 H2 HZ.out (by omega)).symm,hB⟩
  ·have CW:(yR id kind 0 0 L != 0)=true:=by simpa using hz
   go_wp2
   go_ret
   exact⟨zE (jc H0 H1 H2 hz).symm,hB⟩
 ·go_ret
  exact⟨zE (YV ‹1≤id∧id≤99› ‹1≤kind∧kind≤3› (Or.inl ‹_›)).symm,zB _ _⟩
 ·go_ret
  exact⟨zE (YN ‹_› (Or.inl ‹_›)).symm,zB _ _⟩
 ·go_ret
  exact⟨zE (bL (Or.inl ‹_›)).symm,zB _ _⟩
theorem Tryz.info5:(Tryz.prog.info? 5).map (fun i=>(i.zero,i.size,i.bytes))=some (some (.int .u8 0),1,1):=by kernel_rfl
theorem Tryz.info3:(Tryz.prog.info? 3).map (fun i=>(i.zero,i.size,i.bytes))=some (some (.int .i64 0),1,8):=by kernel_rfl
structure vL(p:Nat)(row:Option Nat)(w w':World):Prop where
 os:w'.os=w.os
 tape:w'.tape=w.tape
 output:w'.output=w.output
 size:w.heap.size≤w'.heap.size
 block: ∀k,k<w.heap.size→k≠p→some k≠row→w'.heap[k]? =w.heap[k]?
theorem vL.refl(p:Nat)(row:Option Nat)(w:World):vL p row w w:=⟨rfl,rfl,rfl,Nat.le_refl _,fun _ _ _ _=>rfl⟩
theorem vL.round{p:Nat}{row r:Option Nat}{w wr w1:World}{o:Obj}{u:Value}(h:vL p row w wr)(hg:(wr.alloc o).grownBy w1 r)(hr:r=row∨∃g,r=some g∧w.heap.size≤g):
  vL p row w (w1.setCell ⟨p,0,none⟩ u):=by
 refine⟨hg.os.trans h.os,hg.tape.trans h.tape,hg.output.trans h.output,?_,fun k hk hp Z4=>?_⟩
 ·have:=hg.size;have:=h.size;simp[World.setCell]at *;omega
 ·have hs:=h.size
  rw[Below.heap_setCell _ _ _ _ hp,hg.block k (by simp;omega) (by
   rcases hr with rfl|⟨g,rfl,bT⟩
   ·exact Z4
   ·intro e;have:k=g:=by simpa using e
    omega),Below.heap_alloc _ _ _ (by omega)]
  exact h.block k hk hp Z4
theorem vL.below{p B:Nat}{row:Option Nat}{w w':World}(h:vL p row w w')(hB:B≤w.heap.size)(hp:B≤p)(hr: ∀k,row=some k→B≤k):Below B w w':=
 ⟨h.os,h.tape,h.output,h.size,fun k hk=>h.block k (by omega) (by omega) (fun e=>by have:=hr k e.symm;omega)⟩
theorem KS{x:Int}(h:0≤x∧x≤255):IntKind.u8.wrap x=x:=by
 simp[IntKind.wrap,IntKind.bits,IntKind.signed];omega
theorem RC{p base n k:Nat}{v vr v' u:Value}{xs:List Value}{N:List Int}{w wr w1:World}{o:Obj}{g:Nat}(zN:k<N.length)
  (nO:vL p v.ownBlock w wr) (Lf:vr.ownBlock=v.ownBlock∨∃g,vr.ownBlock=some g∧w.heap.size≤g)
  (Zb:p<base) (Vf:w1.cell? ⟨p,0,none⟩=some vr) (hfp:w1.frozen? ⟨p,0,none⟩=false)
  (S6:w1.ownsRow base 5 1 v' (n+k+1) (xs++(N.take k).map (Value.int .u8)++[.int .u8 N[k]])) (Zg:(wr.alloc o).grownBy w1 vr.ownBlock) (MB:vr.ownBlock=some g∨g=wr.heap.size+1) (hvg:v'.ownBlock=some g):
  (w1.setCell ⟨p,0,none⟩ u).cell? ⟨p,0,none⟩=some u∧(w1.setCell ⟨p,0,none⟩ u).frozen? ⟨p,0,none⟩=false∧
   (w1.setCell ⟨p,0,none⟩ u).ownsRow base 5 1 v' (n+(k+1)) (xs++(N.take (k+1)).map (Value.int .u8))∧vL p v.ownBlock w (w1.setCell ⟨p,0,none⟩ u)∧(v'.ownBlock=v.ownBlock∨∃g,v'.ownBlock=some g∧w.heap.size≤g):=by
 refine⟨World.cell?_setCell_same _ _ _ Vf,(World.frozen?_setCell _ _ _ _).trans hfp,?_,nO.round Zg Lf,?_⟩
 ·have e:xs++(N.take (k+1)).map (Value.int .u8)=xs++(N.take k).map (Value.int .u8)++[.int .u8 N[k]]:=by
   rw[List.take_succ_eq_append_getElem zN];simp only[List.map_append,List.map_cons,List.map_nil,List.append_assoc]
  rw[e,←Nat.add_assoc]
  exact ownsRow_setCell_below S6 Zb _
 ·have:=nO.size
  rcases MB with e|e
  ·rw[hvg,←e];exact Lf
  ·exact Or.inr ⟨_,hvg,by omega⟩
theorem rm{id kind:Int}: ∀(L:List Int) (i:Nat) (last:Int),yR id kind i last L=0→∀x∈L,1≤x∧x<id:=by
 intro L
 induction L with
 |nil=>intro _ _ _ x hx;cases hx
 |cons y ys ih=>
  intro i last h x hx
  rw[yR]at h
  split at h
  ·cases h
  ·split at h
   ·cases h
   ·rcases List.mem_cons.1 hx with rfl|hx
    ·omega
    ·exact ih _ _ h x hx
theorem xg{id kind:Int}{L:List Int}{n:Nat}(h:xC id kind L n=0):
  (1≤id∧id≤99)∧(1≤kind∧kind≤3)∧L.length≤4∧n≤8∧yR id kind 0 0 L=0∧¬((kind=1∧0<L.length)∨(kind=3∧L.length=0)):=by
 unfold xC at h
 split at h
 ·cases h
 split at h
 ·cases h
 split at h
 ·cases h
 split at h
 ·omega
 split at h
 ·cases h
 refine⟨by omega,by omega,by omega,by omega,by omega,by assumption⟩
def vh(id kind:Int)(L:List Int)(n:Nat):List Int:=[id,kind,(L.length:Int)]++L++[(n:Int)]
theorem rX(w:World)(cs:List Int)(e:Nat)(W:World)(hW:W=w.alloc (.cells (cs.map (Value.int .i64)).toArray e)):yD W (some ⟨w.heap.size,0,none⟩) cs:=by
 subst hW
 intro i hi
 refine⟨w.heap.size,0,rfl,by simp,fun j hj=>?_⟩
 rw[World.cell?_alloc_at _ _ _ _ rfl]
 simp[List.getElem?_eq_getElem hj]
theorem zBT{w w1:World}{x0 x1 x2 x3:Value}{e:Nat}(hb:Below (w.alloc (.cells #[x0,x1,x2,x3] e)).heap.size (w.alloc (.cells #[x0,x1,x2,x3] e)) w1):
  w1.cell? ⟨w.heap.size,0,none⟩=some x0∧w1.cell? ⟨w.heap.size,1,none⟩=some x1∧w1.cell? ⟨w.heap.size,2,none⟩=some x2∧w1.cell? ⟨w.heap.size,3,none⟩=some x3∧w.heap.size<w1.heap.size:=by
 have hs:=hb.size
 refine⟨?_,?_,?_,?_,by simp at hs;omega⟩<;>
 ·rw[hb.cell (by simp),World.cell?_alloc_at _ _ _ _ rfl];rfl
theorem JB(w:World)(o:Obj)(cs:List Int):yD ((w.alloc o).alloc (.cells (cs.map (Value.int .i64)).toArray 3)) (some ⟨w.heap.size+1,0,none⟩) cs:=by
 have:=rX (w.alloc o) cs 3 _ rfl
 simpa using this
def nY(s:ByteArray):List Int:=s.data.toList.map (fun b=>(b.toNat:Int))
theorem LW(s:ByteArray):(nY s).length=s.size:=by rw[nY,List.length_map,Array.length_toList];rfl
theorem ew(s:ByteArray):strOfNums (nY s)=s:=by
 have e:(nY s).map (fun n=>UInt8.ofNat n.toNat)=s.data.toList:=by
  simp[nY,Function.comp_def]
 unfold strOfNums
 rw[e]
theorem vL.drewN(p:Nat)(row:Option Nat)(w:World)(n:Nat):vL p row w (w.drewN n):=by
 have h:=yB (B:=w.heap.size) (Below.refl w.heap.size w) n
 exact⟨h.os,h.tape,h.output,h.size,fun k hk _ _=>h.block k hk⟩
theorem vL.setCell{p:Nat}{row:Option Nat}{w w':World}(h:vL p row w w')(i:Nat)(u:Value):vL p row w (w'.setCell ⟨p,i,none⟩ u):=
 ⟨h.os,h.tape,h.output,by have:=h.size;simp[World.setCell];omega,fun k hk hp hr=>(Below.heap_setCell _ _ _ _ hp).trans (h.block k hk hp hr)⟩
theorem vL.trans{p:Nat}{a b c:World}(h:vL p none a b)(k:vL p none b c):vL p none a c:=
 ⟨k.os.trans h.os,k.tape.trans h.tape,k.output.trans h.output,Nat.le_trans h.size k.size,fun i hi hp hr=>(k.block i (Nat.lt_of_lt_of_le hi h.size) hp hr).trans (h.block i hi hp hr)⟩
theorem vL.grown{p:Nat}{r:Option Nat}{w wr w1:World}{o:Obj}(h:vL p none w wr)(hg:(wr.alloc o).grownBy w1 r)(hr: ∀g,r=some g→w.heap.size≤g):vL p none w w1:=by
 refine⟨hg.os.trans h.os,hg.tape.trans h.tape,hg.output.trans h.output,?_,fun k hk hp _=>?_⟩
 ·have:=hg.size;have:=h.size;simp at *;omega
 ·have hs:=h.size
  rw[hg.block k (by simp;omega) (fun e=>by have:=hr k e.symm;omega),Below.heap_alloc _ _ _ (by omega)]
  exact h.block k hk hp (by simp)
def part(s:ByteArray)(k n:Nat):List Int:=((nY s).drop k).take n
theorem Q8{w:World}{base g n cap:Nat}{L:List Int}(h:w.ownsRow base 3 1 (.slice (some ⟨g,0,none⟩) n cap) n (L.map (Value.int .i64)))(hn:L.length=n):yD w (some ⟨g,0,none⟩) L:=by
 intro i hi
 refine⟨g,0,rfl,?_,fun j hj=>?_⟩
 ·exact(h.lt g rfl).2
 ·rw[Nat.zero_add,h.cellAt j (by omega)]
  simp[List.getElem?_eq_getElem hj]
theorem vL.grownBy{p:Nat}{w w':World}(h:vL p none w w'):w.grownBy w' (some p):=
 ⟨h.os,h.tape,h.output,h.size,fun k hk hr=>h.block k hk (fun e=>hr (by rw[e])) (by simp)⟩
theorem R9{w:World}{base n:Nat}{v:Value}{L:List Int}(h:w.ownsRow base 3 1 v n (L.map (Value.int .i64)))(hn:L.length=n): ∃a cap,v= .slice a n cap∧yD w a L∧∀b off,a=some ⟨b,off,none⟩→base≤b:=by
 by_cases h0:0<n
 ·obtain⟨g,cap,rfl,hg,_⟩:=h.form h0
  exact⟨_,cap,rfl,Q8 h hn,fun b off e=>by cases e;exact hg⟩
 ·have e0:n=0:=by omega
  subst e0
  rcases h.2 with⟨rfl,_⟩|⟨g,cap,cur,rfl,hg,_⟩
  ·exact⟨none,0,rfl,fun i hi=>by omega,fun b off e=>by cases e⟩
  ·exact⟨_,cap,rfl,fun i hi=>by omega,fun b off e=>by cases e;exact hg⟩
structure Out(B:Nat)(x0 x1 x2 x3:Value)(w:World):Prop where
 c0:w.cell? ⟨B,0,none⟩=some x0
 c1:w.cell? ⟨B,1,none⟩=some x1
 c2:w.cell? ⟨B,2,none⟩=some x2
 c3:w.cell? ⟨B,3,none⟩=some x3
 f: ∀i,w.frozen? ⟨B,i,none⟩=false
 e:w.cell? ⟨B+1,0,none⟩=some (.int .i64 0)
 ef:w.frozen? ⟨B+1,0,none⟩=false
 lt:B+2<w.heap.size
def Ly(i k:Int)(L T:List Int):List Int:=[i,k,(L.length:Int)]++L++[(T.length:Int)]++T
def YP(s:ByteArray)(i k:Int)(L T:List Int):Prop:=∃rest,nY s=Ly i k L T++rest
theorem Out.drew{B:Nat}{x0 x1 x2 x3:Value}{w:World}(h:Out B x0 x1 x2 x3 w):Out B x0 x1 x2 x3 w.drew:=
 ⟨h.c0,h.c1,h.c2,h.c3,h.f,h.e,h.ef,h.lt⟩
theorem yD.drew{w:World}{a:Option Addr}{L:List Int}(h:yD w a L):yD w.drew a L:=h
theorem yD.set{w:World}{a:Option Addr}{L:List Int}{B i:Nat}(h:yD w a L)(yM: ∀b off,a=some ⟨b,off,none⟩→b≠B)(y:Value):yD (w.setCell ⟨B,i,none⟩ y) a L:=by
 intro j hj
 obtain⟨b,off,rfl,zN,hc⟩:=h j hj
 have:=yM b off rfl
 exact⟨b,off,rfl,by simpa[World.setCell]using zN,fun x hx=>(World.cell?_setCell_other _ _ _ _ (by intro e;cases e;exact this rfl)).trans (hc x hx)⟩
abbrev Ty:Value:=.agg #[.int .i64 0,.int .i64 0,.slice none 0 0,.string {data:=#[]}]
structure xH(B:Nat)(x0 x1 x2 x3:Value)(w:World):Prop where
 c0:w.cell? ⟨B,0,none⟩=some x0
 c1:w.cell? ⟨B,1,none⟩=some x1
 c2:w.cell? ⟨B,2,none⟩=some x2
 c3:w.cell? ⟨B,3,none⟩=some x3
 f0:w.frozen? ⟨B,0,none⟩=false
 f1:w.frozen? ⟨B,1,none⟩=false
 f2:w.frozen? ⟨B,2,none⟩=false
 f3:w.frozen? ⟨B,3,none⟩=false
 lt:B<w.heap.size
theorem xH.new(w:World)(x0 x1 x2 x3:Value)(e:Nat):xH w.heap.size x0 x1 x2 x3 (w.alloc (.cells #[x0,x1,x2,x3] e)):=by
 constructor<;>simp[go_sem]
theorem xH.below{B:Nat}{x0 x1 x2 x3:Value}{w w':World}{n:Nat}(h:xH B x0 x1 x2 x3 w)(hb:Below n w w')(hn:B<n):xH B x0 x1 x2 x3 w':=
 ⟨(hb.cell (p:=⟨B,0,none⟩) hn).trans h.c0, (hb.cell (p:=⟨B,1,none⟩) hn).trans h.c1, (hb.cell (p:=⟨B,2,none⟩) hn).trans h.c2, (hb.cell (p:=⟨B,3,none⟩) hn).trans h.c3,
  (hb.frozen (p:=⟨B,0,none⟩) hn).trans h.f0,(hb.frozen (p:=⟨B,1,none⟩) hn).trans h.f1,(hb.frozen (p:=⟨B,2,none⟩) hn).trans h.f2,(hb.frozen (p:=⟨B,3,none⟩) hn).trans h.f3,Nat.lt_of_lt_of_le h.lt hb.size⟩
theorem pj{w0 w:World}{B:Nat}{x0 x1 x2 x3:Value}{n:Nat}(h:Below n w0 w)(hn:n≤B):
  Below n w0 ((((w.setCell ⟨B,0,none⟩ x0).setCell ⟨B,1,none⟩ x1).setCell ⟨B,2,none⟩ x2).setCell ⟨B,3,none⟩ x3):=
 (((h.setCell (p:=⟨B,0,none⟩) hn x0).setCell (p:=⟨B,1,none⟩) hn x1).setCell (p:=⟨B,2,none⟩) hn x2).setCell (p:=⟨B,3,none⟩) hn x3
theorem ej{w:World}{a:Option Addr}{L:List Int}{B:Nat}{x0 x1 x2 x3:Value}(h:yD w a L)(yM: ∀b off,a=some ⟨b,off,none⟩→0<L.length→b≠B):
  yD ((((w.setCell ⟨B,0,none⟩ x0).setCell ⟨B,1,none⟩ x1).setCell ⟨B,2,none⟩ x2).setCell ⟨B,3,none⟩ x3) a L:=by
 intro j hj
 obtain⟨b,off,rfl,zN,hc⟩:=h j hj
 have hb:=yM b off rfl (by omega)
 have MC: ∀x i,(⟨B,i,none⟩:Addr)≠⟨b,x,none⟩:=fun x i e=>by cases e;exact hb rfl
 refine⟨b,off,rfl,by simpa[World.setCell]using zN,fun x hx=>?_⟩
 rw[World.cell?_setCell_other _ _ _ _ (MC _ _),World.cell?_setCell_other _ _ _ _ (MC _ _),World.cell?_setCell_other _ _ _ _ (MC _ _),World.cell?_setCell_other _ _ _ _ (MC _ _)]
 exact hc x hx
abbrev PI:ByteArray:={data:=#[116]}
theorem jj(id kind:Int)(a:Option Addr)(n c:Nat)(w:World):
  Calls Tryz.prog 111 #[.int .i64 id,.int .i64 kind,.slice a n c] w
   fun e w'=>e= .returned (.agg #[.int .i64 id,.int .i64 kind,.slice a n c,.string PI])∧Below w.heap.size w w':=by
 go_enter Tryz.func111,Tryz.ntmps111
 go_wp2
 refine bodyPost_ret (v:=.agg #[.int .i64 id,.int .i64 kind,.slice a n c,.string PI]) (by simp[results,Tryz.results111,go_sem]) rfl ?_
 exact⟨rfl,zB _ _⟩
def t8(s2 s3 s4 s5:Value):Array Value:=#[.int .i64 1,.int .i64 1,.slice none 0 0,.string PI,.int .i64 2,.int .i64 2,s2,.string PI,.int .i64 3,.int .i64 3,s3,.string PI,.int .i64 4,.int .i64 2,s4,.string PI,.int .i64 5,.int .i64 3,s5,.string PI]
theorem PD(w:World):
  Calls Tryz.prog 61 #[] w fun e w'=>∃g b2 b3 b4 b5,e= .returned (.slice (some ⟨g,0,none⟩) 5 5)∧Below w.heap.size w w'∧w.heap.size≤g∧g<w'.heap.size∧
   w'.heap[g]? =some (.cells (t8 (.slice (some ⟨b2,0,none⟩) 1 1) (.slice (some ⟨b3,0,none⟩) 1 1) (.slice (some ⟨b4,0,none⟩) 2 2) (.slice (some ⟨b5,0,none⟩) 2 2)) 58)∧
   yD w' (some ⟨b2,0,none⟩) [1]∧yD w' (some ⟨b3,0,none⟩) [2]∧yD w' (some ⟨b4,0,none⟩) [1,2]∧yD w' (some ⟨b5,0,none⟩) [4,3]:=by
 go_enter Tryz.func61,Tryz.ntmps61
 go_wp2_with fail
 refine(jj 1 1 none 0 0 _).mono ?_
 rintro e w1 ⟨rfl,zM⟩
 go_wp2_with fail
 have k2:yD (w1.alloc (.cells #[.int .i64 1] 3)) (some ⟨w1.heap.size,0,none⟩) [1]:=rX w1 [1] 3 _ rfl
 have zT:=zM.alloc zM.size (.cells #[.int .i64 1] 3)
 refine(jj 2 2 _ 1 1 _).mono ?_
 rintro e w2 ⟨rfl,zZ⟩
 have j2:=k2.below zZ
 have zj:=zT.trans (zZ.mono (by have:=zM.size;simp;omega))
 clear k2 zT zZ zM
 go_wp2_with fail
 have k3:yD (w2.alloc (.cells #[.int .i64 2] 3)) (some ⟨w2.heap.size,0,none⟩) [2]:=rX w2 [2] 3 _ rfl
 have xL:=zj.alloc zj.size (.cells #[.int .i64 2] 3)
 have l2:=j2.below (zB w2 (.cells #[.int .i64 2] 3))
 refine(jj 3 3 _ 1 1 _).mono ?_
 rintro e w3 ⟨rfl,yT⟩
 have j3:=k3.below yT
 have m2:=l2.below yT
 have xZ:=xL.trans (yT.mono (by have:=zj.size;simp;omega))
 clear k3 xL yT l2 j2 zj
 go_wp2_with fail
 have k4:yD (w3.alloc (.cells #[.int .i64 1,.int .i64 2] 3)) (some ⟨w3.heap.size,0,none⟩) [1,2]:=rX w3 [1,2] 3 _ rfl
 have su:=xZ.alloc xZ.size (.cells #[.int .i64 1,.int .i64 2] 3)
 have l2:=m2.below (zB w3 (.cells #[.int .i64 1,.int .i64 2] 3))
 have l3:=j3.below (zB w3 (.cells #[.int .i64 1,.int .i64 2] 3))
 refine(jj 4 2 _ 2 2 _).mono ?_
 rintro e w4 ⟨rfl,xR⟩
 have n2:=l2.below xR
 have n3:=l3.below xR
 have n4:=k4.below xR
 have nE:=su.trans (xR.mono (by have:=xZ.size;simp;omega))
 clear k4 su xR l2 l3 xZ m2 j3
 go_wp2_with fail
 have k5:yD (w4.alloc (.cells #[.int .i64 4,.int .i64 3] 3)) (some ⟨w4.heap.size,0,none⟩) [4,3]:=rX w4 [4,3] 3 _ rfl
 have MP:=nE.alloc nE.size (.cells #[.int .i64 4,.int .i64 3] 3)
 have l2:=n2.below (zB w4 (.cells #[.int .i64 4,.int .i64 3] 3))
 have l3:=n3.below (zB w4 (.cells #[.int .i64 4,.int .i64 3] 3))
 have l4:=n4.below (zB w4 (.cells #[.int .i64 4,.int .i64 3] 3))
 refine(jj 5 3 _ 2 2 _).mono ?_
 rintro e w5 ⟨rfl,xu⟩
 have p2:=l2.below xu
 have p3:=l3.below xu
 have p4:=l4.below xu
 have p5:=k5.below xu
 have Cu:=MP.trans (xu.mono (by have:=nE.size;simp;omega))
 clear k5 MP xu l2 l3 l4 nE n2 n3 n4
 have hs8:=Cu.size
 go_wp2
 go_ret
 exact⟨w5.heap.size,w1.heap.size,w2.heap.size,w3.heap.size,w4.heap.size,rfl,Cu.alloc hs8 _,hs8,by simp,heap_alloc_new w5 _,p2.below (zB _ _),p3.below (zB _ _),p4.below (zB _ _),p5.below (zB _ _)⟩
theorem aK{s:ByteArray}{i k i' k':Int}{L T L' T':List Int}(h:YP s i k L T)(h':YP s i' k' L' T'):i=i'∧k=k'∧L=L'∧T=T':=by
 obtain⟨r,e⟩:=h
 obtain⟨r',e'⟩:=h'
 rw[e]at e'
 simp only[Ly,List.append_assoc,List.cons_append,List.nil_append,List.cons.injEq]at e'
 obtain⟨e0,e1,e2,e3⟩:=e'
 have hl:L.length=L'.length:=by omega
 obtain⟨eL,e4⟩:=List.append_inj e3 hl
 simp only[List.cons.injEq]at e4
 obtain⟨e5,e6⟩:=e4
 have ht:T.length=T'.length:=by omega
 exact⟨e0,e1,eL,(List.append_inj e6 ht).1⟩
section
open Go.RowKit
theorem rl(i k:Int)(L:List Int)(t:ByteArray):xi i k L t i k L t=true:=by simp[xi,nK]
structure Bun(w:World)(B:Nat)(a:Option Addr)(cap:Nat)(wp:World):Prop where
 below:Below w.heap.size w wp
 cell4:xH B (.int .i64 5) (.int .i64 3) (.slice a 2 cap) (.string PI) wp
 holds:yD wp a [4,3]
 le:w.heap.size≤B
theorem Bun.cells{w:World}{B:Nat}{a:Option Addr}{cap:Nat}{wp:World}(h:Bun w B a cap wp):wp.cell? ⟨B,0,none⟩=some (.int .i64 5)∧wp.cell? ⟨B,1,none⟩=some (.int .i64 3)∧wp.cell? ⟨B,2,none⟩=some (.slice a 2 cap)∧wp.cell? ⟨B,3,none⟩=some (.string PI):=
 ⟨h.cell4.c0,h.cell4.c1,h.cell4.c2,h.cell4.c3⟩
theorem Bun.step{w:World}{B:Nat}{a:Option Addr}{cap:Nat}{wp wx:World}(h:Bun w B a cap wp)(hB:Below wp.heap.size wp wx):Bun w B a cap wx:=
 ⟨h.below.trans (hB.mono h.below.size),h.cell4.below hB h.cell4.lt,h.holds.below hB,h.le⟩
theorem Bun.alloc{w:World}{B:Nat}{a:Option Addr}{cap:Nat}{wp:World}(h:Bun w B a cap wp)(o:Obj):Bun w B a cap (wp.alloc o):=h.step (zB _ _)
theorem Bun.drew{w:World}{B:Nat}{a:Option Addr}{cap:Nat}{wp:World}(h:Bun w B a cap wp):Bun w B a cap wp.drew:=h.step (Below.refl _ _).drew
attribute [local go_sem ↓] Go.wp_at_zero Go.wp_at_succ
end
theorem VS(a b:ByteArray):nY (a++b)=nY a++nY b:=by
 simp only[nY,ByteArray.data_append,Array.toList_append,List.map_append]
theorem Uq{N:List Int}(h: ∀x∈N,0≤x∧x≤255):nY (strOfNums N)=N:=by
 unfold nY
 rw[strOfNums_data,List.map_map]
 conv=>rhs;rw[←List.map_id N]
 refine List.map_congr_left fun x hx=>?_
 have:=h x hx
 simp only[Function.comp,id]
 rw[UInt8.toNat_ofNat']
 omega
theorem LG{a b:ByteArray}(h:nY a=nY b):a=b:=by
 rw[←ew a,←ew b,h]
theorem VI{id kind:Int}{L:List Int}{t:ByteArray}(h:xC id kind L t.size=0):nY (strOfNums (vh id kind L t.size)++t)=Ly id kind L (nY t):=by
 obtain⟨h1,h2,h3,h4,h5,_⟩:=xg h
 rw[VS,Uq]
 ·simp[vh,Ly,LW]
 ·intro x hx
  simp only[vh,List.mem_append,List.mem_cons,List.not_mem_nil,or_false]at hx
  rcases hx with(((rfl|rfl|rfl)|hx)|rfl)
  ·omega
  ·omega
  ·omega
  ·have:=rm L 0 0 h5 x hx;omega
  ·omega
section
open Go.ChangeShapes Go.WideShapes Go.ChangeAt Go.RowKit Go.Joins
theorem Tryz.own:ownKnob Tryz.prog.godebug=none:=by kernel_rfl
theorem Tryz.laidOut:laidOutB Tryz.prog=true:=by kernel_rfl
theorem Tryz.cells3:Tryz.prog.cellsOf 3=1:=by kernel_rfl
theorem Tryz.cells58:Tryz.prog.cellsOf 58=4:=by kernel_rfl
theorem sF{w:World}{a:Addr}{v:Value}(h:w.cell? a=some v):a.block<w.heap.size:=by
 rcases Nat.lt_or_ge a.block w.heap.size with h1|h1
 ·exact h1
 ·simp[World.cell?,Array.getElem?_eq_none h1]at h
end
theorem nH(w:World)(ty:TypeId)(n kB:Nat)(g:Option Addr)(ad:Option Addr)(c:Nat)(hg:g=none→n=0∧kB=0)(hn:n≤kB):
  (Builtin.append_ #[45,45] ty #[.slice g n kB,.slice ad 0 c]).run Tryz.prog w= .ok (.slice g n kB) w:=by
 obtain⟨i0,hi,sW,YG,ky⟩:=info_parts Tryz.info3
 cases g with
 |none=>
  obtain⟨rfl,rfl⟩:=hg rfl
  cases ad<;>simp[Builtin.append_,run_underlying Tryz.underlying45,sizeOf,typeInfo,hi,Builtin.lenOf,Builtin.firstCells,loadCells,loadCellsFrom]
 |some g=>
  cases ad<;>simp[Builtin.append_,run_underlying Tryz.underlying45,sizeOf,typeInfo,hi,Builtin.lenOf,Builtin.firstCells,loadCells,loadCellsFrom,hn,storeCells]
theorem fy(w:World)(ty:TypeId)(base n:Nat)(v:Value)(xs:List Int)(yj:w.ownsRow base 3 1 v n (xs.map (Value.int .i64)))
  (ad:Option Addr) (m c:Nat) (L:List Int) (hm:L.length=m) (hh:yD w ad L) (hn:n+m≤1000) (xq:base≤w.heap.size):
  ∃g' N ux w',N=n+m∧(Builtin.append_ #[45,45] ty #[v, .slice ad m c]).run Tryz.prog w= .ok (.slice g' N ux) w'∧
   w'.ownsRow base 3 1 (.slice g' N ux) N ((xs++L).map (Value.int .i64))∧w.grownBy w' v.ownBlock:=by
 obtain⟨i0,hi,sW,YG,ky⟩:=info_parts Tryz.info3
 by_cases h0:m=0
 ·subst h0
  have hL:L=[]:=List.eq_nil_of_length_eq_zero hm
  subst hL
  have UT:w.grownBy w v.ownBlock:=⟨rfl,rfl,rfl,Nat.le_refl _,fun _ _ _=>rfl⟩
  rcases yj.2 with⟨rfl,rfl⟩|⟨g,cap,cur,rfl,hb,hg,SK,qt,mz,htk⟩
  ·exact⟨none,0,0,w,rfl,nH w ty 0 0 none ad c (by simp) (Nat.le_refl _),by simpa using yj,UT⟩
  ·exact⟨_,n,cap,w,rfl,nH w ty n cap _ ad c (by simp) SK,by simpa using yj,UT⟩
 ·have hlen:0<L.length:=by omega
  obtain⟨b,off,rfl,hb,hc⟩:=hh 0 hlen
  obtain⟨g,cap,w',hr,h1,h2,_,_⟩:=run_append_lies w 45 ty base 3 i0 (.int .i64 0) 1 8 Tryz.underlying45 hi sW YG ky rfl (by decide) v n _ yj ⟨b,off,none⟩ m c (L.map (Value.int .i64)) (by simp[hm])
   (fun j u hj=>by
    have j8:j<L.length:=by
     rcases Nat.lt_or_ge j L.length with h|h
     ·exact h
     ·simp[List.getElem?_eq_none (show(L.map (Value.int .i64)).length≤j by simpa using h)]at hj
    have vd:(⟨b,off,none⟩:Addr).add j=⟨b,off+j,none⟩:=by unfold Addr.add;split<;>simp_all
    rw[vd,hc j j8]
    simp[List.getElem?_eq_getElem j8]at hj
    subst hj
    simp[List.getElem?_eq_getElem j8])
   (fun u hu=>by simp at hu;obtain⟨x,_,rfl⟩:=hu;rfl) (by omega) (by unfold maxLen;omega) (by omega) xq _ rfl
  exact⟨_,n+m,cap,w',rfl,hr,by simpa using h1,h2⟩
end Go.Proofs.YtehmlpkapjdhkaaGreatDoor
