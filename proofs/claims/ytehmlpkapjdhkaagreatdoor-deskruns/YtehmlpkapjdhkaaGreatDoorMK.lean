import Derived.Test.YtehmlpkapjdhkaaGreatDoorMU
namespace Go.Proofs.YtehmlpkapjdhkaaGreatDoor
set_option maxHeartbeats 16000000
open Go.RowKit
set_option maxRecDepth 100000
def R7(x:Int):Prop:=0≤x∧x≤7
theorem R7.ite{c:Prop}[Decidable c]{a b:Int}(ha:R7 a)(hb:R7 b):R7 (if c then a else b):=by split<;>assumption
theorem r7(x:Nat)(h:x≤7:=by decide):R7 (x:Int):=⟨by omega,by omega⟩
theorem WV(id kind:Int): ∀(L:List Int) (i:Nat) (last:Int),R7 (yR id kind i last L)
 |[],_,_=>r7 0
 |_::xs,_,_=>(r7 3).ite ((r7 4).ite (WV id kind xs _ _))
theorem Wo(id kind:Int)(L:List Int)(n:Nat):R7 (xC id kind L n):=
 (r7 3).ite ((r7 7).ite ((r7 2).ite ((WV _ _ _ _ _).ite ((r7 1).ite (r7 0)))))
theorem cz: ∀m:List Ob,R7 (yL m)
 |[]=>r7 0
 |x::m=>R7.ite (Wo _ _ _ _) (cz m)
theorem XV(l:List Ob)(kind:Int): ∀(L:List Int) (i:Nat),R7 (vZ l kind i L)
 |[],_=>r7 0
 |_::xs,_=>(r7 5).ite ((r7 7).ite (XV l kind xs _))
theorem Kz(l:List Ob)(last:Int)(x:Ob):R7 (rO l last x):=R7.ite (Wo _ _ _ _) ((r7 4).ite (XV _ _ _ _))
theorem VY(l:List Ob): ∀(m:List Ob) (last:Int),R7 (vn l last m)
 |[],_=>r7 0
 |x::m,_=>(Kz _ _ _).ite (VY l m _)
theorem mY(l:List Ob):R7 (zK l):=(r7 2).ite (VY _ _ _)
theorem Fl: ∀b,R7 (Ut b)
 |true=>r7 0
 |false=>r7 6
theorem Pn(L:List Ob)(x:Ob):R7 (xW L x):=by
 unfold xW
 split
 ·exact(r7 0).ite (Fl _)
 ·exact r7 0
theorem bA: ∀(m L:List Ob),R7 (zw L m)
 |[],_=>r7 0
 |x::m,_=>(Pn _ _).ite (bA m _)
theorem NI(l m:List Ob):R7 (xD l m):=(mY _).ite ((r7 2).ite ((cz _).ite ((bA _ _).ite (mY _))))
theorem Yo(s:ByteArray):R7 (yf s):=(r7 2).ite ((r7 1).ite (r7 0))
theorem Qe(l:List Ob)(id:Int):R7 (xS l id):=(r7 5).ite ((r7 7).ite (r7 0))
theorem VL(o:List Ob): ∀(l:List Rf) (last:ByteArray),R7 (uG o last l)
 |[],_=>r7 0
 |r::rs,_=>(Yo _).ite ((r7 4).ite ((Qe _ _).ite (VL o rs _)))
theorem SL(l:List Rf)(o:List Ob):R7 (yG l o):=(mY _).ite ((r7 2).ite ((VL _ _ _).ite ((r7 6).ite (r7 0))))
theorem Ny(l:List Ob)(ids:List Int):R7 (uK l ids):=(r7 0).ite (r7 5)
theorem Ri(l:List Ob)(a b:Int):R7 (yZ l a b):=(mY _).ite ((Ny _ _).ite ((r7 7).ite (r7 0)))
theorem Fm(o:List Ob)(f:Bool)(u:Up):R7 (rB o f u):=(Ri _ _ _).ite ((r7 0).ite (r7 4))
theorem RN(o:List Ob)(f:Bool)(l:List Rf)(u:Up):R7 (xo o f l u):=(r7 4).ite ((r7 0).ite (Fm _ _ _))
theorem Px(o:List Ob)(f:Bool): ∀(us:List Up) (l:List Rf),R7 (uN o f l us)
 |[],_=>r7 0
 |u::us,_=>(RN _ _ _ _).ite (Px o f us _)
theorem KL(q:List Up)(u:Up):R7 (vf q u):=(Yo _).ite ((r7 3).ite ((r7 1).ite ((r7 6).ite (r7 0))))
theorem Xh: ∀(us q:List Up),R7 (uu q us)
 |[],_=>r7 0
 |u::us,_=>(KL _ _).ite (Xh us _)
theorem gk(us:List Up):R7 (yd us):=(r7 5).ite ((r7 2).ite (Xh _ _))
theorem Nx(l:List Rf)(o:List Ob)(us:List Up)(f:Bool):R7 (xI l o us f):=(SL _ _).ite ((gk _).ite ((Px _ _ _ _).ite (SL _ _)))
theorem JV(m:List Ob)(us:List Up):R7 (zr m us):=(r7 2).ite ((cz _).ite (gk _))
theorem FC(s:List Ob)(l:List Rf)(m:List Ob)(us:List Up)(f:Bool):R7 (xX s l m us f):=(JV _ _).ite ((NI _ _).ite (Nx _ _ _ _))
/- order does not matter: any order of the updates. -/
abbrev b3V(a b c:ByteArray):Value:=.agg #[.string a,.string b,.string c]
def vl(a v:ByteArray):Nat:=if(a.toList==v.toList)=true then 1 else 0
def PH(a b c v:ByteArray):Nat:=vl a v+vl b v+vl c v
theorem pu(a v:ByteArray):vl a v≤1:=by unfold vl;split<;>omega
theorem Ye{a v:ByteArray}(h:(a.toList==v.toList)=true):vl a v=1:=by unfold vl;rw[if_pos h]
theorem YS{a v:ByteArray}(h:(a.toList==v.toList)=false):vl a v=0:=by unfold vl;rw[h];rfl
theorem As(a b c:ByteArray)(w:World):(Instr.index 144 (b3V a b c) (.int .i64 0)).run Tryz.prog w= .ok (.string a) w:=by rfl
theorem Ak(a b c:ByteArray)(w:World):(Instr.index 144 (b3V a b c) (.int .i64 1)).run Tryz.prog w= .ok (.string b) w:=by rfl
theorem zAF(a b c:ByteArray)(w:World):(Instr.index 144 (b3V a b c) (.int .i64 2)).run Tryz.prog w= .ok (.string c) w:=by rfl
theorem QU(a b c v:ByteArray)(w:World):Calls Tryz.prog 164 #[b3V a b c,.string v] w fun e w'=>e= .returned (.int .i64 (PH a b c v:Nat))∧Below w.heap.size w w':=by
 have hA:=zB w (.cells #[.string a,.string b,.string c] 144)
 have pF:=heap_alloc_new w (.cells #[.string a,.string b,.string c] 144)
 go_enter Tryz.func164,Tryz.ntmps164
 go_wp2
 go_loopw [5,9] (fun n i wr=>∃(m k:Nat),n= .int .i64 m∧i= .int .i64 k∧k≤3∧m=(if 0<k then vl a v else 0)+(if 1<k then vl b v else 0)+(if 2<k then vl c v else 0)∧Below w.heap.size w wr) (fun _ i _=>3-(intOf i).toNat)
 case atStart=>exact⟨0,0,rfl,rfl,by omega,rfl,hA⟩
 case round=>
  obtain⟨m,k,rfl,rfl,hk,hm,hB⟩:=hrel
  have h1:=pu a v
  have h2:=pu b v
  have h3:=pu c v
  have i0:=As a b c wr
  have i1:=Ak a b c wr
  have i2:=zAF a b c wr
  match k,hk with
  |0,_=>
   have YW:m=0:=by simpa using hm
   subst YW
   clear hm
   cases hq:(a.toList==v.toList)with
   |true=>
    have HO:Hid (vl a v=1):=Ye hq
    go_wp2
    go_roundw
    case rel=>exact⟨1,1,by go_num,by go_num,by omega,by have:=HO.out;simp;omega,hB⟩
    case measure=>simp[intOf]
   |false=>
    have HO:Hid (vl a v=0):=YS hq
    go_wp2
    go_roundw
    case rel=>exact⟨0,1,by go_num,by go_num,by omega,by have:=HO.out;simp;omega,hB⟩
    case measure=>simp[intOf]
  |1,_=>
   have YW:m=vl a v:=by simpa using hm
   clear hm
   have ri:IntKind.i64.wrap ((m:Int)+1)=(m:Int)+1:=by rw[YW];simp[IntKind.wrap,IntKind.bits,IntKind.signed];omega
   cases hq:(b.toList==v.toList)with
   |true=>
    have HO:Hid (vl b v=1):=Ye hq
    have HM:Hid (m=vl a v):=YW
    clear YW h1 h2 h3
    go_wp2
    go_roundw
    case rel=>exact⟨m+1,2,by simp,by go_num,by omega,by have:=HO.out;have:=HM.out;simp;omega,hB⟩
    case measure=>simp[intOf]
   |false=>
    have HO:Hid (vl b v=0):=YS hq
    have HM:Hid (m=vl a v):=YW
    clear YW h1 h2 h3
    go_wp2
    go_roundw
    case rel=>exact⟨m,2,by go_num,by go_num,by omega,by have:=HO.out;have:=HM.out;simp;omega,hB⟩
    case measure=>simp[intOf]
  |2,_=>
   have YW:m=vl a v+vl b v:=by simpa using hm
   clear hm
   have ri:IntKind.i64.wrap ((m:Int)+1)=(m:Int)+1:=by rw[YW];simp[IntKind.wrap,IntKind.bits,IntKind.signed];omega
   cases hq:(c.toList==v.toList)with
   |true=>
    have HO:Hid (vl c v=1):=Ye hq
    have HM:Hid (m=vl a v+vl b v):=YW
    clear YW h1 h2 h3
    go_wp2
    go_roundw
    case rel=>exact⟨m+1,3,by simp,by go_num,by omega,by have:=HO.out;have:=HM.out;simp;omega,hB⟩
    case measure=>simp[intOf]
   |false=>
    have HO:Hid (vl c v=0):=YS hq
    have HM:Hid (m=vl a v+vl b v):=YW
    clear YW h1 h2 h3
    go_wp2
    go_roundw
    case rel=>exact⟨m,3,by go_num,by go_num,by omega,by have:=HO.out;have:=HM.out;simp;omega,hB⟩
    case measure=>simp[intOf]
  |3,_=>
   have HM:Hid (m=PH a b c v):=by unfold Hid PH;simpa using hm
   clear hm h1 h2 h3
   go_wp2
   go_ret
   exact⟨zE (by rw[HM.out]),hB⟩
def aG(a b c v:ByteArray):Bool:=decide (2≤PH a b c v)
theorem Zy(a b c v:ByteArray)(w:World):Calls Tryz.prog 99 #[b3V a b c,.string v] w fun e w'=>e= .returned (.bool (aG a b c v))∧Below w.heap.size w w':=by
 have hA:=zB w (.cells #[.string a,.string b,.string c] 144)
 have h1:=pu a v
 have h2:=pu b v
 have h3:=pu c v
 have hc:PH a b c v≤3:=by unfold PH;omega
 have ri:IntKind.i64.wrap (2*(PH a b c v:Int))=2*(PH a b c v:Int):=by simp[IntKind.wrap,IntKind.bits,IntKind.signed];omega
 have HW:Hid (aG a b c v=decide (3<2*(PH a b c v:Int))):=by unfold Hid aG;rw[decide_eq_decide];omega
 clear h1 h2 h3 hc
 go_enter Tryz.func99,Tryz.ntmps99
 go_wp2_with fail
 refine(QU a b c v _).mono ?_
 rintro e w1 ⟨rfl,zM⟩
 have hB:=bt hA zM
 clear hA zM
 go_wp2
 go_ret
 exact⟨by rw[HW.out];rfl,hB⟩
def rp(w:World)(a:Option Addr)(l:List ByteArray):Prop:=
 ∀i,i<l.length→∃b off,a=some ⟨b,off,none⟩∧b<w.heap.size∧∀j (hj:j<l.length),w.cell? ⟨b,off+j,none⟩=some (.string l[j])
theorem rp.below{w w':World}{a:Option Addr}{l:List ByteArray}(h:rp w a l)(hb:Below w.heap.size w w'):rp w' a l:=by
 intro i hi
 obtain⟨b,off,e,zN,hc⟩:=h i hi
 exact⟨b,off,e,Nat.lt_of_lt_of_le zN hb.size,fun j hj=>(hb.cell (p:=⟨b,off+j,none⟩) zN).trans (hc j hj)⟩
abbrev bo:ByteArray:={data:=#[121,101,115]}
abbrev yJ:ByteArray:={data:=#[]}
def pr(v:ByteArray):Bool:=Lib.hasPrefix v.data.toList bo.data.toList
def vj(a b c v:ByteArray):Bool:=pr v&&aG a b c v
def nX(a b c:ByteArray):List ByteArray→ByteArray×Bool
 |[]=>(yJ,false)
 |v::r=>if vj a b c v=true then(v,true)else nX a b c r
def qf(a b c:ByteArray):ByteArray×Bool:=nX a b c [a,b,c]
theorem Qg(al:Option Addr)(cc:Nat)(a b c:ByteArray)(w:World)(h:rp w al [a,b,c]):
  Calls Tryz.prog 46 #[.slice al 3 cc] w fun e w'=>e= .returned (.tuple #[.string (qf a b c).1,.bool (qf a b c).2])∧Below w.heap.size w w':=by
 obtain⟨ab,off,rfl,FY,hc⟩:=h 0 (by simp)
 have e0:=hc 0 (by simp)
 have e1:=hc 1 (by simp)
 have e2:=hc 2 (by simp)
 simp only[List.getElem_cons_zero,List.getElem_cons_succ]at e0 e1 e2
 clear hc h
 have hA:=zB w (.cells #[.string yJ,.string yJ,.string yJ] 144)
 have hk:=heap_alloc_new w (.cells #[.string yJ,.string yJ,.string yJ] 144)
 have d0:=(hA.cell (p:=⟨ab,off+0,none⟩) FY).trans e0
 have d1:=(hA.cell (p:=⟨ab,off+1,none⟩) FY).trans e1
 have d2:=(hA.cell (p:=⟨ab,off+2,none⟩) FY).trans e2
 have Z4:=run_copy_row (P:=Tryz.prog) (w.alloc (.cells #[.string yJ,.string yJ,.string yJ] 144)) 93 93 3 9 w.heap.size 0 3 3 ⟨ab,off,none⟩ 3 cc #[.string yJ,.string yJ,.string yJ] 144 [.string a,.string b,.string c] Tryz.underlying93 (by kernel_rfl) hk rfl
  (fun j v hj=>by
   have vd: ∀j,(⟨ab,off,none⟩:Addr).add j=⟨ab,off+j,none⟩:=fun j=>by unfold Addr.add;split<;>simp_all
   rw[vd]
   match j,hj with
   |0,hj=>simp at hj;rw[←hj];exact d0
   |1,hj=>simp at hj;rw[←hj];exact d1
   |2,hj=>simp at hj;rw[←hj];exact d2
   |j+3,hj=>simp at hj) (by simp) (by intro v hv;simp only[List.mem_cons,List.not_mem_nil,or_false]at hv;rcases hv with rfl|rfl|rfl<;>rfl)
 have zT:Below w.heap.size w ((w.alloc (.cells #[.string yJ,.string yJ,.string yJ] 144)).setRow w.heap.size #[.string a,.string b,.string c]):=below_setRow hA (Nat.le_refl _) _
 have xa:((w.alloc (.cells #[.string yJ,.string yJ,.string yJ] 144)).setRow w.heap.size #[.string a,.string b,.string c]).heap[w.heap.size]? =some (.cells #[.string a,.string b,.string c] 144):=by
  exact setRow_heap _ _ _ _ _ _ hk
 simp only[List.take_zero,List.nil_append,List.length_cons,List.length_nil,Nat.zero_add,List.drop_succ_cons,List.drop_zero,List.append_nil]at Z4
 have x0:((w.alloc (.cells #[.string yJ,.string yJ,.string yJ] 144)).setRow w.heap.size #[.string a,.string b,.string c]).cell? ⟨w.heap.size,0,none⟩=some (.string a):=by rw[cell_of_row _ _ _ _ _ _ xa];rfl
 have x1:((w.alloc (.cells #[.string yJ,.string yJ,.string yJ] 144)).setRow w.heap.size #[.string a,.string b,.string c]).cell? ⟨w.heap.size,1,none⟩=some (.string b):=by rw[cell_of_row _ _ _ _ _ _ xa];rfl
 have x2:((w.alloc (.cells #[.string yJ,.string yJ,.string yJ] 144)).setRow w.heap.size #[.string a,.string b,.string c]).cell? ⟨w.heap.size,2,none⟩=some (.string c):=by rw[cell_of_row _ _ _ _ _ _ xa];rfl
 clear d0 d1 d2 e0 e1 e2 hA hk FY
 go_enter Tryz.func46,Tryz.ntmps46
 go_wp2_with (at_builtin;refine wpList_copy_g (by rfl) (.tmp 10) (.tmp 11) (by rfl) _ _ (by rfl) (by rfl) Z4 ?_)
 generalize (w.alloc (.cells #[.string yJ,.string yJ,.string yJ] 144)).setRow w.heap.size #[.string a,.string b,.string c]=W at *
 clear Z4
 have hW:=zG xa
 go_loopw [14] (fun i wr=>∃k:Nat,i= .int .i64 k∧k≤3∧Hid (qf a b c=nX a b c ([a,b,c].drop k))∧Below W.heap.size W wr) (fun i _=>3-(intOf i).toNat)
 case atStart=>exact⟨0,rfl,by omega,rfl,Below.refl _ _⟩
 case round=>
  obtain⟨k,rfl,hk,HT,vH⟩:=hrel
  have qM:=bt zT vH
  have y0:=(vH.cell (p:=⟨w.heap.size,0,none⟩) hW).trans x0
  have y1:=(vH.cell (p:=⟨w.heap.size,1,none⟩) hW).trans x1
  have y2:=(vH.cell (p:=⟨w.heap.size,2,none⟩) hW).trans x2
  clear x0 x1 x2 xa
  have i0:=As a b c wr
  have i1:=Ak a b c wr
  have i2:=zAF a b c wr
  match k,hk with
  |0,_=>
   cases hp:pr a with
   |true=>
    have qv:Lib.hasPrefix a.data.toList [121,101,115]=true:=hp
    go_wp2_with fail
    refine(Tryz.strings_HasPrefix a bo _).mono ?_
    rintro e w1 ⟨rfl,rfl⟩
    go_wp2_with fail
    refine(Zy a b c a _).mono ?_
    rintro e w1 ⟨rfl,zM⟩
    have zj:=bt vH zM
    have gV:=bt qM zM
    clear zM vH qM y0 y1 y2
    cases hq:aG a b c a with
    |true=>
     have HE:Hid (qf a b c=(a,true)):=by unfold Hid;rw[HT.out];show(if vj a b c a=true then(a,true)else _)=_;unfold vj;rw[hp,hq];rfl
     clear HT hp hq
     go_wp2
     refine bodyPost_ret (v:=.tuple #[.string a,.bool true]) (by simp[results,Tryz.results46,go_sem]) rfl ?_
     exact⟨by rw[HE.out],gV⟩
    |false=>
     have HE:Hid (qf a b c=nX a b c ([a,b,c].drop 1)):=by unfold Hid;rw[HT.out];show(if vj a b c a=true then(a,true)else _)=_;unfold vj;rw[hp,hq];rfl
     clear HT hp hq
     go_wp2
     go_roundw
     case rel=>exact⟨1,by go_num,by omega,HE,zj⟩
     case measure=>simp[intOf]
   |false=>
    have qv:Lib.hasPrefix a.data.toList [121,101,115]=false:=hp
    have HE:Hid (qf a b c=nX a b c ([a,b,c].drop 1)):=by unfold Hid;rw[HT.out];show(if vj a b c a=true then(a,true)else _)=_;unfold vj;rw[hp];rfl
    clear HT hp
    go_wp2_with fail
    refine(Tryz.strings_HasPrefix a bo _).mono ?_
    rintro e w1 ⟨rfl,rfl⟩
    go_wp2
    go_roundw
    case rel=>exact⟨1,by go_num,by omega,HE,vH⟩
    case measure=>simp[intOf]
  |1,_=>
   cases hp:pr b with
   |true=>
    have qv:Lib.hasPrefix b.data.toList [121,101,115]=true:=hp
    go_wp2_with fail
    refine(Tryz.strings_HasPrefix b bo _).mono ?_
    rintro e w1 ⟨rfl,rfl⟩
    go_wp2_with fail
    refine(Zy a b c b _).mono ?_
    rintro e w1 ⟨rfl,zM⟩
    have zj:=bt vH zM
    have gV:=bt qM zM
    clear zM vH qM y0 y1 y2
    cases hq:aG a b c b with
    |true=>
     have HE:Hid (qf a b c=(b,true)):=by unfold Hid;rw[HT.out];show(if vj a b c b=true then(b,true)else _)=_;unfold vj;rw[hp,hq];rfl
     clear HT hp hq
     go_wp2
     refine bodyPost_ret (v:=.tuple #[.string b,.bool true]) (by simp[results,Tryz.results46,go_sem]) rfl ?_
     exact⟨by rw[HE.out],gV⟩
    |false=>
     have HE:Hid (qf a b c=nX a b c ([a,b,c].drop 2)):=by unfold Hid;rw[HT.out];show(if vj a b c b=true then(b,true)else _)=_;unfold vj;rw[hp,hq];rfl
     clear HT hp hq
     go_wp2
     go_roundw
     case rel=>exact⟨2,by go_num,by omega,HE,zj⟩
     case measure=>simp[intOf]
   |false=>
    have qv:Lib.hasPrefix b.data.toList [121,101,115]=false:=hp
    have HE:Hid (qf a b c=nX a b c ([a,b,c].drop 2)):=by unfold Hid;rw[HT.out];show(if vj a b c b=true then(b,true)else _)=_;unfold vj;rw[hp];rfl
    clear HT hp
    go_wp2_with fail
    refine(Tryz.strings_HasPrefix b bo _).mono ?_
    rintro e w1 ⟨rfl,rfl⟩
    go_wp2
    go_roundw
    case rel=>exact⟨2,by go_num,by omega,HE,vH⟩
    case measure=>simp[intOf]
  |2,_=>
   cases hp:pr c with
   |true=>
    have qv:Lib.hasPrefix c.data.toList [121,101,115]=true:=hp
    go_wp2_with fail
    refine(Tryz.strings_HasPrefix c bo _).mono ?_
    rintro e w1 ⟨rfl,rfl⟩
    go_wp2_with fail
    refine(Zy a b c c _).mono ?_
    rintro e w1 ⟨rfl,zM⟩
    have zj:=bt vH zM
    have gV:=bt qM zM
    clear zM vH qM y0 y1 y2
    cases hq:aG a b c c with
    |true=>
     have HE:Hid (qf a b c=(c,true)):=by unfold Hid;rw[HT.out];show(if vj a b c c=true then(c,true)else _)=_;unfold vj;rw[hp,hq];rfl
     clear HT hp hq
     go_wp2
     refine bodyPost_ret (v:=.tuple #[.string c,.bool true]) (by simp[results,Tryz.results46,go_sem]) rfl ?_
     exact⟨by rw[HE.out],gV⟩
    |false=>
     have HE:Hid (qf a b c=nX a b c ([a,b,c].drop 3)):=by unfold Hid;rw[HT.out];show(if vj a b c c=true then(c,true)else _)=_;unfold vj;rw[hp,hq];rfl
     clear HT hp hq
     go_wp2
     go_roundw
     case rel=>exact⟨3,by go_num,by omega,HE,zj⟩
     case measure=>simp[intOf]
   |false=>
    have qv:Lib.hasPrefix c.data.toList [121,101,115]=false:=hp
    have HE:Hid (qf a b c=nX a b c ([a,b,c].drop 3)):=by unfold Hid;rw[HT.out];show(if vj a b c c=true then(c,true)else _)=_;unfold vj;rw[hp];rfl
    clear HT hp
    go_wp2_with fail
    refine(Tryz.strings_HasPrefix c bo _).mono ?_
    rintro e w1 ⟨rfl,rfl⟩
    go_wp2
    go_roundw
    case rel=>exact⟨3,by go_num,by omega,HE,vH⟩
    case measure=>simp[intOf]
  |3,_=>
   have HE:Hid (qf a b c=(yJ,false)):=HT.out
   clear HT
   go_wp2
   refine bodyPost_ret (v:=.tuple #[.string yJ,.bool false]) (by simp[results,Tryz.results46,go_sem]) rfl ?_
   exact⟨by rw[HE.out],qM⟩
theorem Tryz.laysM171:Go.Proofs.LaysM.n171 Tryz.prog Tryz.lays171_ren:={Tryz.lays171 with
 m17:=by kernel_rfl
 m18:=by kernel_rfl
 m19:=by kernel_rfl
 i0:=by kernel_rfl
 i2:=by kernel_rfl
 i3:=by kernel_rfl
 i4:=by kernel_rfl
 i5:=by kernel_rfl
 i9:=by kernel_rfl
 i20:=by kernel_rfl
 i37:=by kernel_rfl
 i46:=by kernel_rfl
 i51:=by kernel_rfl
 i53:=by kernel_rfl
 i171:=by kernel_rfl
 i173:=by kernel_rfl
 i212:=by kernel_rfl
 i232:=by kernel_rfl
 i233:=by kernel_rfl
 }
theorem Tryz.strconv_Itoa (n : Int) (h0 : -9223372036854775808 ≤ n) (h1 : n ≤ 9223372036854775807) (w : World) (htab : Lib.TabIs Tryz.prog w (((Tryz.prog.globals[1]?).map (·.name)).getD "") .u64 Lib.pow10Tab) :
  Calls Tryz.prog 94 #[.int .i64 n] w fun e w'=>e= .returned (.string ⟨(Lib.itoa n).toArray⟩)∧∃k os,w'=Sort.grow (w.drewN k) os:=Go.Proofs.Any.strconv_Itoa Tryz.laysM171 n h0 h1 w (Eq.mp (by kernel_rfl) htab)
abbrev bP (w : World) : Prop := Lib.TabIs Tryz.prog w (((Tryz.prog.globals[1]?).map (·.name)).getD "") .u64 Lib.pow10Tab
theorem bP.below{w w':World}(h:bP w)(hb:Below w.heap.size w w'):bP w':=by
 unfold bP Lib.TabIs World.var? at *
 rw [show Tryz.prog.globalNamed (((Tryz.prog.globals[1]?).map (·.name)).getD "") = some 1 by kernel_rfl] at h ⊢
 simp only[Option.bind_some]at h⊢
 have zN:1<w.heap.size:=by
  rcases Nat.lt_or_ge 1 w.heap.size with c|c
  ·exact c
  ·rw[Array.getElem?_eq_none c]at h;cases h
 rw[hb.block 1 zN]
 exact h
theorem ke(w:World)(k:Nat)(os:Array Obj):Below w.heap.size w (Sort.grow (w.drewN k) os):=
 ⟨rfl,rfl,rfl,by simp[Sort.grow],fun i hi=>by
  show((w.drewN k).heap++os)[i]? =_
  rw[Array.getElem?_append_left (by show i<w.heap.size;omega)]
  rfl⟩
abbrev R4:ByteArray:={data:=#[110,111,32]}
abbrev qF:ByteArray:={data:=#[121,101,115,32]}
abbrev Ym:ByteArray:={data:=#[32]}
def zz(n:Int):ByteArray:=⟨(Lib.itoa n).toArray⟩
def t7(g:Int)(m:List Ob)(us:List Up):Int:=if zr m us≠0 then zr m us else if g<0∨999<g then 3 else 0
theorem Zf{g:Int}{m:List Ob}{us:List Up}:t7 g m us=0↔zr m us=0∧0≤g∧g≤999:=by
 unfold t7
 split
 ·rename_i h;exact⟨fun e=>absurd e h,fun e=>absurd e.1 h⟩
 ·rename_i h
  have h0:zr m us=0:=Classical.byContradiction h
  split
  ·constructor
   ·intro e;cases e
   ·intro e;omega
  ·exact⟨fun _=>⟨h0,by omega,by omega⟩,fun _=>rfl⟩
def je(s:List Ob)(l:List Rf)(g:Int)(m:List Ob)(us:List Up)(f:Bool):ByteArray:=
 if xX s l m us f≠0 then R4++zz (xX s l m us f)else qF++zz g++Ym++tQ us
def yY(s:List Ob)(l:List Rf)(g:Int)(m:List Ob)(us:List Up)(f:Bool):ByteArray:=if t7 g m us≠0 then yJ else je s l g m us f
theorem rn(a b:ByteArray):(a++b).size=a.size+b.size:=by simp[ByteArray.size_append]
theorem x9: ∀n:Nat,n≤999→(zz (n:Int)).size≤3:=by decide +kernel
theorem cd(us:List Up):(tQ us).size≤404:=by
 unfold tQ
 split
 ·rename_i h
  obtain⟨_,h2,h3,_⟩:=ve.1 h
  have hp:=vw us
  have:=sS (sortU us) ⟨#[]⟩ (fun u hu=>h3 u (hp.mem_iff.1 hu))
  have hl:=hp.length_eq
  unfold dG
  have:(⟨#[]⟩:ByteArray).size=0:=rfl
  omega
 ·show(0:Nat)≤404;omega
theorem F8(aS:Option Addr)(cs:Nat)(s:List Ob)(al:Option Addr)(cl:Nat)(l:List Rf)(g ph:Int)(a1:Option Addr)(n1 c1:Nat)(a2:Option Addr)(n2 c2:Nat)(f0:Bool)(am:Option Addr)(cm:Nat)(m:List Ob)(au:Option Addr)(cu:Nat)(us:List Up)(f:Bool)(w:World)(hg:xr w)(ht:bP w)
  (hs:zP w aS s) (Le:s.length≤9223372036854775807) (hl:yU w al l) (M7:l.length≤9223372036854775807) (hm:zP w am m) (hml:m.length≤9223372036854775807) (hu:zx w au us) (hul:us.length≤9223372036854775807):
  Calls Tryz.prog 162 #[rF aS s.length cs al l.length cl g ph a1 n1 c1 a2 n2 c2 f0,uw am m.length cm au us.length cu f] w fun e w'=>e= .returned (.tuple #[.string (yY s l g m us f),.int .i64 (t7 g m us)])∧Below w.heap.size w w':=by
 have HE:Hid (t7 g m us=if zr m us≠0 then zr m us else if g<0∨999<g then 3 else 0):=rfl
 have hB:=zV w (.cells #[.slice aS s.length cs,.slice al l.length cl,.int .i64 g,.int .i64 ph,.slice a1 n1 c1,.slice a2 n2 c2,.bool f0] 36) (.cells #[.slice am m.length cm,.slice au us.length cu,.bool f] 28)
 have tu:=zB (w.alloc (.cells #[.slice aS s.length cs,.slice al l.length cl,.int .i64 g,.int .i64 ph,.slice a1 n1 c1,.slice a2 n2 c2,.bool f0] 36)) (.cells #[.slice am m.length cm,.slice au us.length cu,.bool f] 28)
 have xy:((w.alloc (.cells #[.slice aS s.length cs,.slice al l.length cl,.int .i64 g,.int .i64 ph,.slice a1 n1 c1,.slice a2 n2 c2,.bool f0] 36)).alloc (.cells #[.slice am m.length cm,.slice au us.length cu,.bool f] 28)).heap[w.heap.size+1]? =some (.cells #[.slice am m.length cm,.slice au us.length cu,.bool f] 28):=by
  have:=heap_alloc_new (w.alloc (.cells #[.slice aS s.length cs,.slice al l.length cl,.int .i64 g,.int .i64 ph,.slice a1 n1 c1,.slice a2 n2 c2,.bool f0] 36)) (.cells #[.slice am m.length cm,.slice au us.length cu,.bool f] 28)
  rwa[show(w.alloc (.cells #[.slice aS s.length cs,.slice al l.length cl,.int .i64 g,.int .i64 ph,.slice a1 n1 c1,.slice a2 n2 c2,.bool f0] 36)).heap.size=w.heap.size+1 by simp]at this
 have xa:((w.alloc (.cells #[.slice aS s.length cs,.slice al l.length cl,.int .i64 g,.int .i64 ph,.slice a1 n1 c1,.slice a2 n2 c2,.bool f0] 36)).alloc (.cells #[.slice am m.length cm,.slice au us.length cu,.bool f] 28)).heap[w.heap.size]? =some (.cells #[.slice aS s.length cs,.slice al l.length cl,.int .i64 g,.int .i64 ph,.slice a1 n1 c1,.slice a2 n2 c2,.bool f0] 36):=(tu.block _ (by simp)).trans (heap_alloc_new w _)
 obtain⟨y0,y1,y2⟩:=zQ xy
 have Vl:=sM am cm m au cu us f _ (hg.below hB) (hm.below hB) hml (hu.below hB) hul
 clear tu
 go_enter Tryz.func162,Tryz.ntmps162
 go_wp2_with fail
 refine Vl.mono ?_
 clear Vl
 rintro e w1 ⟨rfl,zM⟩
 have zT:=bt hB zM
 have mf:=zA5 zM xy
 have n8:=zA5 zM xa
 clear zM hB xy xa y0 y1 y2
 by_cases k1:zr m us=0
 case neg=>
  have HR:Hid (t7 g m us=zr m us∧yY s l g m us f=yJ):=by
   have e:t7 g m us=zr m us:=by rw[HE.out,if_pos k1]
   refine⟨e,?_⟩
   unfold yY
   rw[if_pos (by rw[e];exact k1)]
  have z1:(zr m us != 0)=true:=by simpa using k1
  clear k1 mf n8
  go_wp2
  refine bodyPost_ret (v:=.tuple #[.string yJ,.int .i64 (zr m us)]) (by simp[results,Tryz.results162,go_sem]) rfl ?_
  exact⟨by rw[HR.out.1,HR.out.2],zT⟩
 have HP:Hid (zr m us=0):=k1
 have qP:Hid (t7 g m us=if g<0∨999<g then 3 else 0):=by unfold Hid;rw[HE.out,if_neg (fun e=>e k1)]
 rw[k1]
 clear k1 HE
 have r2:w1.cell? ⟨w.heap.size,2,none⟩=some (.int .i64 g):=by rw[cell_of_row w1 _ _ _ _ _ n8];rfl
 by_cases kg:g<0∨999<g
 case pos=>
  have HR:Hid (t7 g m us=3∧yY s l g m us f=yJ):=by
   have e:t7 g m us=3:=by rw[qP.out,if_pos kg]
   refine⟨e,?_⟩
   unfold yY
   rw[if_pos (by rw[e];decide)]
  by_cases kn:g<0
  ·clear kg mf n8
   go_wp2
   refine bodyPost_ret (v:=.tuple #[.string yJ,.int .i64 3]) (by simp[results,Tryz.results162,go_sem]) rfl ?_
   exact⟨by rw[HR.out.1,HR.out.2],zT⟩
  ·have kp:999<g:=by omega
   clear kg mf n8
   go_wp2
   refine bodyPost_ret (v:=.tuple #[.string yJ,.int .i64 3]) (by simp[results,Tryz.results162,go_sem]) rfl ?_
   exact⟨by rw[HR.out.1,HR.out.2],zT⟩
 have kn: ¬g<0:=by omega
 have kp: ¬999<g:=by omega
 have HV:Hid (t7 g m us=0):=by unfold Hid;rw[qP.out,if_neg kg]
 have HS:Hid (yY s l g m us f=je s l g m us f):=by unfold Hid yY;rw[if_neg (fun e=>e HV.out)]
 clear kg qP
 obtain⟨y0,y1,y2⟩:=zQ mf
 obtain⟨r0,r1,r2',r3,r4,r5,r6⟩:=zI n8
 clear r2'
 have htr:=Kn aS cs s al cl l g ph a1 n1 c1 a2 n2 c2 f0 am cm m au cu us f w1 (hg.below zT) (hs.below zT) Le (hl.below zT) M7 (hm.below zT) hml (hu.below zT) hul
 go_wp2_with fail
 refine htr.mono ?_
 clear htr
 rintro e w2 ⟨zZ,xK⟩
 have zj:=bt zT zZ
 have dC:=zA5 zZ mf
 have dg:=zA5 zZ n8
 clear zZ zT mf n8 r0 r1 r2 r3 r4 r5 r6 y0 y1 y2
 rcases xK with⟨yM,rfl⟩|⟨hz,a3,c3,a4,c4,rfl,-,-,-⟩
 ·have HT:Hid (je s l g m us f=R4++zz (xX s l m us f)):=by unfold Hid je;rw[if_pos yM]
  have hr:=FC s l m us f
  have hit:=Tryz.strconv_Itoa (xX s l m us f) (by have:=hr.1;omega) (by have:=hr.2;omega) w2 (ht.below zj)
  have gB:(zz (xX s l m us f)).size≤3:=by
   have:=x9 (xX s l m us f).toNat (by have:=hr.1;have:=hr.2;omega)
   rwa[Int.toNat_of_nonneg hr.1]at this
  have z1:(xX s l m us f != 0)=true:=by simpa using yM
  clear yM dC dg hr
  go_wp2_with fail
  refine hit.mono ?_
  clear hit
  rintro e w3 ⟨rfl,k,os,rfl⟩
  have xL:=zj.trans ((ke w2 k os).mono zj.size)
  generalize Sort.grow (w2.drewN k) os=W3 at *
  have HI:Hid (zz (xX s l m us f)=(⟨(Lib.itoa (xX s l m us f)).toArray⟩:ByteArray)):=rfl
  rw[HI.out]at gB
  generalize (⟨(Lib.itoa (xX s l m us f)).toArray⟩:ByteArray)=J at *
  have eJ:(3:Int)+(J.size:Int)≤9223372036854775807:=by omega
  go_wp2
  refine bodyPost_ret (v:=.tuple #[.string (R4++J),.int .i64 0]) (by simp[results,Tryz.results162,go_sem]) rfl ?_
  exact⟨by rw[HV.out,HS.out,HT.out,HI.out],xL⟩
 ·have HT:Hid (je s l g m us f=qF++zz g++Ym++tQ us):=by unfold Hid je;rw[if_neg (fun q=>q hz)]
  have HU:Hid (yd us=0):=(sL.1 HP.out).2.2
  obtain⟨y0,y1,y2⟩:=zQ dC
  have CR:=LH au cu us w2 (hg.below zj) (hu.below zj) hul
  clear hz
  go_wp2_with fail
  refine CR.mono ?_
  clear CR
  rintro e w3 ⟨rfl,yT⟩
  rw[HU.out]
  have xL:=bt zj yT
  have LL:=zA5 yT dg
  have r2:w3.cell? ⟨w.heap.size,2,none⟩=some (.int .i64 g):=by rw[cell_of_row w3 _ _ _ _ _ LL];rfl
  have hit:=Tryz.strconv_Itoa g (by omega) (by omega) w3 (ht.below xL)
  have gB:(zz g).size≤3:=by
   have:=x9 g.toNat (by omega)
   rwa[Int.toNat_of_nonneg (by omega)]at this
  have hsu:=cd us
  clear yT zj dC dg LL y0 y1 y2 kn kp
  go_wp2_with fail
  refine hit.mono ?_
  clear hit
  rintro e w4 ⟨rfl,k,os,rfl⟩
  have xZ:=xL.trans ((ke w3 k os).mono xL.size)
  generalize Sort.grow (w3.drewN k) os=W4 at *
  clear xL r2
  have HI:Hid (zz g=(⟨(Lib.itoa g).toArray⟩:ByteArray)):=rfl
  rw[HI.out]at gB
  generalize (⟨(Lib.itoa g).toArray⟩:ByteArray)=J at *
  generalize tQ us=T at *
  have eJ:(4:Int)+(J.size:Int)≤9223372036854775807:=by omega
  have zNV:((qF++J).size:Int)+1≤9223372036854775807:=by rw[rn];have:qF.size=4:=rfl;omega
  have zNO:((qF++J++Ym).size:Int)+(T.size:Int)≤9223372036854775807:=by rw[rn,rn];have:qF.size=4:=rfl;have:Ym.size=1:=rfl;omega
  go_wp2
  refine bodyPost_ret (v:=.tuple #[.string (qF++J++Ym++T),.int .i64 0]) (by simp[results,Tryz.results162,go_sem]) rfl ?_
  exact⟨by rw[HV.out,HS.out,HT.out,HI.out],xZ⟩
abbrev sA:ByteArray:={data:=#[121,101,115,32,55,32,109,97,105,110,32,51,32,54,59]}
section
open Go.ChangeShapes Go.WideShapes Go.ChangeAt Go.RowKit Go.Joins Go.Deep
end
theorem xt.keep{w w':World}{z:Nat}{v:Value}{rs:List Pl}(h:xt w z v rs)(hs:w.heap.size≤w'.heap.size)(hk: ∀k,z≤k→w'.heap[k]? =w.heap[k]?):xt w' z v rs:=by
 refine⟨rM h.own (fun g hg=>hk g (h.own.lt g hg).1),fun r hr=>?_⟩
 obtain⟨h1,h2⟩:=h.each r hr
 refine⟨h1,fun h0=>?_⟩
 obtain⟨b,off,e,Zb,zN,yM,hc⟩:=h2 h0
 exact⟨b,off,e,Zb,Nat.lt_of_lt_of_le zN hs,yM,fun i hi=>(World.cell?_of_block (a:=⟨b,off+i,none⟩) (hk b Zb)).trans (hc i hi)⟩
theorem xt.from{w:World}{z z':Nat}{v:Value}{rs:List Pl}(h:xt w z v rs)(hz:z'≤z):xt w z' v rs:=by
 refine⟨⟨h.own.1,?_⟩,fun r hr=>?_⟩
 ·rcases h.own.2 with q|⟨g,cap,cur,q1,q2,q3⟩
  ·exact .inl q
  ·exact .inr ⟨g,cap,cur,q1,Nat.le_trans hz q2,q3⟩
 ·obtain⟨h1,h2⟩:=h.each r hr
  refine⟨h1,fun h0=>?_⟩
  obtain⟨b,off,e,Zb,q⟩:=h2 h0
  exact⟨b,off,e,Nat.le_trans hz Zb,q⟩
theorem vX{w:World}{z z':Nat}{e:TypeId}{size:Nat}{v:Value}{n:Nat}{xs:List Value}(h:w.ownsRow z e size v n xs)(hz:z'≤z):w.ownsRow z' e size v n xs:=by
 refine⟨h.1,?_⟩
 rcases h.2 with q|⟨g,cap,cur,q1,q2,q3⟩
 ·exact .inl q
 ·exact .inr ⟨g,cap,cur,q1,Nat.le_trans hz q2,q3⟩
theorem zL{w w':World}{z:Nat}{e:TypeId}{size:Nat}{v:Value}{n:Nat}{xs:List Value}(h:w.ownsRow z e size v n xs)(hb:Below w.heap.size w w'):w'.ownsRow z e size v n xs:=
 yi h (fun g hg=>hb.block g (h.lt g hg).2)
theorem vS{w w':World}{z:Nat}{e:TypeId}{size:Nat}{v:Value}{n:Nat}{xs:List Value}(h:w.ownsRow z e size v n xs)(hk: ∀k,z≤k→w'.heap[k]? =w.heap[k]?):w'.ownsRow z e size v n xs:=
 yi h (fun g hg=>hk g (h.lt g hg).1)
theorem kM{t e:TypeId}{i:TypeInfo}(ht:Tryz.prog.underlying t=some (.slice e))(hi:Tryz.prog.info? e=some i)(ty:TypeId)(ad:Option Addr)(c:Nat)(w:World):
  (Builtin.append_ #[t,t] ty #[.slice none 0 0,.slice ad 0 c]).run Tryz.prog w= .ok (.slice none 0 0) w:=by
 cases ad<;>simp[Builtin.append_,run_underlying ht,sizeOf,typeInfo,hi,Builtin.lenOf,Builtin.firstCells,loadCells,loadCellsFrom]
theorem gu{w w':World}(h:w.grownBy w' (Value.slice none 0 0).ownBlock):Below w.heap.size w w':=⟨h.os,h.tape,h.output,h.size,fun k hk=>h.block k hk (by simp[Value.ownBlock])⟩
theorem Yq(w:World)(ty:TypeId)(ad:Option Addr)(c:Nat)(l:List Rf)(h:yU w ad l)(hl:l.length≤900):
  ∃a' c' w',(Builtin.append_ #[34,34] ty #[.slice none 0 0,.slice ad l.length c]).run Tryz.prog w= .ok (.slice a' l.length c') w'∧w'.ownsRow w.heap.size 65 2 (.slice a' l.length c') l.length (xM l)∧Below w.heap.size w w':=by
 obtain⟨i0,sN,sW,xQ,pS⟩:=info_parts Tryz.info65
 by_cases h0:l.length=0
 ·have e:l=[]:=List.eq_nil_of_length_eq_zero h0
  subst e
  exact⟨none,0,w,kM Tryz.underlying34 sN ty ad c w,World.ownsRow_nil _ _ _ _,Below.refl _ _⟩
 ·obtain⟨b,off,rfl,_,hc⟩:=h 0 (by omega)
  obtain⟨v',w',hr,q1,q2⟩:=LF w w.heap.size ty (.slice none 0 0) [] (World.ownsRow_nil _ _ _ _) b off c l hc (by simpa using(by omega:l.length≤1000)) (Nat.le_refl _)
  simp only[List.nil_append]at q1
  obtain⟨a',c',e,_⟩:=qJ q1
  subst e
  exact⟨a',c',w',hr,q1,gu q2⟩
theorem XI(w:World)(ty:TypeId)(ad:Option Addr)(c:Nat)(l:List Up)(h:zx w ad l)(hl:l.length≤900):
  ∃a' c' w',(Builtin.append_ #[26,26] ty #[.slice none 0 0,.slice ad l.length c]).run Tryz.prog w= .ok (.slice a' l.length c') w'∧w'.ownsRow w.heap.size 40 3 (.slice a' l.length c') l.length (tU l)∧Below w.heap.size w w':=by
 obtain⟨i0,sN,sW,xQ,pS⟩:=info_parts Tryz.info40
 by_cases h0:l.length=0
 ·have e:l=[]:=List.eq_nil_of_length_eq_zero h0
  subst e
  exact⟨none,0,w,kM Tryz.underlying26 sN ty ad c w,World.ownsRow_nil _ _ _ _,Below.refl _ _⟩
 ·obtain⟨b,off,rfl,_,hc⟩:=h 0 (by omega)
  obtain⟨v',w',hr,q1,q2,_⟩:=run_append_own (P:=Tryz.prog) w w.heap.size 26 ty 40 i0 _ 3 32 Tryz.underlying26 sN sW xQ pS rfl (by omega) _ 0 [] (World.ownsRow_nil _ _ _ _) ⟨b,off,none⟩ l.length c (tU l) (sf l) (de (fun i _=>⟨b,off,rfl,hc⟩)) (XG l) (by unfold maxLen;omega) (by omega) (Nat.le_refl _)
  simp only[List.nil_append,Nat.zero_add]at q1
  obtain⟨a',c',e,_⟩:=pZ q1
  subst e
  exact⟨a',c',w',hr,q1,gu q2⟩
structure vN(w:World)(z:Nat)(m:List Ob)(us:List Up)(a1:Option Addr)(c1:Nat)(a2:Option Addr)(c2:Nat):Prop where
 objs: ∃rs,rs.map Pl.x=m∧xt w z (.slice a1 m.length c1) rs
 ups:w.ownsRow z 40 3 (.slice a2 us.length c2) us.length (tU us)
theorem vN.keep{w w':World}{z:Nat}{m:List Ob}{us:List Up}{a1 a2:Option Addr}{c1 c2:Nat}(h:vN w z m us a1 c1 a2 c2)(hs:w.heap.size≤w'.heap.size)(hk: ∀k,z≤k→w'.heap[k]? =w.heap[k]?):vN w' z m us a1 c1 a2 c2:=by
 obtain⟨rs,e,o⟩:=h.objs
 exact⟨⟨rs,e,o.keep hs hk⟩,vS h.ups hk⟩
theorem vN.below{w w':World}{z:Nat}{m:List Ob}{us:List Up}{a1 a2:Option Addr}{c1 c2:Nat}(h:vN w z m us a1 c1 a2 c2)(hb:Below w.heap.size w w'):vN w' z m us a1 c1 a2 c2:=by
 obtain⟨rs,e,o⟩:=h.objs
 exact⟨⟨rs,e,o.below hb⟩,zL h.ups hb⟩
theorem vN.from{w:World}{z z':Nat}{m:List Ob}{us:List Up}{a1 a2:Option Addr}{c1 c2:Nat}(h:vN w z m us a1 c1 a2 c2)(hz:z'≤z):vN w z' m us a1 c1 a2 c2:=by
 obtain⟨rs,e,o⟩:=h.objs
 exact⟨⟨rs,e,o.from hz⟩,vX h.ups hz⟩
theorem xt.list{w:World}{z:Nat}{m:List Ob}{rs:List Pl}{a:Option Addr}{c:Nat}(e:rs.map Pl.x=m)(o:xt w z (.slice a m.length c) rs):zP w a m:=by
 obtain⟨a',c',q,hh,_⟩:=o.reads
 rw[e]at q hh
 cases q
 exact hh
theorem vN.holds{w:World}{z:Nat}{m:List Ob}{us:List Up}{a1 a2:Option Addr}{c1 c2:Nat}(h:vN w z m us a1 c1 a2 c2):zP w a1 m∧zx w a2 us:=by
 obtain⟨rs,e,o⟩:=h.objs
 obtain⟨a',c',q,hu,_⟩:=pZ h.ups
 cases q
 exact⟨o.list e,hu⟩
theorem qA{w:World}{z:Nat}{v:Value}{rs:List Pl}{m:List Ob}(e:rs.map Pl.x=m)(o:xt w z v rs): ∃a c,v= .slice a m.length c:=by
 obtain⟨a',c',q,_⟩:=o.reads
 rw[e]at q
 exact⟨a',c',q⟩
theorem yX(w:World)(a:Addr)(v:Value):w.heap.size≤(w.setCell a v).heap.size:=Nat.le_of_eq (World.size_setCell _ _ _).symm
theorem vY(w:World)(p o z:Nat)(v:Value)(h:p<z): ∀k,z≤k→(w.setCell ⟨p,o,none⟩ v).heap[k]? =w.heap[k]?:=fun k hk=>heap_setCell_other w ⟨p,o,none⟩ k v (by show k≠p;omega)
theorem dp(w:World)(q:Nat)(x0 x1 x2:Value){a b c:Value}(h:w.heap[q]? =some (.cells #[a,b,c] 28)):
  (((w.setCell ⟨q,0,none⟩ x0).setCell ⟨q,1,none⟩ x1).setCell ⟨q,2,none⟩ x2).heap[q]? =some (.cells #[x0,x1,x2] 28)∧Below q w (((w.setCell ⟨q,0,none⟩ x0).setCell ⟨q,1,none⟩ x1).setCell ⟨q,2,none⟩ x2)∧
   ∀k,k≠q→(((w.setCell ⟨q,0,none⟩ x0).setCell ⟨q,1,none⟩ x1).setCell ⟨q,2,none⟩ x2).heap[k]? =w.heap[k]?:=by
 have h1:=heap_setCell_same w q 0 #[a,b,c] 28 x0 h
 have h2:=heap_setCell_same _ q 1 _ 28 x1 h1
 have h3:=heap_setCell_same _ q 2 _ 28 x2 h2
 refine⟨by simpa using h3,((Below.refl q w).setCell (Nat.le_refl _) _ |>.setCell (Nat.le_refl _) _).setCell (Nat.le_refl _) _,fun k hk=>?_⟩
 rw[heap_setCell_other _ ⟨q,2,none⟩ k _ hk,heap_setCell_other _ ⟨q,1,none⟩ k _ hk,heap_setCell_other _ ⟨q,0,none⟩ k _ hk]
theorem jE(am:Option Addr)(cm:Nat)(m:List Ob)(au:Option Addr)(cu:Nat)(us:List Up)(f:Bool)(w:World)(hm:zP w am m)(hml:m.length≤1000)(hx: ∀x∈m,x.links.length≤1000)(hu:zx w au us)(hul:us.length≤900):
  Calls Tryz.prog 132 #[uw am m.length cm au us.length cu f] w fun e w'=>∃a1 c1 a2 c2,e= .returned (uw a1 m.length c1 a2 us.length c2 f)∧vN w' w.heap.size m us a1 c1 a2 c2∧Below w.heap.size w w':=by
 have hB:=zV w (.cells #[.slice am m.length cm,.slice au us.length cu,.bool f] 28) pU
 obtain⟨xa,xy⟩:((w.alloc (.cells #[.slice am m.length cm,.slice au us.length cu,.bool f] 28)).alloc pU).heap[w.heap.size]? =some (.cells #[.slice am m.length cm,.slice au us.length cu,.bool f] 28)∧((w.alloc (.cells #[.slice am m.length cm,.slice au us.length cu,.bool f] 28)).alloc pU).heap[w.heap.size+1]? =some pU:=by
  have tu:=zB (w.alloc (.cells #[.slice am m.length cm,.slice au us.length cu,.bool f] 28)) pU
  refine⟨(tu.block _ (by simp)).trans (heap_alloc_new w _),?_⟩
  have:=heap_alloc_new (w.alloc (.cells #[.slice am m.length cm,.slice au us.length cu,.bool f] 28)) pU
  rwa[show(w.alloc (.cells #[.slice am m.length cm,.slice au us.length cu,.bool f] 28)).heap.size=w.heap.size+1 by simp]at this
 obtain⟨y0,y1,y2⟩:=zQ xa
 have Xm:((w.alloc (.cells #[.slice am m.length cm,.slice au us.length cu,.bool f] 28)).alloc pU).heap.size=w.heap.size+2:=by simp
 have Hz:Hid (w.heap.size+2≤((w.alloc (.cells #[.slice am m.length cm,.slice au us.length cu,.bool f] 28)).alloc pU).heap.size):=by unfold Hid;omega
 have hmB:=hm.below hB
 have huB:=hu.below hB
 go_enter Tryz.func132,Tryz.ntmps132
 go_wp2_with fail
 generalize (w.alloc (.cells #[.slice am m.length cm,.slice au us.length cu,.bool f] 28)).alloc pU=W0 at *
 refine(qT am cm m W0 hmB hml hx).mono ?_
 rintro e W1 ⟨v1,rs,rfl,tM,O1,zM⟩
 obtain⟨a1,c1,rfl⟩:=qA tM O1
 have zT:=bt hB zM
 have Rl:=zA5 zM xa
 have Ck:=zA5 zM xy
 have zSO:=hu.below zT
 -- the store of the objects
 have s1:=heap_setCell_same W1 w.heap.size 0 _ 28 (.slice a1 m.length c1) Rl
 have yN:=(heap_setCell_other W1 ⟨w.heap.size,0,none⟩ (w.heap.size+1) (.slice a1 m.length c1) (by simp)).trans Ck
 have zj:Below w.heap.size w (W1.setCell ⟨w.heap.size,0,none⟩ (.slice a1 m.length c1)):=zT.setCell (Nat.le_refl _) _
 have O2:=O1.keep (yX W1 ⟨w.heap.size,0,none⟩ (.slice a1 m.length c1)) (vY W1 w.heap.size 0 W0.heap.size (.slice a1 m.length c1) (by omega))
 have mx:W0.heap.size≤(W1.setCell ⟨w.heap.size,0,none⟩ (.slice a1 m.length c1)).heap.size:=Nat.le_trans zM.size (yX _ _ _)
 have k2:(W1.setCell ⟨w.heap.size,0,none⟩ (.slice a1 m.length c1)).heap[w.heap.size]? =some (.cells #[.slice a1 m.length c1,.slice au us.length cu,.bool f] 28):=by simpa using s1
 obtain⟨x0,x1,x2⟩:=zQ Rl
 have f11:=zF (o:=0) Rl
 clear xa xy y0 y1 y2 hmB huB O1 zM zT Ck s1 Xm hm
 obtain⟨z0,z1,z2⟩:=zQ k2
 obtain⟨a2,c2,W3,b6,o3,yT⟩:=XI (W1.setCell ⟨w.heap.size,0,none⟩ (.slice a1 m.length c1)) 26 au cu us (hu.below zj) hul
 have k3:=zA5 yT k2
 have eY:=zA5 yT yN
 have xL:=bt zj yT
 have O3:=O2.below yT
 obtain⟨t0,t1,t2⟩:=zQ k3
 have f31:=zF (o:=1) k3
 have s4:=heap_setCell_same W3 w.heap.size 1 _ 28 (.slice a2 us.length c2) k3
 have k4:(W3.setCell ⟨w.heap.size,1,none⟩ (.slice a2 us.length c2)).heap[w.heap.size]? =some (.cells #[.slice a1 m.length c1,.slice a2 us.length c2,.bool f] 28):=by simpa using s4
 have vB:=(heap_setCell_other W3 ⟨w.heap.size,1,none⟩ (w.heap.size+1) (.slice a2 us.length c2) (by simp)).trans eY
 have O4:=O3.keep (yX W3 ⟨w.heap.size,1,none⟩ (.slice a2 us.length c2)) (vY W3 w.heap.size 1 W0.heap.size (.slice a2 us.length c2) (by have:=Hz.out;omega))
 have p4:=vS (w':=W3.setCell ⟨w.heap.size,1,none⟩ (.slice a2 us.length c2)) (vX o3 mx) (vY W3 w.heap.size 1 W0.heap.size (.slice a2 us.length c2) (by have:=Hz.out;omega))
 have xZ:Below w.heap.size w (W3.setCell ⟨w.heap.size,1,none⟩ (.slice a2 us.length c2)):=xL.setCell (Nat.le_refl _) _
 obtain⟨v0,v1,v2⟩:=zQ k4
 have g0:=zF (o:=0) vB
 have g1:=zF (o:=1) vB
 have g2:=zF (o:=2) vB
 obtain⟨u0,u1,u2⟩:=zQ vB
 have xu:=dp (W3.setCell ⟨w.heap.size,1,none⟩ (.slice a2 us.length c2)) (w.heap.size+1) (.slice a1 m.length c1) (.slice a2 us.length c2) (.bool f) vB
 obtain⟨n0,n1,n2⟩:=zQ xu.1
 have HF:Hid (vN ((((W3.setCell ⟨w.heap.size,1,none⟩ (.slice a2 us.length c2)).setCell ⟨w.heap.size+1,0,none⟩ (.slice a1 m.length c1)).setCell ⟨w.heap.size+1,1,none⟩ (.slice a2 us.length c2)).setCell ⟨w.heap.size+1,2,none⟩ (.bool f)) w.heap.size m us a1 c1 a2 c2∧Below w.heap.size w ((((W3.setCell ⟨w.heap.size,1,none⟩ (.slice a2 us.length c2)).setCell ⟨w.heap.size+1,0,none⟩ (.slice a1 m.length c1)).setCell ⟨w.heap.size+1,1,none⟩ (.slice a2 us.length c2)).setCell ⟨w.heap.size+1,2,none⟩ (.bool f))):=by
  have hz:w.heap.size+2≤W0.heap.size:=Hz.out
  have h1:vN (W3.setCell ⟨w.heap.size,1,none⟩ (.slice a2 us.length c2)) W0.heap.size m us a1 c1 a2 c2:=⟨⟨rs,tM,O4⟩,p4⟩
  exact⟨(h1.keep xu.2.1.size (fun k hk=>xu.2.2 k (by omega))).from (by omega),xZ.trans (xu.2.1.mono (by omega))⟩
 clear xu xZ p4 O4 vB k4 s4 O3 xL eY k3 o3 yT zj O2 mx k2 yN Rl tM hu
 go_wp2_with (at_builtin;refine tE (by rfl) (.const (.slice none 0 0)) (.tmp 8) (by rfl) _ _ (by rfl) (by rfl) b6 ?_)
 refine bodyPost_ret (v:=uw a1 m.length c1 a2 us.length c2 f) (by simp[results,Tryz.results132,go_sem,n0,n1,n2]) rfl ?_
 exact⟨_,_,_,_,rfl,HF.out.1,HF.out.2⟩
structure vM(w:World)(z:Nat)(s:List Ob)(l:List Rf)(m:List Ob)(us:List Up)(aS:Option Addr)(cs:Nat)(al:Option Addr)(cl:Nat)(a1:Option Addr)(c1:Nat)(a2:Option Addr)(c2:Nat):Prop where
 objs: ∃rs,rs.map Pl.x=s∧xt w z (.slice aS s.length cs) rs
 refs:w.ownsRow z 65 2 (.slice al l.length cl) l.length (xM l)
 push:vN w z m us a1 c1 a2 c2
theorem vM.keep{w w':World}{z:Nat}{s:List Ob}{l:List Rf}{m:List Ob}{us:List Up}{aS al a1 a2:Option Addr}{cs cl c1 c2:Nat}(h:vM w z s l m us aS cs al cl a1 c1 a2 c2)(hs:w.heap.size≤w'.heap.size)(hk: ∀k,z≤k→w'.heap[k]? =w.heap[k]?):vM w' z s l m us aS cs al cl a1 c1 a2 c2:=by
 obtain⟨rs,e,o⟩:=h.objs
 exact⟨⟨rs,e,o.keep hs hk⟩,vS h.refs hk,h.push.keep hs hk⟩
theorem vM.below{w w':World}{z:Nat}{s:List Ob}{l:List Rf}{m:List Ob}{us:List Up}{aS al a1 a2:Option Addr}{cs cl c1 c2:Nat}(h:vM w z s l m us aS cs al cl a1 c1 a2 c2)(hb:Below w.heap.size w w'):vM w' z s l m us aS cs al cl a1 c1 a2 c2:=by
 obtain⟨rs,e,o⟩:=h.objs
 exact⟨⟨rs,e,o.below hb⟩,zL h.refs hb,h.push.below hb⟩
theorem vM.from{w:World}{z z':Nat}{s:List Ob}{l:List Rf}{m:List Ob}{us:List Up}{aS al a1 a2:Option Addr}{cs cl c1 c2:Nat}(h:vM w z s l m us aS cs al cl a1 c1 a2 c2)(hz:z'≤z):vM w z' s l m us aS cs al cl a1 c1 a2 c2:=by
 obtain⟨rs,e,o⟩:=h.objs
 exact⟨⟨rs,e,o.from hz⟩,vX h.refs hz,h.push.from hz⟩
theorem vM.holds{w:World}{z:Nat}{s:List Ob}{l:List Rf}{m:List Ob}{us:List Up}{aS al a1 a2:Option Addr}{cs cl c1 c2:Nat}(h:vM w z s l m us aS cs al cl a1 c1 a2 c2):zP w aS s∧yU w al l∧zP w a1 m∧zx w a2 us:=by
 obtain⟨rs,e,o⟩:=h.objs
 obtain⟨a',c',q,hu⟩:=qJ h.refs
 cases q
 exact⟨o.list e,hu,h.push.holds.1,h.push.holds.2⟩
abbrev zo:Obj:=.cells #[.slice none 0 0,.slice none 0 0,.int .i64 0,.int .i64 0,.slice none 0 0,.slice none 0 0,.bool false] 36
abbrev vG(aS:Option Addr)(ns cs:Nat)(al:Option Addr)(nl cl:Nat)(g ph:Int)(a1:Option Addr)(n1 c1:Nat)(a2:Option Addr)(n2 c2:Nat)(f:Bool)(t:TypeId):Obj:=.cells #[.slice aS ns cs,.slice al nl cl,.int .i64 g,.int .i64 ph,.slice a1 n1 c1,.slice a2 n2 c2,.bool f] t
theorem yQ(w:World)(q t:Nat)(x0 x1 x2 x3 x4 x5 x6:Value){y0 y1 y2 y3 y4 y5 y6:Value}(h:w.heap[q]? =some (.cells #[y0,y1,y2,y3,y4,y5,y6] t)):
  (((((((w.setCell ⟨q,0,none⟩ x0).setCell ⟨q,1,none⟩ x1).setCell ⟨q,2,none⟩ x2).setCell ⟨q,3,none⟩ x3).setCell ⟨q,4,none⟩ x4).setCell ⟨q,5,none⟩ x5).setCell ⟨q,6,none⟩ x6).heap[q]? =some (.cells #[x0,x1,x2,x3,x4,x5,x6] t)∧
  Below q w (((((((w.setCell ⟨q,0,none⟩ x0).setCell ⟨q,1,none⟩ x1).setCell ⟨q,2,none⟩ x2).setCell ⟨q,3,none⟩ x3).setCell ⟨q,4,none⟩ x4).setCell ⟨q,5,none⟩ x5).setCell ⟨q,6,none⟩ x6)∧
   ∀k,k≠q→(((((((w.setCell ⟨q,0,none⟩ x0).setCell ⟨q,1,none⟩ x1).setCell ⟨q,2,none⟩ x2).setCell ⟨q,3,none⟩ x3).setCell ⟨q,4,none⟩ x4).setCell ⟨q,5,none⟩ x5).setCell ⟨q,6,none⟩ x6).heap[k]? =w.heap[k]?:=by
 have h1:=heap_setCell_same w q 0 _ t x0 h
 have h2:=heap_setCell_same _ q 1 _ t x1 h1
 have h3:=heap_setCell_same _ q 2 _ t x2 h2
 have h4:=heap_setCell_same _ q 3 _ t x3 h3
 have h5:=heap_setCell_same _ q 4 _ t x4 h4
 have h6:=heap_setCell_same _ q 5 _ t x5 h5
 have h7:=heap_setCell_same _ q 6 _ t x6 h6
 refine⟨by simpa using h7,((((((Below.refl q w).setCell (Nat.le_refl _) _ |>.setCell (Nat.le_refl _) _).setCell (Nat.le_refl _) _).setCell (Nat.le_refl _) _).setCell (Nat.le_refl _) _).setCell (Nat.le_refl _) _).setCell (Nat.le_refl _) _,fun k hk=>?_⟩
 rw[heap_setCell_other _ ⟨q,6,none⟩ k _ hk,heap_setCell_other _ ⟨q,5,none⟩ k _ hk,heap_setCell_other _ ⟨q,4,none⟩ k _ hk,heap_setCell_other _ ⟨q,3,none⟩ k _ hk,heap_setCell_other _ ⟨q,2,none⟩ k _ hk,heap_setCell_other _ ⟨q,1,none⟩ k _ hk,heap_setCell_other _ ⟨q,0,none⟩ k _ hk]
theorem YZ(w:World)(q t:Nat)(x4 x5 x6:Value){y0 y1 y2 y3 y4 y5 y6:Value}(h:w.heap[q]? =some (.cells #[y0,y1,y2,y3,y4,y5,y6] t)):
  (((w.setCell ⟨q,4,none⟩ x4).setCell ⟨q,5,none⟩ x5).setCell ⟨q,6,none⟩ x6).heap[q]? =some (.cells #[y0,y1,y2,y3,x4,x5,x6] t)∧
  Below q w (((w.setCell ⟨q,4,none⟩ x4).setCell ⟨q,5,none⟩ x5).setCell ⟨q,6,none⟩ x6)∧
   ∀k,k≠q→(((w.setCell ⟨q,4,none⟩ x4).setCell ⟨q,5,none⟩ x5).setCell ⟨q,6,none⟩ x6).heap[k]? =w.heap[k]?:=by
 have h5:=heap_setCell_same w q 4 _ t x4 h
 have h6:=heap_setCell_same _ q 5 _ t x5 h5
 have h7:=heap_setCell_same _ q 6 _ t x6 h6
 refine⟨by simpa using h7,((Below.refl q w).setCell (Nat.le_refl _) _ |>.setCell (Nat.le_refl _) _).setCell (Nat.le_refl _) _,fun k hk=>?_⟩
 rw[heap_setCell_other _ ⟨q,6,none⟩ k _ hk,heap_setCell_other _ ⟨q,5,none⟩ k _ hk,heap_setCell_other _ ⟨q,4,none⟩ k _ hk]
theorem ye(w:World)(A B:Obj):((w.alloc A).alloc B).heap[w.heap.size]? =some A∧((w.alloc A).alloc B).heap[w.heap.size+1]? =some B:=by
 have tu:=zB (w.alloc A) B
 refine⟨(tu.block _ (by simp)).trans (heap_alloc_new w _),?_⟩
 have:=heap_alloc_new (w.alloc A) B
 rwa[show(w.alloc A).heap.size=w.heap.size+1 by simp]at this
theorem tO(aS:Option Addr)(cs:Nat)(s:List Ob)(al:Option Addr)(cl:Nat)(l:List Rf)(g ph:Int)(am:Option Addr)(cm:Nat)(m:List Ob)(au:Option Addr)(cu:Nat)(us:List Up)(f:Bool)(w:World)
  (hs:zP w aS s) (Le:s.length≤1000) (hsx: ∀x∈s,x.links.length≤1000) (hl:yU w al l) (M7:l.length≤900) (hm:zP w am m) (hml:m.length≤1000) (hx: ∀x∈m,x.links.length≤1000) (hu:zx w au us) (hul:us.length≤900):
  Calls Tryz.prog 75 #[rF aS s.length cs al l.length cl g ph am m.length cm au us.length cu f] w fun e w'=>∃b0 d0 b1 d1 b2 d2 b3 d3,e= .returned (rF b0 s.length d0 b1 l.length d1 g ph b2 m.length d2 b3 us.length d3 f)∧vM w' w.heap.size s l m us b0 d0 b1 d1 b2 d2 b3 d3∧Below w.heap.size w w':=by
 have hB:=zV w (vG aS s.length cs al l.length cl g ph am m.length cm au us.length cu f 36) zo
 obtain⟨xa,xy⟩:=ye w (vG aS s.length cs al l.length cl g ph am m.length cm au us.length cu f 36) zo
 obtain⟨y0,y1,y2,y3,y4,y5,y6⟩:=zI xa
 have Hz:Hid (w.heap.size+2≤((w.alloc (vG aS s.length cs al l.length cl g ph am m.length cm au us.length cu f 36)).alloc zo).heap.size):=by unfold Hid;simp
 have hsB:=hs.below hB
 go_enter Tryz.func75,Tryz.ntmps75
 go_wp2_with fail
 generalize (w.alloc (vG aS s.length cs al l.length cl g ph am m.length cm au us.length cu f 36)).alloc zo=W0 at *
 refine(qT aS cs s W0 hsB Le hsx).mono ?_
 rintro e W1 ⟨v1,rs,rfl,tM,O1,zM⟩
 obtain⟨b0,d0,rfl⟩:=qA tM O1
 have zT:=bt hB zM
 have Rl:=zA5 zM xa
 have Ck:=zA5 zM xy
 have YG:w.heap.size<W0.heap.size:=by have:=Hz.out;omega
 -- the store of the objects
 obtain⟨x0,x1,x2,x3,x4,x5,x6⟩:=zI Rl
 have f11:=zF (o:=0) Rl
 have s1:=heap_setCell_same W1 w.heap.size 0 _ 36 (.slice b0 s.length d0) Rl
 have k2:(W1.setCell ⟨w.heap.size,0,none⟩ (.slice b0 s.length d0)).heap[w.heap.size]? =some (vG b0 s.length d0 al l.length cl g ph am m.length cm au us.length cu f 36):=by simpa using s1
 have SZ:=(heap_setCell_other W1 ⟨w.heap.size,0,none⟩ (w.heap.size+1) (.slice b0 s.length d0) (by simp)).trans Ck
 have zj:Below w.heap.size w (W1.setCell ⟨w.heap.size,0,none⟩ (.slice b0 s.length d0)):=zT.setCell (Nat.le_refl _) _
 have O2:=O1.keep (yX W1 ⟨w.heap.size,0,none⟩ (.slice b0 s.length d0)) (vY W1 w.heap.size 0 W0.heap.size (.slice b0 s.length d0) YG)
 have mx:W0.heap.size≤(W1.setCell ⟨w.heap.size,0,none⟩ (.slice b0 s.length d0)).heap.size:=Nat.le_trans zM.size (yX _ _ _)
 clear xa xy y0 y1 y2 y3 y4 y5 y6 hsB O1 zM zT Ck s1 Rl
 obtain⟨z0,z1,z2,z3,z4,z5,z6⟩:=zI k2
 obtain⟨b1,d1,W3,b6,o3,yT⟩:=Yq (W1.setCell ⟨w.heap.size,0,none⟩ (.slice b0 s.length d0)) 34 al cl l (hl.below zj) M7
 have k3:=zA5 yT k2
 have eY:=zA5 yT SZ
 have xL:=bt zj yT
 have O3:=O2.below yT
 have o3':=vX o3 mx
 have dJ:=Nat.le_trans mx yT.size
 obtain⟨t0,t1,t2,t3,t4,t5,t6⟩:=zI k3
 have f31:=zF (o:=1) k3
 have s4:=heap_setCell_same W3 w.heap.size 1 _ 36 (.slice b1 l.length d1) k3
 have k4:(W3.setCell ⟨w.heap.size,1,none⟩ (.slice b1 l.length d1)).heap[w.heap.size]? =some (vG b0 s.length d0 b1 l.length d1 g ph am m.length cm au us.length cu f 36):=by simpa using s4
 have vB:=(heap_setCell_other W3 ⟨w.heap.size,1,none⟩ (w.heap.size+1) (.slice b1 l.length d1) (by simp)).trans eY
 have O4:=O3.keep (yX W3 ⟨w.heap.size,1,none⟩ (.slice b1 l.length d1)) (vY W3 w.heap.size 1 W0.heap.size (.slice b1 l.length d1) YG)
 have p4:=vS (w':=W3.setCell ⟨w.heap.size,1,none⟩ (.slice b1 l.length d1)) o3' (vY W3 w.heap.size 1 W0.heap.size (.slice b1 l.length d1) YG)
 have xZ:Below w.heap.size w (W3.setCell ⟨w.heap.size,1,none⟩ (.slice b1 l.length d1)):=xL.setCell (Nat.le_refl _) _
 have Rg:W0.heap.size≤(W3.setCell ⟨w.heap.size,1,none⟩ (.slice b1 l.length d1)).heap.size:=Nat.le_trans dJ (yX _ _ _)
 clear s4 O3 xL eY k3 o3 o3' yT zj O2 mx k2 SZ dJ
 go_wp2_with (at_builtin;refine tE (by rfl) (.const (.slice none 0 0)) (.tmp 8) (by rfl) _ _ (by rfl) (by rfl) b6 ?_)
 generalize W3.setCell ⟨w.heap.size,1,none⟩ (.slice b1 l.length d1)=W4 at *
 clear b6 f11 f31 x0 x1 x2 x3 x4 x5 x6 z0 z1 z2 z3 z4 z5 z6 t0 t1 t2 t3 t4 t5 t6
 refine(jE am cm m au cu us f W4 (hm.below xZ) hml hx (hu.below xZ) hul).mono ?_
 rintro e W5 ⟨b2,d2,b3,d3,rfl,F5,xu⟩
 have k5:=zA5 xu k4
 have kk5:=zA5 xu vB
 have su:=bt xZ xu
 have R5:vM W5 W0.heap.size s l m us b0 d0 b1 d1 b2 d2 b3 d3:=⟨⟨rs,tM,O4.below xu⟩,zL p4 xu,F5.from Rg⟩
 clear F5 O4 p4 xu k4 vB xZ Rg
 obtain⟨v0,v1,v2,v3,v4,v5,v6⟩:=zI k5
 have g4:=zF (o:=4) k5
 have g5:=zF (o:=5) k5
 have g6:=zF (o:=6) k5
 obtain⟨k6,qY,GQ⟩:=YZ W5 w.heap.size 36 (.slice b2 m.length d2) (.slice b3 us.length d3) (.bool f) k5
 have Lq:=(GQ (w.heap.size+1) (by omega)).trans kk5
 have R6:=R5.keep qY.size (fun k hk=>GQ k (by omega))
 have nE:=su.trans (qY.mono (Nat.le_refl _))
 obtain⟨n0,n1,n2,n3,n4,n5,n6⟩:=zI k6
 obtain⟨q0,q1,q2,q3,q4,q5,q6⟩:=zI Lq
 have e0:=zF (o:=0) Lq
 have e1:=zF (o:=1) Lq
 have e2:=zF (o:=2) Lq
 have e3:=zF (o:=3) Lq
 have e4:=zF (o:=4) Lq
 have e5:=zF (o:=5) Lq
 have e6:=zF (o:=6) Lq
 obtain⟨k7,Sd,ho7⟩:=yQ (((W5.setCell ⟨w.heap.size,4,none⟩ (.slice b2 m.length d2)).setCell ⟨w.heap.size,5,none⟩ (.slice b3 us.length d3)).setCell ⟨w.heap.size,6,none⟩ (.bool f)) (w.heap.size+1) 36 (.slice b0 s.length d0) (.slice b1 l.length d1) (.int .i64 g) (.int .i64 ph) (.slice b2 m.length d2) (.slice b3 us.length d3) (.bool f) Lq
 obtain⟨j0,j1,j2,j3,j4,j5,j6⟩:=zI k7
 have HF:Hid (_∧_):=⟨(R6.keep Sd.size (fun k hk=>ho7 k (by have:=Hz.out;omega))).from (Nat.le_of_lt YG),nE.trans (Sd.mono (by omega))⟩
 clear Sd ho7 k7 Lq R6 nE k6 qY GQ R5 kk5 k5 su hs hl hm hu
 go_wp2
 refine bodyPost_ret (v:=rF b0 s.length d0 b1 l.length d1 g ph b2 m.length d2 b3 us.length d3 f) (by simp[results,Tryz.results75,go_sem,j0,j1,j2,j3,j4,j5,j6]) rfl ?_
 exact⟨_,_,_,_,_,_,_,_,rfl,HF.out.1,HF.out.2⟩
def xj(m:List Ob)(us:List Up)(f:Bool):Bool:=decide (m.length=0)&&decide (us.length=0)&&!f
theorem VR(am:Option Addr)(cm:Nat)(m:List Ob)(au:Option Addr)(cu:Nat)(us:List Up)(f:Bool)(w:World):
  Calls Tryz.prog 80 #[uw am m.length cm au us.length cu f] w fun e w'=>e= .returned (.bool (xj m us f))∧Below w.heap.size w w':=by
 have hA:=zB w (.cells #[.slice am m.length cm,.slice au us.length cu,.bool f] 28)
 obtain⟨y0,y1,y2⟩:=zQ (heap_alloc_new w (.cells #[.slice am m.length cm,.slice au us.length cu,.bool f] 28))
 by_cases h1:m.length=0
 case neg=>
  have HW:Hid (xj m us f=false):=by simp[Hid,xj,h1]
  have z1:((m.length:Int)==0)=false:=beq_eq_false_iff_ne.2 (by omega)
  clear h1
  go_enter Tryz.func80,Tryz.ntmps80
  go_wp2
  go_ret
  exact⟨by rw[HW.out];rfl,hA⟩
 have z1:((m.length:Int)==0)=true:=beq_iff_eq.2 (by omega)
 by_cases h2:us.length=0
 case neg=>
  have HW:Hid (xj m us f=false):=by simp[Hid,xj,h2]
  have z2:((us.length:Int)==0)=false:=beq_eq_false_iff_ne.2 (by omega)
  clear h1 h2
  go_enter Tryz.func80,Tryz.ntmps80
  go_wp2
  go_ret
  exact⟨by rw[HW.out];rfl,hA⟩
 have z2:((us.length:Int)==0)=true:=beq_iff_eq.2 (by omega)
 have HW:Hid (xj m us f=!f):=by simp[Hid,xj,h1,h2]
 clear h1 h2
 go_enter Tryz.func80,Tryz.ntmps80
 go_wp2
 go_ret
 exact⟨by rw[HW.out];rfl,hA⟩
def xA(s:List Ob)(l:List Rf)(g ph:Int)(m:List Ob)(us:List Up)(f:Bool):Int:=
 if yG l s≠0 then yG l s else if g<0∨999<g then 3 else if ph<0∨2<ph then 7 else if ph≠0 then zr m us else if xj m us f=true then 0 else 1
theorem tY{s:List Ob}{l:List Rf}{g ph:Int}{m:List Ob}{us:List Up}{f:Bool}:xA s l g ph m us f=0↔yG l s=0∧(0≤g∧g≤999)∧(0≤ph∧ph≤2)∧(ph≠0→zr m us=0)∧(ph=0→xj m us f=true):=by
 unfold xA
 split
 ·rename_i h;exact⟨fun e=>absurd e h,fun e=>absurd e.1 h⟩
 ·rename_i h
  have h0:yG l s=0:=Classical.byContradiction h
  split
  ·rename_i h1;exact⟨fun e=>(by cases e),fun e=>by omega⟩
  ·rename_i h1
   split
   ·rename_i h2;exact⟨fun e=>(by cases e),fun e=>by omega⟩
   ·rename_i h2
    split
    ·rename_i h3;exact⟨fun e=>⟨h0,by omega,by omega,fun _=>e,fun q=>absurd q h3⟩,fun e=>e.2.2.2.1 h3⟩
    ·rename_i h3
     have CU:ph=0:=Classical.byContradiction h3
     split
     ·rename_i h4;exact⟨fun _=>⟨h0,by omega,by omega,fun q=>absurd q h3,fun _=>h4⟩,fun _=>rfl⟩
     ·rename_i h4;exact⟨fun e=>(by cases e),fun e=>absurd (e.2.2.2.2 CU) h4⟩
abbrev RB(aS:Option Addr)(cs:Nat)(s:List Ob)(al:Option Addr)(cl:Nat)(l:List Rf)(g ph:Int)(am:Option Addr)(cm:Nat)(m:List Ob)(au:Option Addr)(cu:Nat)(us:List Up)(f:Bool):Obj:=vG aS s.length cs al l.length cl g ph am m.length cm au us.length cu f 36
abbrev RV(aS:Option Addr)(cs:Nat)(s:List Ob)(al:Option Addr)(cl:Nat)(l:List Rf)(g ph:Int)(am:Option Addr)(cm:Nat)(m:List Ob)(au:Option Addr)(cu:Nat)(us:List Up)(f:Bool):Value:=rF aS s.length cs al l.length cl g ph am m.length cm au us.length cu f
structure sJ(w:World)(aS:Option Addr)(s:List Ob)(al:Option Addr)(l:List Rf)(am:Option Addr)(m:List Ob)(au:Option Addr)(us:List Up):Prop where
 hs:zP w aS s
 hl:yU w al l
 hm:zP w am m
 hu:zx w au us
 ns:s.length≤9223372036854775807
 nl:l.length≤9223372036854775807
 nm:m.length≤9223372036854775807
 nu:us.length≤9223372036854775807
theorem sJ.below{w w':World}{aS al am au:Option Addr}{s:List Ob}{l:List Rf}{m:List Ob}{us:List Up}(h:sJ w aS s al l am m au us)(hb:Below w.heap.size w w'):sJ w' aS s al l am m au us:=
 ⟨h.hs.below hb,h.hl.below hb,h.hm.below hb,h.hu.below hb,h.ns,h.nl,h.nm,h.nu⟩
theorem vv(aS:Option Addr)(cs:Nat)(s:List Ob)(al:Option Addr)(cl:Nat)(l:List Rf)(g ph:Int)(am:Option Addr)(cm:Nat)(m:List Ob)(au:Option Addr)(cu:Nat)(us:List Up)(f:Bool)(w:World)(hg:xr w)(H:sJ w aS s al l am m au us):
  Calls Tryz.prog 28 #[RV aS cs s al cl l g ph am cm m au cu us f] w fun e w'=>e= .returned (.int .i64 (xA s l g ph m us f))∧Below w.heap.size w w':=by
 have hA:=zB w (RB aS cs s al cl l g ph am cm m au cu us f)
 have pF:=heap_alloc_new w (RB aS cs s al cl l g ph am cm m au cu us f)
 obtain⟨y0,y1,y2,y3,y4,y5,y6⟩:=zI pF
 have HE:Hid (xA s l g ph m us f=if yG l s≠0 then yG l s else if g<0∨999<g then 3 else if ph<0∨2<ph then 7 else if ph≠0 then zr m us else if xj m us f=true then 0 else 1):=rfl
 have Gb:=qi al cl l aS cs s _ (hg.below hA) (H.hl.below hA) H.nl (H.hs.below hA) H.ns
 go_enter Tryz.func28,Tryz.ntmps28
 go_wp2_with fail
 refine Gb.mono ?_
 clear Gb
 rintro e w1 ⟨rfl,zM⟩
 have zT:=bt hA zM
 have k1:=zA5 zM pF
 clear zM hA pF y0 y1 y2 y3 y4 y5 y6
 by_cases c1:yG l s=0
 case neg=>
  have HR:Hid (xA s l g ph m us f=yG l s):=by unfold Hid;rw[HE.out,if_pos c1]
  have z1:(yG l s != 0)=true:=by simpa using c1
  clear c1 k1
  go_wp2
  go_ret
  exact⟨zE HR.out.symm,zT⟩
 have qP:Hid (xA s l g ph m us f=if g<0∨999<g then 3 else if ph<0∨2<ph then 7 else if ph≠0 then zr m us else if xj m us f=true then 0 else 1):=by unfold Hid;rw[HE.out,if_neg (fun e=>e c1)]
 rw[c1]
 clear c1 HE
 obtain⟨y0,y1,y2,y3,y4,y5,y6⟩:=zI k1
 by_cases kg:g<0∨999<g
 case pos=>
  have HR:Hid (xA s l g ph m us f=3):=by unfold Hid;rw[qP.out,if_pos kg]
  by_cases kn:g<0
  ·clear kg
   go_wp2
   go_ret
   exact⟨zE HR.out.symm,zT⟩
  ·have kp:999<g:=by omega
   clear kg
   go_wp2
   go_ret
   exact⟨zE HR.out.symm,zT⟩
 have kn: ¬g<0:=by omega
 have kp: ¬999<g:=by omega
 have nb:Hid (xA s l g ph m us f=if ph<0∨2<ph then 7 else if ph≠0 then zr m us else if xj m us f=true then 0 else 1):=by unfold Hid;rw[qP.out,if_neg kg]
 clear kg qP
 by_cases kh:ph<0∨2<ph
 case pos=>
  have HR:Hid (xA s l g ph m us f=7):=by unfold Hid;rw[nb.out,if_pos kh]
  by_cases Jp:ph<0
  ·clear kh
   go_wp2
   go_ret
   exact⟨zE HR.out.symm,zT⟩
  ·have TU:2<ph:=by omega
   clear kh
   go_wp2
   go_ret
   exact⟨zE HR.out.symm,zT⟩
 have Jp: ¬ph<0:=by omega
 have TU: ¬2<ph:=by omega
 have Fv:Hid (xA s l g ph m us f=if ph≠0 then zr m us else if xj m us f=true then 0 else 1):=by unfold Hid;rw[nb.out,if_neg kh]
 clear kh nb
 by_cases k0:ph=0
 case neg=>
  have HR:Hid (xA s l g ph m us f=zr m us):=by unfold Hid;rw[Fv.out,if_pos k0]
  have z1:(ph != 0)=true:=by simpa using k0
  have Vl:=sM am cm m au cu us f w1 (hg.below zT) (H.hm.below zT) H.nm (H.hu.below zT) H.nu
  clear k0
  go_wp2_with fail
  refine Vl.mono ?_
  clear Vl
  rintro e w2 ⟨rfl,zZ⟩
  have zj:=bt zT zZ
  go_wp2
  go_ret
  exact⟨zE HR.out.symm,zj⟩
 have z1:(ph != 0)=false:=by simpa using k0
 have HE4:Hid (xA s l g ph m us f=if xj m us f=true then 0 else 1):=by unfold Hid;rw[Fv.out,if_neg (fun e=>e k0)]
 clear k0 Fv
 go_wp2_with fail
 refine(VR am cm m au cu us f w1).mono ?_
 rintro e w2 ⟨rfl,zZ⟩
 have zj:=bt zT zZ
 cases hq:xj m us f with
 |true=>
  have HR:Hid (xA s l g ph m us f=0):=by unfold Hid;rw[HE4.out,if_pos hq]
  clear hq
  go_wp2
  go_ret
  exact⟨zE HR.out.symm,zj⟩
 |false=>
  have HR:Hid (xA s l g ph m us f=1):=by unfold Hid;rw[HE4.out,hq];rfl
  clear hq
  go_wp2
  go_ret
  exact⟨zE HR.out.symm,zj⟩
def sY(l m:List Ob)(w:World)(e:Ending)(w':World):Prop:=
 Below w.heap.size w w'∧((xD l m≠0∧e= .returned (.tuple #[.slice none 0 0,.int .i64 (xD l m)]))∨
  (xD l m=0∧∃a' c',e= .returned (.tuple #[.slice a' (zH l m).length c',.int .i64 0])∧zP w' a' (zH l m)∧(zH l m).length≤c'∧rT w' a' (zH l m)∧∃rs,rs.map Pl.x=zH l m∧xt w' w.heap.size (.slice a' (zH l m).length c') rs))
theorem sY.bad{l m:List Ob}{w w':World}{r:Int}(hr:xD l m=r)(h0:r≠0)(hb:Below w.heap.size w w'):sY l m w (.returned (.tuple #[.slice none 0 0,.int .i64 r])) w':=
 ⟨hb,.inl ⟨by rw[hr];exact h0,by rw[hr]⟩⟩
theorem ZN(a:Option Addr)(c:Nat)(l:List Ob)(a2:Option Addr)(c2:Nat)(m:List Ob)(w:World)(h:zP w a l)(hl:l.length≤9223372036854775807)(h2:zP w a2 m)(hm:m.length≤9223372036854775807):
  Calls Tryz.prog 77 #[.slice a l.length c,.slice a2 m.length c2] w (sY l m w):=by
 have Uk: ∀(fn:Fn) (first cap:Array Value) (w:World),(Instr.makeFunc fn first cap).run Tryz.prog w= .ok (.func fn first cap) w:=fun _ _ _ _=>rfl
 go_enter Tryz.func77,Tryz.ntmps77
 go_wp2_with fail
 refine(vD a c l w h hl).mono ?_
 rintro e w1 ⟨rfl,zM⟩
 by_cases k1:zK l=0
 case neg=>
  have HR:Hid (xD l m=zK l):=by unfold Hid;rw[xD,if_pos k1]
  have HZ:Hid (zK l≠0):=k1
  have hz:(zK l != 0)=true:=by simpa using k1
  clear k1
  go_wp2
  refine bodyPost_ret (v:=.tuple #[.slice none 0 0,.int .i64 (zK l)]) (by simp[results,Tryz.results77,go_sem]) rfl ?_
  exact sY.bad HR.out HZ.out zM
 have K1:Hid (zK l=0):=k1
 rw[k1]
 clear k1
 by_cases k2:(12:Int)<(m.length:Int)
 case pos=>
  have HR:Hid (xD l m=2):=by unfold Hid;rw[xD,if_neg (fun e=>e K1.out),if_pos (by omega)]
  go_wp2
  refine bodyPost_ret (v:=.tuple #[.slice none 0 0,.int .i64 2]) (by simp[results,Tryz.results77,go_sem]) rfl ?_
  exact sY.bad HR.out (by simp) zM
 go_wp2_with fail
 refine(WY a2 c2 m w1 (h2.below zM) hm).mono ?_
 rintro e w2 ⟨rfl,zZ⟩
 have zj:=bt zM zZ
 by_cases k3:yL m=0
 case neg=>
  have HR:Hid (xD l m=yL m):=by unfold Hid;rw[xD,if_neg (fun e=>e K1.out),if_neg (by omega),if_pos k3]
  have HZ:Hid (yL m≠0):=k3
  have hz:(yL m != 0)=true:=by simpa using k3
  clear k3
  go_wp2
  refine bodyPost_ret (v:=.tuple #[.slice none 0 0,.int .i64 (yL m)]) (by simp[results,Tryz.results77,go_sem]) rfl ?_
  exact sY.bad HR.out HZ.out zj
 have K3:Hid (yL m=0):=k3
 rw[k3]
 clear k3
 have M7:l.length≤40:=(yF K1.out).1
 go_wp2_with fail
 refine(jr a c l w2 (h.below zj) (by omega) (fun x hx=>ui (vE K1.out x hx))).mono ?_
 rintro e w3 ⟨p,v,rs,rfl,tM,SH,yT⟩
 have Fp:Hid (rs.map Pl.x=l):=tM
 clear tM
 have xL:=bt zj yT
 have Hj:w.heap.size≤w2.heap.size:=zj.size
 go_wp2_with fail
 refine(af a2 c2 m l w2.heap.size p v rs w w3 h2 xL Hj SH Fp.out (by omega) (fun x hx=>ui (mR K3.out x hx))).mono ?_
 rintro e w4 ⟨rfl,TP,xZ⟩
 by_cases k4:zw l m=0
 case neg=>
  have HR:Hid (xD l m=zw l m):=by unfold Hid;rw[xD,if_neg (fun e=>e K1.out),if_neg (by omega),if_neg (fun e=>e K3.out),if_pos k4]
  have HZ:Hid (zw l m≠0):=k4
  have hz:(zw l m != 0)=true:=by simpa using k4
  clear k4 TP
  go_wp2
  refine bodyPost_ret (v:=.tuple #[.slice none 0 0,.int .i64 (zw l m)]) (by simp[results,Tryz.results77,go_sem]) rfl ?_
  exact sY.bad HR.out HZ.out xZ
 obtain⟨v',rs',jZ,PN⟩:=TP k4
 have HA:Hid (xD l m=zK (zH l m)):=by unfold Hid;rw[xD,if_neg (fun e=>e K1.out),if_neg (by omega),if_neg (fun e=>e K3.out),if_neg (fun e=>e k4)]
 rw[k4]
 clear k4 TP SH yT zZ zM zj xL
 obtain⟨a',c',rfl,MT,Vd⟩:=PN.reads
 have xf:=PN.cell
 rw[jZ]at MT xf
 have hRL:(zH l m).length≤c':=by rw[←jZ,List.length_map];exact Vd
 have FL:(zH l m).length≤9223372036854775807:=by have:=vi m l;omega
 have qv:=PN.lt
 have Bi:rT w4 a' (zH l m):=by rw[←jZ];exact PN.room
 have hOb: ∃rs,rs.map Pl.x=zH l m∧xt w4 w.heap.size (.slice a' (zH l m).length c') rs:=⟨rs',jZ,by have:=PN.objs;rw[jZ]at this;exact this.from Hj⟩
 clear jZ Vd PN
 go_wp2_with fail
 refine(vD a' c' (zH l m) w4 MT FL).mono ?_
 rintro e w5 ⟨rfl,xu⟩
 have su:=bt xZ xu
 have EC:=(xu.cell (p:=⟨p,0,none⟩) qv).trans xf
 have A1:=MT.below xu
 have Er:Hid (rT w5 a' (zH l m)∧∃rs,rs.map Pl.x=zH l m∧xt w5 w.heap.size (.slice a' (zH l m).length c') rs):=⟨Bi.below xu,by obtain⟨rs,q1,q2⟩:=hOb;exact⟨rs,q1,q2.below xu⟩⟩
 clear hOb
 clear xu xf MT xZ Bi
 by_cases k5:zK (zH l m)=0
 case neg=>
  have HZ:Hid (zK (zH l m)≠0):=k5
  have hz:(zK (zH l m) != 0)=true:=by simpa using k5
  clear k5
  go_wp2
  refine bodyPost_ret (v:=.tuple #[.slice none 0 0,.int .i64 (zK (zH l m))]) (by simp[results,Tryz.results77,go_sem]) rfl ?_
  exact sY.bad HA.out HZ.out su
 have HF:Hid (xD l m=0∧zP w5 a' (zH l m)∧(zH l m).length≤c'∧Below w.heap.size w w5):=⟨HA.out.trans k5,A1,hRL,su⟩
 rw[k5]
 clear k5 A1 su
 go_wp2
 refine bodyPost_ret (v:=.tuple #[.slice a' (zH l m).length c',.int .i64 0]) (by simp[results,Tryz.results77,go_sem]) rfl ?_
 exact⟨HF.out.2.2.2,.inr ⟨HF.out.1,a',c',rfl,HF.out.2.1,HF.out.2.2.1,Er.out⟩⟩
def uz(s:List Ob)(l:List Rf)(m:List Ob)(us:List Up)(f:Bool)(w:World)(e:Ending)(w':World):Prop:=
 Below w.heap.size w w'∧((xX s l m us f≠0∧e= .returned (.tuple #[.slice none 0 0,.slice none 0 0,.int .i64 (xX s l m us f)]))∨
  (xX s l m us f=0∧∃a c a' c',e= .returned (.tuple #[.slice a (zH s m).length c,.slice a' (yK l us).length c',.int .i64 0])∧zP w' a (zH s m)∧(∃rs,rs.map Pl.x=zH s m∧xt w' w.heap.size (.slice a (zH s m).length c) rs)∧yU w' a' (yK l us)∧w'.ownsRow w.heap.size 65 2 (.slice a' (yK l us).length c') (yK l us).length (xM (yK l us))))
theorem uz.bad{s:List Ob}{l:List Rf}{m:List Ob}{us:List Up}{f:Bool}{w w':World}{r:Int}(hr:xX s l m us f=r)(h0:r≠0)(hb:Below w.heap.size w w'):uz s l m us f w (.returned (.tuple #[.slice none 0 0,.slice none 0 0,.int .i64 r])) w':=
 ⟨hb,.inl ⟨by rw[hr];exact h0,by rw[hr]⟩⟩
theorem RY(aS:Option Addr)(cs:Nat)(s:List Ob)(al:Option Addr)(cl:Nat)(l:List Rf)(g ph:Int)(a1:Option Addr)(n1 c1:Nat)(a2:Option Addr)(n2 c2:Nat)(f0:Bool)(am:Option Addr)(cm:Nat)(m:List Ob)(au:Option Addr)(cu:Nat)(us:List Up)(f:Bool)(w:World)(hg:xr w)
  (hs:zP w aS s) (Le:s.length≤9223372036854775807) (hl:yU w al l) (M7:l.length≤9223372036854775807) (hm:zP w am m) (hml:m.length≤9223372036854775807) (hu:zx w au us) (hul:us.length≤9223372036854775807):
  Calls Tryz.prog 208 #[rF aS s.length cs al l.length cl g ph a1 n1 c1 a2 n2 c2 f0,uw am m.length cm au us.length cu f] w (uz s l m us f w):=by
 have HE:Hid (xX s l m us f=if zr m us≠0 then zr m us else if xD s m≠0 then xD s m else xI l (zH s m) us f):=rfl
 have hB:=zV w (.cells #[.slice aS s.length cs,.slice al l.length cl,.int .i64 g,.int .i64 ph,.slice a1 n1 c1,.slice a2 n2 c2,.bool f0] 36) (.cells #[.slice am m.length cm,.slice au us.length cu,.bool f] 28)
 have tu:=zB (w.alloc (.cells #[.slice aS s.length cs,.slice al l.length cl,.int .i64 g,.int .i64 ph,.slice a1 n1 c1,.slice a2 n2 c2,.bool f0] 36)) (.cells #[.slice am m.length cm,.slice au us.length cu,.bool f] 28)
 have xy:((w.alloc (.cells #[.slice aS s.length cs,.slice al l.length cl,.int .i64 g,.int .i64 ph,.slice a1 n1 c1,.slice a2 n2 c2,.bool f0] 36)).alloc (.cells #[.slice am m.length cm,.slice au us.length cu,.bool f] 28)).heap[w.heap.size+1]? =some (.cells #[.slice am m.length cm,.slice au us.length cu,.bool f] 28):=by
  have:=heap_alloc_new (w.alloc (.cells #[.slice aS s.length cs,.slice al l.length cl,.int .i64 g,.int .i64 ph,.slice a1 n1 c1,.slice a2 n2 c2,.bool f0] 36)) (.cells #[.slice am m.length cm,.slice au us.length cu,.bool f] 28)
  rwa[show(w.alloc (.cells #[.slice aS s.length cs,.slice al l.length cl,.int .i64 g,.int .i64 ph,.slice a1 n1 c1,.slice a2 n2 c2,.bool f0] 36)).heap.size=w.heap.size+1 by simp]at this
 have xa:((w.alloc (.cells #[.slice aS s.length cs,.slice al l.length cl,.int .i64 g,.int .i64 ph,.slice a1 n1 c1,.slice a2 n2 c2,.bool f0] 36)).alloc (.cells #[.slice am m.length cm,.slice au us.length cu,.bool f] 28)).heap[w.heap.size]? =some (.cells #[.slice aS s.length cs,.slice al l.length cl,.int .i64 g,.int .i64 ph,.slice a1 n1 c1,.slice a2 n2 c2,.bool f0] 36):=(tu.block _ (by simp)).trans (heap_alloc_new w _)
 obtain⟨y0,y1,y2⟩:=zQ xy
 have Vl:=sM am cm m au cu us f _ (hg.below hB) (hm.below hB) hml (hu.below hB) hul
 clear tu
 go_enter Tryz.func208,Tryz.ntmps208
 go_wp2_with fail
 refine Vl.mono ?_
 clear Vl
 rintro e w1 ⟨rfl,zM⟩
 have zT:=bt hB zM
 have mf:=zA5 zM xy
 have n8:=zA5 zM xa
 clear zM hB xy xa y0 y1 y2
 by_cases k1:zr m us=0
 case neg=>
  have HR:Hid (xX s l m us f=zr m us):=by unfold Hid;rw[HE.out,if_pos k1]
  have HF:Hid (uz s l m us f w (.returned (.tuple #[.slice none 0 0,.slice none 0 0,.int .i64 (zr m us)])) w1):=uz.bad HR.out k1 zT
  have z1:(zr m us != 0)=true:=by simpa using k1
  clear k1 mf n8
  go_wp2
  refine bodyPost_ret (v:=.tuple #[.slice none 0 0,.slice none 0 0,.int .i64 (zr m us)]) (by simp[results,Tryz.results208,go_sem]) rfl ?_
  exact HF.out
 have qP:Hid (xX s l m us f=if xD s m≠0 then xD s m else xI l (zH s m) us f):=by unfold Hid;rw[HE.out,if_neg (fun e=>e k1)]
 rw[k1]
 clear k1 HE
 have r0:w1.cell? ⟨w.heap.size,0,none⟩=some (.slice aS s.length cs):=by rw[cell_of_row w1 _ _ _ _ _ n8];rfl
 obtain⟨y0,y1,y2⟩:=zQ mf
 have BI:=ZN aS cs s am cm m w1 (hs.below zT) Le (hm.below zT) hml
 go_wp2_with fail
 refine BI.mono ?_
 clear BI
 rintro e w2 ⟨zZ,xK⟩
 have zj:=bt zT zZ
 have dC:=zA5 zZ mf
 have dg:=zA5 zZ n8
 have HW1:Hid (w.heap.size≤w1.heap.size):=zT.size
 clear zZ zT mf n8 r0 y0 y1 y2
 rcases xK with⟨yM,rfl⟩|⟨hz,a3,c3,rfl,tV,hlc3,Pb,hO3⟩
 ·have HR:Hid (xX s l m us f=xD s m):=by unfold Hid;rw[qP.out,if_pos yM]
  have HF:Hid (uz s l m us f w (.returned (.tuple #[.slice none 0 0,.slice none 0 0,.int .i64 (xD s m)])) w2):=uz.bad HR.out yM zj
  have z1:(xD s m != 0)=true:=by simpa using yM
  clear yM dC dg
  go_wp2
  refine bodyPost_ret (v:=.tuple #[.slice none 0 0,.slice none 0 0,.int .i64 (xD s m)]) (by simp[results,Tryz.results208,go_sem]) rfl ?_
  exact HF.out
 have nb:Hid (xX s l m us f=xI l (zH s m) us f):=by unfold Hid;rw[qP.out,if_neg (fun e=>e hz)]
 have LJ:(zH s m).length≤9223372036854775807:=by have:=(yF (pH hz).2.2.2.2).1;omega
 have Fg: ∃rs,rs.map Pl.x=zH s m∧xt w2 w.heap.size (.slice a3 (zH s m).length c3) rs:=by obtain⟨rs,q1,q2⟩:=hO3;exact⟨rs,q1,q2.from HW1.out⟩
 clear hz qP hlc3 hO3
 obtain⟨A,hA⟩: ∃A,A=zH s m:=⟨_,rfl⟩
 have HA:Hid (A=zH s m):=hA
 rw[←hA]at tV Pb LJ nb Fg
 rw[←hA]
 clear hA
 have r1:w2.cell? ⟨w.heap.size,1,none⟩=some (.slice al l.length cl):=by rw[cell_of_row w2 _ _ _ _ _ dg];rfl
 obtain⟨y0,y1,y2⟩:=zQ dC
 have DL:=az al cl l a3 c3 A au cu us f w2 (hg.below zj) (hl.below zj) M7 tV Pb LJ (hu.below zj) hul
 go_wp2_with fail
 refine DL.mono ?_
 clear DL
 rintro e w3 ⟨yT,xK⟩
 have xL:=bt zj yT
 have mg:=tV.below yT
 have hR4: ∃rs,rs.map Pl.x=A∧xt w3 w.heap.size (.slice a3 A.length c3) rs:=by obtain⟨rs,q1,q2⟩:=Fg;exact⟨rs,q1,q2.below yT⟩
 have CA:Hid (w.heap.size≤w2.heap.size):=zj.size
 clear yT zj dC dg r1 y0 y1 y2 tV Pb Fg
 rcases xK with⟨yM,rfl⟩|⟨hz,a5,c5,rfl,LS,-,Y4⟩
 ·have HF:Hid (uz s l m us f w (.returned (.tuple #[.slice none 0 0, .slice none 0 0, .int .i64 (xI l A us f)])) w3):=uz.bad nb.out yM xL
  have z1:(xI l A us f != 0)=true:=by simpa using yM
  clear yM
  go_wp2
  refine bodyPost_ret (v:=.tuple #[.slice none 0 0,.slice none 0 0,.int .i64 (xI l A us f)]) (by simp[results,Tryz.results208,go_sem]) rfl ?_
  exact HF.out
 ·have HF:Hid (uz s l m us f w (.returned (.tuple #[.slice a3 A.length c3,.slice a5 (yK l us).length c5,.int .i64 0])) w3):=
   ⟨xL,.inr ⟨nb.out.trans hz,a3,c3,a5,c5,by rw[←HA.out],by rw[←HA.out];exact mg,by rw[←HA.out];exact hR4,LS,fD Y4 CA.out⟩⟩
  clear hz mg hR4 LS Y4
  go_wp2
  refine bodyPost_ret (v:=.tuple #[.slice a3 A.length c3,.slice a5 (yK l us).length c5,.int .i64 0]) (by simp[results,Tryz.results208,go_sem]) rfl ?_
  exact HF.out
theorem ml(w:World)(q t:Nat)(x3 x4 x5 x6:Value){y0 y1 y2 y3 y4 y5 y6:Value}(h:w.heap[q]? =some (.cells #[y0,y1,y2,y3,y4,y5,y6] t)):
  ((((w.setCell ⟨q,3,none⟩ x3).setCell ⟨q,4,none⟩ x4).setCell ⟨q,5,none⟩ x5).setCell ⟨q,6,none⟩ x6).heap[q]? =some (.cells #[y0,y1,y2,x3,x4,x5,x6] t)∧
  Below q w ((((w.setCell ⟨q,3,none⟩ x3).setCell ⟨q,4,none⟩ x4).setCell ⟨q,5,none⟩ x5).setCell ⟨q,6,none⟩ x6)∧
   ∀k,k≠q→((((w.setCell ⟨q,3,none⟩ x3).setCell ⟨q,4,none⟩ x4).setCell ⟨q,5,none⟩ x5).setCell ⟨q,6,none⟩ x6).heap[k]? =w.heap[k]?:=by
 have h4:=heap_setCell_same w q 3 _ t x3 h
 have h5:=heap_setCell_same _ q 4 _ t x4 h4
 have h6:=heap_setCell_same _ q 5 _ t x5 h5
 have h7:=heap_setCell_same _ q 6 _ t x6 h6
 refine⟨by simpa using h7,(((Below.refl q w).setCell (Nat.le_refl _) _ |>.setCell (Nat.le_refl _) _).setCell (Nat.le_refl _) _).setCell (Nat.le_refl _) _,fun k hk=>?_⟩
 rw[heap_setCell_other _ ⟨q,6,none⟩ k _ hk,heap_setCell_other _ ⟨q,5,none⟩ k _ hk,heap_setCell_other _ ⟨q,4,none⟩ k _ hk,heap_setCell_other _ ⟨q,3,none⟩ k _ hk]
theorem Yn(w:World)(q t:Nat)(x0 x1 x2:Value){y0 y1 y2 y3 y4 y5 y6:Value}(h:w.heap[q]? =some (.cells #[y0,y1,y2,y3,y4,y5,y6] t)):
  (((w.setCell ⟨q,0,none⟩ x0).setCell ⟨q,1,none⟩ x1).setCell ⟨q,2,none⟩ x2).heap[q]? =some (.cells #[x0,x1,x2,y3,y4,y5,y6] t)∧
  Below q w (((w.setCell ⟨q,0,none⟩ x0).setCell ⟨q,1,none⟩ x1).setCell ⟨q,2,none⟩ x2)∧
   ∀k,k≠q→(((w.setCell ⟨q,0,none⟩ x0).setCell ⟨q,1,none⟩ x1).setCell ⟨q,2,none⟩ x2).heap[k]? =w.heap[k]?:=by
 have h5:=heap_setCell_same w q 0 _ t x0 h
 have h6:=heap_setCell_same _ q 1 _ t x1 h5
 have h7:=heap_setCell_same _ q 2 _ t x2 h6
 refine⟨by simpa using h7,((Below.refl q w).setCell (Nat.le_refl _) _ |>.setCell (Nat.le_refl _) _).setCell (Nat.le_refl _) _,fun k hk=>?_⟩
 rw[heap_setCell_other _ ⟨q,2,none⟩ k _ hk,heap_setCell_other _ ⟨q,1,none⟩ k _ hk,heap_setCell_other _ ⟨q,0,none⟩ k _ hk]
def NoS(W:World)(R:Nat):Prop:=∀off x,W.cell? ⟨R,off,none⟩≠some (.string x)
theorem YC{W:World}{R:Nat}{aS al a1 a2:Option Addr}{ns cs nl cl n1 c1 n2 c2 t:Nat}{g ph:Int}{f:Bool}(h:W.heap[R]? =some (vG aS ns cs al nl cl g ph a1 n1 c1 a2 n2 c2 f t)):NoS W R:=by
 intro off x e
 rw[cell_of_row W R _ _ _ _ h]at e
 match off,e with
 |0,e=>cases e
 |1,e=>cases e
 |2,e=>cases e
 |3,e=>cases e
 |4,e=>cases e
 |5,e=>cases e
 |6,e=>cases e
 |n+7,e=>simp at e
theorem yU.no{R:Nat}{W W':World}{a:Option Addr}{l:List Rf}(h:yU W a l)(hn:NoS W R)(hs:W.heap.size≤W'.heap.size)(hk: ∀k,k≠R→W'.heap[k]? =W.heap[k]?):yU W' a l:=by
 intro i hi
 obtain⟨b,off,e,zN,hc⟩:=h i hi
 have hb:b≠R:=fun q=>by subst q;exact hn _ _ (hc i hi).1
 exact⟨b,off,e,Nat.lt_of_lt_of_le zN hs,fun j hj=>⟨(World.cell?_of_block (a:=⟨b,off+j*2,none⟩) (hk b hb)).trans (hc j hj).1,(World.cell?_of_block (a:=⟨b,off+j*2+1,none⟩) (hk b hb)).trans (hc j hj).2⟩⟩
theorem el(p:Nat)(aS:Option Addr)(ns cs:Nat)(al:Option Addr)(nl cl:Nat)(g ph:Int)(a1:Option Addr)(n1 c1:Nat)(a2:Option Addr)(n2 c2:Nat)(f:Bool)(w:World)(hk:w.heap[p]? =some (vG aS ns cs al nl cl g ph a1 n1 c1 a2 n2 c2 f 200)):
  Calls Tryz.prog 167 #[.pointer (some ⟨p,0,none⟩)] w fun e w'=>e= .returned (.tuple #[])∧w'.heap[p]? =some (vG aS ns cs al nl cl g 0 none 0 0 none 0 0 false 200)∧Below p w w'∧∀k,k≠p→w'.heap[k]? =w.heap[k]?:=by
 obtain⟨y0,y1,y2,y3,y4,y5,y6⟩:=zI hk
 have f3:=zF (o:=3) hk
 have f4:=zF (o:=4) hk
 have f5:=zF (o:=5) hk
 have f6:=zF (o:=6) hk
 have HS:Hid (_∧_∧_):=ml w p 200 (.int .i64 0) (.slice none 0 0) (.slice none 0 0) (.bool false) hk
 clear hk
 go_enter Tryz.func167,Tryz.ntmps167
 go_wp2
 refine bodyPost_end (results_none rfl _ _ _) rfl ?_
 exact⟨rfl,HS.out.1,HS.out.2.1,HS.out.2.2⟩
def Mx(p:Nat)(aS:Option Addr)(ns cs:Nat)(al:Option Addr)(nl cl:Nat)(g:Int)(m:List Ob)(us:List Up)(f:Bool)(w:World)(e:Ending)(w':World):Prop:=
 Below p w w'∧(∀k,k<w.heap.size→k≠p→w'.heap[k]? =w.heap[k]?)∧((zr m us≠0∧e= .returned (.int .i64 (zr m us)))∨
  (zr m us=0∧e= .returned (.int .i64 0)∧∃b2 d2 b3 d3,w'.heap[p]? =some (vG aS ns cs al nl cl g 1 b2 m.length d2 b3 us.length d3 f 200)∧vN w' w.heap.size m us b2 d2 b3 d3))
theorem dV{m:List Ob}{us:List Up}(h:zr m us=0):m.length≤12∧(∀x∈m,x.links.length≤1000)∧us.length≤4:=by
 obtain⟨h1,h2,h3⟩:=sL.1 h
 exact⟨h1,fun x hx=>ui (mR h2 x hx),(ve.1 h3).2.1⟩
theorem Rm(p q:Nat)(aS:Option Addr)(ns cs:Nat)(al:Option Addr)(nl cl:Nat)(g ph:Int)(a1:Option Addr)(n1 c1:Nat)(a2:Option Addr)(n2 c2:Nat)(f0:Bool)(am:Option Addr)(cm:Nat)(m:List Ob)(au:Option Addr)(cu:Nat)(us:List Up)(f:Bool)(w:World)(hg:xr w)
  (hk:w.heap[p]? =some (vG aS ns cs al nl cl g ph a1 n1 c1 a2 n2 c2 f0 200)) (hq:w.heap[q]? =some (.cells #[.slice am m.length cm,.slice au us.length cu,.bool f] 28)) (hm:zP w am m) (hml:m.length≤9223372036854775807) (hu:zx w au us) (hul:us.length≤9223372036854775807):
  Calls Tryz.prog 160 #[.pointer (some ⟨p,0,none⟩),.pointer (some ⟨q,0,none⟩)] w (Mx p aS ns cs al nl cl g m us f w):=by
 obtain⟨y0,y1,y2⟩:=zQ hq
 have qv:=zG hk
 go_enter Tryz.func160,Tryz.ntmps160
 go_wp2_with fail
 refine(sM am cm m au cu us f w hg hm hml hu hul).mono ?_
 rintro e w1 ⟨rfl,zM⟩
 have k1:=(zM.block _ qv).trans hk
 have q1:=zA5 zM hq
 by_cases c1:zr m us=0
 case neg=>
  have HF:Hid (Mx p aS ns cs al nl cl g m us f w (.returned (.int .i64 (zr m us))) w1):=⟨zM.mono (Nat.le_of_lt qv),fun k hk _=>zM.block k hk,.inl ⟨c1,rfl⟩⟩
  have z1:(zr m us != 0)=true:=by simpa using c1
  clear c1 k1 q1 zM y0 y1 y2
  go_wp2
  go_ret
  exact HF.out
 have HP:Hid (zr m us=0):=c1
 rw[c1]
 clear c1 y0 y1 y2
 obtain⟨y0,y1,y2⟩:=zQ q1
 have hsm:=dV HP.out
 go_wp2_with fail
 refine(jE am cm m au cu us f w1 (hm.below zM) (by omega) hsm.2.1 (hu.below zM) (by omega)).mono ?_
 rintro e w2 ⟨b2,d2,b3,d3,rfl,F2,zZ⟩
 have k2:=zA5 zZ k1
 have zj:=bt zM zZ
 obtain⟨x0,x1,x2,x3,x4,x5,x6⟩:=zI k2
 have f3:=zF (o:=3) k2
 have f4:=zF (o:=4) k2
 have f5:=zF (o:=5) k2
 have f6:=zF (o:=6) k2
 obtain⟨s1,s2,s3⟩:=ml w2 p 200 (.int .i64 1) (.slice b2 m.length d2) (.slice b3 us.length d3) (.bool f) k2
 have zRJ:p<w1.heap.size:=zG k1
 have HF:Hid (Mx p aS ns cs al nl cl g m us f w (.returned (.int .i64 0)) ((((w2.setCell ⟨p,3,none⟩ (.int .i64 1)).setCell ⟨p,4,none⟩ (.slice b2 m.length d2)).setCell ⟨p,5,none⟩ (.slice b3 us.length d3)).setCell ⟨p,6,none⟩ (.bool f))):=
  ⟨(zj.mono (Nat.le_of_lt qv)).trans s2,fun k hk hkp=>(s3 k hkp).trans (zj.block k hk),.inr ⟨HP.out,rfl,b2,d2,b3,d3,s1,(F2.keep s2.size (fun k hk=>s3 k (by omega))).from zM.size⟩⟩
 clear s1 s2 s3 F2 zj zZ k2 k1 q1 zM y0 y1 y2 hk hq hm hu hsm
 go_wp2
 go_ret
 exact HF.out
theorem RT(p q:Nat)(aS:Option Addr)(cs:Nat)(s:List Ob)(al:Option Addr)(cl:Nat)(l:List Rf)(g ph:Int)(a1:Option Addr)(c1:Nat)(m:List Ob)(a2:Option Addr)(c2:Nat)(us:List Up)(f:Bool)(x:ByteArray)(w:World)(hg:xr w)(ht:bP w)
  (hk:w.heap[p]? =some (vG aS s.length cs al l.length cl g ph a1 m.length c1 a2 us.length c2 f 200)) (hq:w.heap[q]? =some (.cells #[.string x] 9)) (GI:p≠q) (H:sJ w aS s al l a1 m a2 us):
  Calls Tryz.prog 161 #[.pointer (some ⟨p,0,none⟩),.pointer (some ⟨q,0,none⟩)] w fun e w'=>e= .returned (.int .i64 (t7 g m us))∧w'.heap[p]? =some (vG aS s.length cs al l.length cl g 2 a1 m.length c1 a2 us.length c2 f 200)∧w'.heap[q]? =some (.cells #[.string (yY s l g m us f)] 9)∧
   w.heap.size≤w'.heap.size∧w'.os=w.os∧w'.tape=w.tape∧w'.output=w.output∧∀k,k<w.heap.size→k≠p→k≠q→w'.heap[k]? =w.heap[k]?:=by
 go_enter Tryz.func161,Tryz.ntmps161
 go_wp2_with fail
 have xF:=(Below.refl w.heap.size w).drew
 have tw:w.drew.cell? ⟨p,0,none⟩=some (.slice aS s.length cs)∧w.drew.cell? ⟨p,1,none⟩=some (.slice al l.length cl)∧w.drew.cell? ⟨p,2,none⟩=some (.int .i64 g)∧w.drew.cell? ⟨p,3,none⟩=some (.int .i64 ph)∧w.drew.cell? ⟨p,4,none⟩=some (.slice a1 m.length c1)∧w.drew.cell? ⟨p,5,none⟩=some (.slice a2 us.length c2)∧w.drew.cell? ⟨p,6,none⟩=some (.bool f):=zI hk
 have HD:=H.below xF
 have kD:w.drew.heap[p]? =_:=hk
 have qD:w.drew.heap[q]? =_:=hq
 refine zS (fun W=>W.cell? ⟨p,0,none⟩=some (.slice aS s.length cs)∧W.cell? ⟨p,1,none⟩=some (.slice al l.length cl)∧W.cell? ⟨p,2,none⟩=some (.int .i64 g)∧W.cell? ⟨p,3,none⟩=some (.int .i64 ph)∧W.cell? ⟨p,4,none⟩=some (.slice a1 m.length c1)∧W.cell? ⟨p,5,none⟩=some (.slice a2 us.length c2)∧W.cell? ⟨p,6,none⟩=some (.bool f)) (fun _=>false) (by kernel_rfl) tw (fun hS=>?_)
 have Js:=hg.below xF
 have htD:=ht.below xF
 generalize w.drew=W0 at *
 refine zAA 0 ?_ rfl ?_ ?_;rotate_left
 ·intro w zD;obtain⟨z0,z1,z2,z3,z4,z5,z6⟩:=zD;go_simp;rfl
 try simp only[tn]
 refine zAA 1 ?_ rfl ?_ ?_;rotate_left
 ·intro w zD;obtain⟨z0,z1,z2,z3,z4,z5,z6⟩:=zD;go_simp;rfl
 try simp only[tn]
 refine zAA 2 ?_ rfl ?_ ?_;rotate_left
 ·intro w zD;obtain⟨z0,z1,z2,z3,z4,z5,z6⟩:=zD;go_simp;rfl
 try simp only[tn]
 refine zAA 3 ?_ rfl ?_ ?_;rotate_left
 ·intro w zD;obtain⟨z0,z1,z2,z3,z4,z5,z6⟩:=zD;go_simp;rfl
 try simp only[tn]
 refine zAA 4 ?_ rfl ?_ ?_;rotate_left
 ·intro w zD;obtain⟨z0,z1,z2,z3,z4,z5,z6⟩:=zD;go_simp;rfl
 try simp only[tn]
 refine zAA 5 ?_ rfl ?_ ?_;rotate_left
 ·intro w zD;obtain⟨z0,z1,z2,z3,z4,z5,z6⟩:=zD;go_simp;rfl
 try simp only[tn]
 refine zAA 6 ?_ rfl ?_ ?_;rotate_left
 ·intro w zD;obtain⟨z0,z1,z2,z3,z4,z5,z6⟩:=zD;go_simp;rfl
 try simp only[tn]
 refine zAA 7 ?_ rfl ?_ ?_;rotate_left
 ·intro w zD;obtain⟨z0,z1,z2,z3,z4,z5,z6⟩:=zD;go_simp;rfl
 try simp only[tn]
 refine zAA 8 ?_ rfl ?_ ?_;rotate_left
 ·intro w zD;obtain⟨z0,z1,z2,z3,z4,z5,z6⟩:=zD;go_simp;rfl
 try simp only[tn]
 refine zAC 9 rfl fun K hK=>?_
 go_simp
 refine(F8 aS cs s al cl l g ph a1 m.length c1 a2 us.length c2 f a1 c1 m a2 c2 us f W0 Js htD HD.hs HD.ns HD.hl HD.nl HD.hm HD.nm HD.hu HD.nu).mono ?_
 rintro e W1 ⟨rfl,zM⟩
 have k1:=zA5 zM kD
 have q1:=zA5 zM qD
 have ue:W1.cell? ⟨p,0,none⟩=some (.slice aS s.length cs)∧W1.cell? ⟨p,1,none⟩=some (.slice al l.length cl)∧W1.cell? ⟨p,2,none⟩=some (.int .i64 g)∧W1.cell? ⟨p,3,none⟩=some (.int .i64 ph)∧W1.cell? ⟨p,4,none⟩=some (.slice a1 m.length c1)∧W1.cell? ⟨p,5,none⟩=some (.slice a2 us.length c2)∧W1.cell? ⟨p,6,none⟩=some (.bool f):=zI k1
 have zT:=bt xF zM
 clear hS tw zM kD qD HD xF Js htD
 refine hK _ _ (fun _=>ue) ?_
 clear hK K
 try simp only[tn]
 refine zAA 10 ?_ rfl ?_ ?_;rotate_left
 ·intro w zD;go_simp;rfl
 try simp only[tn]
 refine zAA 11 ?_ rfl ?_ ?_;rotate_left
 ·intro w zD;go_simp;rfl
 try simp only[tn]
 refine zAA 12 ?_ rfl ?_ ?_;rotate_left
 ·intro w zD;go_simp;rfl
 try simp only[tn]
 refine zAC 13 rfl fun K hK=>?_
 go_simp
 refine hK _ _ (fun _=>ue) ?_
 clear hK K
 try simp only[tn]
 refine zAC 14 rfl fun K hK=>?_
 go_simp
 refine hK _ _ (fun _=>ue) ?_
 clear hK K
 try simp only[tn]
 refine zAE ?_
 clear ue
 obtain⟨y0,y1,y2,y3,y4,y5,y6⟩:=zI k1
 have e0:W1.cell? ⟨q,0,none⟩=some (.string x):=by rw[cell_of_row _ _ _ _ _ _ q1];rfl
 have fq:=zF (o:=0) q1
 have s1:=heap_setCell_same W1 q 0 _ 9 (.string (yY s l g m us f)) q1
 have t1:=(heap_setCell_other W1 ⟨q,0,none⟩ p (.string (yY s l g m us f)) GI).trans k1
 obtain⟨v0,v1,v2,v3,v4,v5,v6⟩:=zI t1
 have fp:=zF (o:=3) t1
 have s2:=heap_setCell_same _ p 3 _ 200 (.int .i64 2) t1
 have t2:=(heap_setCell_other _ ⟨p,3,none⟩ q (.int .i64 2) (Ne.symm GI)).trans s1
 have HF:Hid (((W1.setCell ⟨q,0,none⟩ (.string (yY s l g m us f))).setCell ⟨p,3,none⟩ (.int .i64 2)).heap[p]? =some (vG aS s.length cs al l.length cl g 2 a1 m.length c1 a2 us.length c2 f 200)∧((W1.setCell ⟨q,0,none⟩ (.string (yY s l g m us f))).setCell ⟨p,3,none⟩ (.int .i64 2)).heap[q]? =some (.cells #[.string (yY s l g m us f)] 9)∧
   w.heap.size≤((W1.setCell ⟨q,0,none⟩ (.string (yY s l g m us f))).setCell ⟨p,3,none⟩ (.int .i64 2)).heap.size∧((W1.setCell ⟨q,0,none⟩ (.string (yY s l g m us f))).setCell ⟨p,3,none⟩ (.int .i64 2)).os=w.os∧((W1.setCell ⟨q,0,none⟩ (.string (yY s l g m us f))).setCell ⟨p,3,none⟩ (.int .i64 2)).tape=w.tape∧((W1.setCell ⟨q,0,none⟩ (.string (yY s l g m us f))).setCell ⟨p,3,none⟩ (.int .i64 2)).output=w.output∧∀k,k<w.heap.size→k≠p→k≠q→((W1.setCell ⟨q,0,none⟩ (.string (yY s l g m us f))).setCell ⟨p,3,none⟩ (.int .i64 2)).heap[k]? =w.heap[k]?):=by
  have b2:Below 0 w ((W1.setCell ⟨q,0,none⟩ (.string (yY s l g m us f))).setCell ⟨p,3,none⟩ (.int .i64 2)):=((zT.mono (Nat.zero_le _)).setCell (Nat.zero_le _) _).setCell (Nat.zero_le _) _
  refine⟨by simpa using s2,by simpa using t2,b2.size,b2.os,b2.tape,b2.output,fun k hk h1 h2=>?_⟩
  rw[heap_setCell_other _ ⟨p,3,none⟩ k _ h1,heap_setCell_other _ ⟨q,0,none⟩ k _ h2]
  exact zT.block k hk
 clear s2 t2 t1 s1 zT q1 k1 hk hq H hg ht
 go_wp2
 go_ret
 exact⟨rfl,HF.out⟩
def eR(p:Nat)(s:List Ob)(l:List Rf)(g ph:Int)(a1:Option Addr)(c1:Nat)(m:List Ob)(a2:Option Addr)(c2:Nat)(us:List Up)(f:Bool)(w:World)(e:Ending)(w':World):Prop:=
 Below p w w'∧(∀k,k<w.heap.size→k≠p→w'.heap[k]? =w.heap[k]?)∧((xX s l m us f≠0∧e= .returned (.int .i64 (xX s l m us f)))∨(xX s l m us f=0∧g=999∧e= .returned (.int .i64 2))∨
  (xX s l m us f=0∧g≠999∧e= .returned (.int .i64 0)∧∃b0 d0 b1 d1,w'.heap[p]? =some (vG b0 (zH s m).length d0 b1 (yK l us).length d1 (g+1) ph a1 m.length c1 a2 us.length c2 f 200)∧
   (∃rs,rs.map Pl.x=zH s m∧xt w' w.heap.size (.slice b0 (zH s m).length d0) rs)∧yU w' b1 (yK l us)∧w'.ownsRow w.heap.size 65 2 (.slice b1 (yK l us).length d1) (yK l us).length (xM (yK l us))))
theorem Uv(p:Nat)(aS:Option Addr)(cs:Nat)(s:List Ob)(al:Option Addr)(cl:Nat)(l:List Rf)(g ph:Int)(a1:Option Addr)(c1:Nat)(m:List Ob)(a2:Option Addr)(c2:Nat)(us:List Up)(f:Bool)(w:World)(hg:xr w)(UT:0≤g∧g≤999)
  (hk:w.heap[p]? =some (vG aS s.length cs al l.length cl g ph a1 m.length c1 a2 us.length c2 f 200)) (H:sJ w aS s al l a1 m a2 us):
  Calls Tryz.prog 166 #[.pointer (some ⟨p,0,none⟩)] w (eR p s l g ph a1 c1 m a2 c2 us f w):=by
 have qv:=zG hk
 go_enter Tryz.func166,Tryz.ntmps166
 go_wp2_with fail
 have xF:=(Below.refl w.heap.size w).drew
 have tw:w.drew.cell? ⟨p,0,none⟩=some (.slice aS s.length cs)∧w.drew.cell? ⟨p,1,none⟩=some (.slice al l.length cl)∧w.drew.cell? ⟨p,2,none⟩=some (.int .i64 g)∧w.drew.cell? ⟨p,3,none⟩=some (.int .i64 ph)∧w.drew.cell? ⟨p,4,none⟩=some (.slice a1 m.length c1)∧w.drew.cell? ⟨p,5,none⟩=some (.slice a2 us.length c2)∧w.drew.cell? ⟨p,6,none⟩=some (.bool f):=zI hk
 have HD:=H.below xF
 have kD:w.drew.heap[p]? =_:=hk
 refine zS (fun W=>W.cell? ⟨p,0,none⟩=some (.slice aS s.length cs)∧W.cell? ⟨p,1,none⟩=some (.slice al l.length cl)∧W.cell? ⟨p,2,none⟩=some (.int .i64 g)∧W.cell? ⟨p,3,none⟩=some (.int .i64 ph)∧W.cell? ⟨p,4,none⟩=some (.slice a1 m.length c1)∧W.cell? ⟨p,5,none⟩=some (.slice a2 us.length c2)∧W.cell? ⟨p,6,none⟩=some (.bool f)) (fun _=>false) (by kernel_rfl) tw (fun hS=>?_)
 have Js:=hg.below xF
 generalize w.drew=W0 at *
 refine zAA 0 ?_ rfl ?_ ?_;rotate_left
 ·intro w zD;obtain⟨z0,z1,z2,z3,z4,z5,z6⟩:=zD;go_simp;rfl
 try simp only[tn]
 refine zAA 1 ?_ rfl ?_ ?_;rotate_left
 ·intro w zD;obtain⟨z0,z1,z2,z3,z4,z5,z6⟩:=zD;go_simp;rfl
 try simp only[tn]
 refine zAA 2 ?_ rfl ?_ ?_;rotate_left
 ·intro w zD;obtain⟨z0,z1,z2,z3,z4,z5,z6⟩:=zD;go_simp;rfl
 try simp only[tn]
 refine zAA 3 ?_ rfl ?_ ?_;rotate_left
 ·intro w zD;obtain⟨z0,z1,z2,z3,z4,z5,z6⟩:=zD;go_simp;rfl
 try simp only[tn]
 refine zAA 4 ?_ rfl ?_ ?_;rotate_left
 ·intro w zD;obtain⟨z0,z1,z2,z3,z4,z5,z6⟩:=zD;go_simp;rfl
 try simp only[tn]
 refine zAA 5 ?_ rfl ?_ ?_;rotate_left
 ·intro w zD;obtain⟨z0,z1,z2,z3,z4,z5,z6⟩:=zD;go_simp;rfl
 try simp only[tn]
 refine zAA 6 ?_ rfl ?_ ?_;rotate_left
 ·intro w zD;obtain⟨z0,z1,z2,z3,z4,z5,z6⟩:=zD;go_simp;rfl
 try simp only[tn]
 refine zAA 7 ?_ rfl ?_ ?_;rotate_left
 ·intro w zD;obtain⟨z0,z1,z2,z3,z4,z5,z6⟩:=zD;go_simp;rfl
 try simp only[tn]
 refine zAA 8 ?_ rfl ?_ ?_;rotate_left
 ·intro w zD;obtain⟨z0,z1,z2,z3,z4,z5,z6⟩:=zD;go_simp;rfl
 try simp only[tn]
 refine zAC 9 rfl fun K hK=>?_
 go_simp
 refine(RY aS cs s al cl l g ph a1 m.length c1 a2 us.length c2 f a1 c1 m a2 c2 us f W0 Js HD.hs HD.ns HD.hl HD.nl HD.hm HD.nm HD.hu HD.nu).mono ?_
 rintro e W1 ⟨zM,xK⟩
 have k1:=zA5 zM kD
 have ue:W1.cell? ⟨p,0,none⟩=some (.slice aS s.length cs)∧W1.cell? ⟨p,1,none⟩=some (.slice al l.length cl)∧W1.cell? ⟨p,2,none⟩=some (.int .i64 g)∧W1.cell? ⟨p,3,none⟩=some (.int .i64 ph)∧W1.cell? ⟨p,4,none⟩=some (.slice a1 m.length c1)∧W1.cell? ⟨p,5,none⟩=some (.slice a2 us.length c2)∧W1.cell? ⟨p,6,none⟩=some (.bool f):=zI k1
 have zT:=bt xF zM
 have J5:=xF.size
 clear hS tw zM kD HD xF Js
 rcases xK with⟨yM,rfl⟩|⟨hz,b0,d0,b1,d1,rfl,tV,hO3,Q6,ow3⟩
 ·refine hK _ _ (fun _=>ue) ?_
  clear hK K
  try simp only[tn]
  refine zAA 10 ?_ rfl ?_ ?_;rotate_left
  ·intro w zD;go_simp;rfl
  try simp only[tn]
  refine zAA 11 ?_ rfl ?_ ?_;rotate_left
  ·intro w zD;go_simp;rfl
  try simp only[tn]
  refine zAA 12 ?_ rfl ?_ ?_;rotate_left
  ·intro w zD;go_simp;rfl
  try simp only[tn]
  refine zAA 13 ?_ rfl ?_ ?_;rotate_left
  ·intro w zD;go_simp;rfl
  try simp only[tn]
  refine zAC 14 rfl fun K hK=>?_
  go_simp
  refine hK _ _ (fun _=>ue) ?_
  clear hK K
  try simp only[tn]
  refine zAC 15 rfl fun K hK=>?_
  go_simp
  refine hK _ _ (fun _=>ue) ?_
  clear hK K
  try simp only[tn]
  refine zAC 16 rfl fun K hK=>?_
  go_simp
  refine hK _ _ (fun _=>ue) ?_
  clear hK K
  try simp only[tn]
  refine zAE ?_
  have HF:Hid (eR p s l g ph a1 c1 m a2 c2 us f w (.returned (.int .i64 (xX s l m us f))) W1):=⟨zT.mono (Nat.le_of_lt qv),fun k hk _=>zT.block k hk,.inl ⟨yM,rfl⟩⟩
  have z1:(xX s l m us f != 0)=true:=by simpa using yM
  clear ue yM zT k1
  go_wp2
  go_ret
  exact HF.out
 ·refine hK _ _ (fun _=>ue) ?_
  clear hK K
  try simp only[tn]
  refine zAA 10 ?_ rfl ?_ ?_;rotate_left
  ·intro w zD;go_simp;rfl
  try simp only[tn]
  refine zAA 11 ?_ rfl ?_ ?_;rotate_left
  ·intro w zD;go_simp;rfl
  try simp only[tn]
  refine zAA 12 ?_ rfl ?_ ?_;rotate_left
  ·intro w zD;go_simp;rfl
  try simp only[tn]
  refine zAA 13 ?_ rfl ?_ ?_;rotate_left
  ·intro w zD;go_simp;rfl
  try simp only[tn]
  refine zAC 14 rfl fun K hK=>?_
  go_simp
  refine hK _ _ (fun _=>ue) ?_
  clear hK K
  try simp only[tn]
  refine zAC 15 rfl fun K hK=>?_
  go_simp
  refine hK _ _ (fun _=>ue) ?_
  clear hK K
  try simp only[tn]
  refine zAC 16 rfl fun K hK=>?_
  go_simp
  refine hK _ _ (fun _=>ue) ?_
  clear hK K
  try simp only[tn]
  refine zAE ?_
  obtain⟨y0,y1,y2,y3,y4,y5,y6⟩:=ue
  by_cases P6:g=999
  ·have HF:Hid (eR p s l g ph a1 c1 m a2 c2 us f w (.returned (.int .i64 2)) W1):=⟨zT.mono (Nat.le_of_lt qv),fun k hk _=>zT.block k hk, .inr (.inl ⟨hz,P6,rfl⟩)⟩
   have z1:(g==999)=true:=by simpa using P6
   clear P6 hz tV hO3 Q6 ow3 zT k1 hk H UT
   go_wp2
   go_ret
   exact HF.out
  ·have z1:(g==999)=false:=by simpa using P6
   have ri:IntKind.i64.wrap (g+1)=g+1:=by simp[IntKind.wrap,IntKind.bits,IntKind.signed];omega
   have f0:=zF (o:=0) k1
   have f1:=zF (o:=1) k1
   have f2:=zF (o:=2) k1
   obtain⟨s1,s2,s3⟩:=Yn W1 p 200 (.slice b0 (zH s m).length d0) (.slice b1 (yK l us).length d1) (.int .i64 (g+1)) k1
   have G4:=Q6.no (YC k1) s2.size s3
   obtain⟨rs,e1,o1⟩:=hO3
   have HF:Hid (eR p s l g ph a1 c1 m a2 c2 us f w (.returned (.int .i64 0)) (((W1.setCell ⟨p,0,none⟩ (.slice b0 (zH s m).length d0)).setCell ⟨p,1,none⟩ (.slice b1 (yK l us).length d1)).setCell ⟨p,2,none⟩ (.int .i64 (g+1)))):=
    ⟨(zT.mono (Nat.le_of_lt qv)).trans s2,fun k hk hkp=>(s3 k hkp).trans (zT.block k hk),.inr (.inr ⟨hz,P6,rfl,b0,d0,b1,d1,s1,⟨rs,e1,(o1.keep s2.size (fun k hk=>s3 k (by omega))).from J5⟩,G4,vX (vS ow3 (fun k hk=>s3 k (by omega))) J5⟩)⟩
   clear s1 s2 s3 G4 o1 e1 P6 hz tV Q6 ow3 zT k1 hk H UT
   go_wp2
   go_ret
   exact HF.out
def Nh(p:Nat)(aS:Option Addr)(cs:Nat)(s:List Ob)(al:Option Addr)(cl:Nat)(l:List Rf)(g:Int)(m:List Ob)(us:List Up)(f c:Bool)(w:World)(e:Ending)(w':World):Prop:=
 Below p w w'∧(∀k,k<w.heap.size→k≠p→w'.heap[k]? =w.heap[k]?)∧
  ((c=false∧e= .returned (.int .i64 0)∧w'.heap[p]? =some (vG aS s.length cs al l.length cl g 0 none 0 0 none 0 0 false 200))∨
   (c=true∧xX s l m us f≠0∧e= .returned (.int .i64 (xX s l m us f)))∨(c=true∧xX s l m us f=0∧g=999∧e= .returned (.int .i64 2))∨
   (c=true∧xX s l m us f=0∧g≠999∧e= .returned (.int .i64 0)∧∃b0 d0 b1 d1,w'.heap[p]? =some (vG b0 (zH s m).length d0 b1 (yK l us).length d1 (g+1) 0 none 0 0 none 0 0 false 200)∧
   (∃rs,rs.map Pl.x=zH s m∧xt w' w.heap.size (.slice b0 (zH s m).length d0) rs)∧yU w' b1 (yK l us)∧w'.ownsRow w.heap.size 65 2 (.slice b1 (yK l us).length d1) (yK l us).length (xM (yK l us))))
theorem LP(p q:Nat)(aS:Option Addr)(cs:Nat)(s:List Ob)(al:Option Addr)(cl:Nat)(l:List Rf)(g ph:Int)(a1:Option Addr)(c1:Nat)(m:List Ob)(a2:Option Addr)(c2:Nat)(us:List Up)(f c:Bool)(w:World)(hg:xr w)(UT:0≤g∧g≤999)
  (hk:w.heap[p]? =some (vG aS s.length cs al l.length cl g ph a1 m.length c1 a2 us.length c2 f 200)) (hq:w.heap[q]? =some (.cells #[.bool c] 4)) (H:sJ w aS s al l a1 m a2 us):
  Calls Tryz.prog 165 #[.pointer (some ⟨p,0,none⟩),.pointer (some ⟨q,0,none⟩)] w (Nh p aS cs s al cl l g m us f c w):=by
 have qv:=zG hk
 have e0:w.cell? ⟨q,0,none⟩=some (.bool c):=by rw[cell_of_row _ _ _ _ _ _ hq];rfl
 cases c with
 |false=>
  go_enter Tryz.func165,Tryz.ntmps165
  go_wp2_with fail
  refine(el p aS s.length cs al l.length cl g ph a1 m.length c1 a2 us.length c2 f w hk).mono ?_
  rintro e w1 ⟨rfl,h1,h2,h3⟩
  have HF:Hid (Nh p aS cs s al cl l g m us f false w (.returned (.int .i64 0)) w1):=⟨h2,fun k _ hkp=>h3 k hkp,.inl ⟨rfl,rfl,h1⟩⟩
  clear h1 h2 h3 hk hq H
  go_wp2
  go_ret
  exact HF.out
 |true=>
  go_enter Tryz.func165,Tryz.ntmps165
  go_wp2_with fail
  refine(Uv p aS cs s al cl l g ph a1 c1 m a2 c2 us f w hg UT hk H).mono ?_
  rintro e w1 ⟨zM,bO,⟨yM,rfl⟩|⟨hz,h9,rfl⟩|⟨hz,h9,rfl,b0,d0,b1,d1,k1,⟨rs,e1,o1⟩,Vi,ow1⟩⟩
  ·have HF:Hid (Nh p aS cs s al cl l g m us f true w (.returned (.int .i64 (xX s l m us f))) w1):=⟨zM,bO, .inr (.inl ⟨rfl,yM,rfl⟩)⟩
   have z1:(xX s l m us f != 0)=true:=by simpa using yM
   clear yM zM bO hk hq H
   go_wp2
   go_ret
   exact HF.out
  ·have HF:Hid (Nh p aS cs s al cl l g m us f true w (.returned (.int .i64 2)) w1):=⟨zM,bO, .inr (.inr (.inl ⟨rfl,hz,h9,rfl⟩))⟩
   clear hz h9 zM bO hk hq H UT
   go_wp2
   go_ret
   exact HF.out
  ·go_wp2_with fail
   refine(el p _ _ _ _ _ _ (g+1) ph a1 m.length c1 a2 us.length c2 f w1 k1).mono ?_
   rintro e w2 ⟨rfl,h1,h2,h3⟩
   have qu:=zG k1
   have HF:Hid (Nh p aS cs s al cl l g m us f true w (.returned (.int .i64 0)) w2):=⟨zM.trans h2,fun k hk hkp=>(h3 k hkp).trans (bO k hk hkp),.inr (.inr (.inr ⟨rfl,hz,h9,rfl,b0,d0,b1,d1,h1,⟨rs,e1,o1.keep h2.size (fun k hk=>h3 k (by omega))⟩,Vi.no (YC k1) h2.size h3,vS ow1 (fun k hk=>h3 k (by omega))⟩))⟩
   clear h1 h2 h3 hz h9 o1 Vi ow1 zM bO hk hq H k1 UT
   go_wp2
   go_ret
   exact HF.out
theorem xt.kept{w w':World}{z:Nat}{v:Value}{rs:List Pl}(h:xt w z v rs)(hs:w.heap.size≤w'.heap.size)(hk: ∀k,z≤k→k<w.heap.size→w'.heap[k]? =w.heap[k]?):xt w' z v rs:=by
 refine⟨rM h.own (fun g hg=>hk g (h.own.lt g hg).1 (h.own.lt g hg).2),fun r hr=>?_⟩
 obtain⟨h1,h2⟩:=h.each r hr
 refine⟨h1,fun h0=>?_⟩
 obtain⟨b,off,e,Zb,zN,yM,hc⟩:=h2 h0
 exact⟨b,off,e,Zb,Nat.lt_of_lt_of_le zN hs,yM,fun i hi=>(World.cell?_of_block (a:=⟨b,off+i,none⟩) (hk b Zb zN)).trans (hc i hi)⟩
theorem vM.kept{w w':World}{z:Nat}{s:List Ob}{l:List Rf}{m:List Ob}{us:List Up}{aS al a1 a2:Option Addr}{cs cl c1 c2:Nat}(h:vM w z s l m us aS cs al cl a1 c1 a2 c2)(hs:w.heap.size≤w'.heap.size)(hk: ∀k,z≤k→k<w.heap.size→w'.heap[k]? =w.heap[k]?):vM w' z s l m us aS cs al cl a1 c1 a2 c2:=by
 obtain⟨rs,e,o⟩:=h.objs
 obtain⟨rs2,e2,o2⟩:=h.push.objs
 exact⟨⟨rs,e,o.kept hs hk⟩,yi h.refs (fun g hg=>hk g (h.refs.lt g hg).1 (h.refs.lt g hg).2),⟨rs2,e2,o2.kept hs hk⟩,yi h.push.ups (fun g hg=>hk g (h.push.ups.lt g hg).1 (h.push.ups.lt g hg).2)⟩
abbrev yx:Value:=rF none 0 0 none 0 0 0 0 none 0 0 none 0 0 false
theorem vN.nil(w:World)(z:Nat):vN w z [] [] none 0 none 0:=⟨⟨[],rfl,World.ownsRow_nil _ _ _ _,fun r hr=>by cases hr⟩,World.ownsRow_nil _ _ _ _⟩
structure n7(w:World)(z:Nat)(aS:Option Addr)(cs:Nat)(s:List Ob)(al:Option Addr)(cl:Nat)(l:List Rf)(am:Option Addr)(cm:Nat)(m:List Ob)(au:Option Addr)(cu:Nat)(us:List Up):Prop where
 h:sJ w aS s al l am m au us
 fr:vM w z s l m us aS cs al cl am cm au cu
theorem n7.below{w w':World}{z:Nat}{aS al am au:Option Addr}{cs cl cm cu:Nat}{s:List Ob}{l:List Rf}{m:List Ob}{us:List Up}(h:n7 w z aS cs s al cl l am cm m au cu us)(hb:Below w.heap.size w w'):n7 w' z aS cs s al cl l am cm m au cu us:=
 ⟨h.h.below hb,h.fr.below hb⟩
theorem n7.from{w:World}{z z':Nat}{aS al am au:Option Addr}{cs cl cm cu:Nat}{s:List Ob}{l:List Rf}{m:List Ob}{us:List Up}(h:n7 w z aS cs s al cl l am cm m au cu us)(hz:z'≤z):n7 w z' aS cs s al cl l am cm m au cu us:=⟨h.h,h.fr.from hz⟩
theorem n7.keep{w w':World}{z:Nat}{aS al am au:Option Addr}{cs cl cm cu:Nat}{s:List Ob}{l:List Rf}{m:List Ob}{us:List Up}(h:n7 w z aS cs s al cl l am cm m au cu us)(hs:w.heap.size≤w'.heap.size)(hk: ∀k,z≤k→w'.heap[k]? =w.heap[k]?):n7 w' z aS cs s al cl l am cm m au cu us:=by
 have hf:=h.fr.keep hs hk
 have hh:=hf.holds
 exact⟨⟨hh.1,hh.2.1,hh.2.2.1,hh.2.2.2,h.h.ns,h.h.nl,h.h.nm,h.h.nu⟩,hf⟩
def yA(E:Int)(s:List Ob)(l:List Rf)(g ph:Int)(m:List Ob)(us:List Up)(f:Bool)(w:World)(e:Ending)(w':World):Prop:=
 Below w.heap.size w w'∧((E≠0∧e= .returned (.tuple #[yx,.int .i64 E]))∨
  (E=0∧∃b0 d0 b1 d1 b2 d2 b3 d3,e= .returned (.tuple #[RV b0 d0 s b1 d1 l g ph b2 d2 m b3 d3 us f,.int .i64 0])∧n7 w' w.heap.size b0 d0 s b1 d1 l b2 d2 m b3 d3 us))
theorem yA.bad{E r:Int}{s:List Ob}{l:List Rf}{g ph:Int}{m:List Ob}{us:List Up}{f:Bool}{w w':World}(he:E=r)(h0:r≠0)(hb:Below w.heap.size w w'):yA E s l g ph m us f w (.returned (.tuple #[yx,.int .i64 r])) w':=
 ⟨hb,.inl ⟨by rw[he];exact h0,by rw[he]⟩⟩
theorem rc{s:List Ob}{l:List Rf}{g ph:Int}{m:List Ob}{us:List Up}{f:Bool}(h:xA s l g ph m us f=0):s.length≤40∧(∀x∈s,x.links.length≤1000)∧l.length≤8∧m.length≤12∧(∀x∈m,x.links.length≤1000)∧us.length≤4:=by
 obtain⟨h1,_,_,h4,h5⟩:=tY.1 h
 obtain⟨r1,r2,_⟩:=xc.1 h1
 refine⟨(yF r1).1,fun x hx=>ui (vE r1 x hx),r2,?_⟩
 by_cases hp:ph=0
 ·have:=h5 hp
  simp only[xj,Bool.and_eq_true,decide_eq_true_eq]at this
  have e1:m=[]:=List.eq_nil_of_length_eq_zero this.1.1
  have e2:us=[]:=List.eq_nil_of_length_eq_zero this.1.2
  subst e1 e2
  exact⟨by simp,fun x hx=>(by cases hx),by simp⟩
 ·exact dV (h4 hp)
theorem y9(w:World)(q t:Nat)(x0 x1 x2 x3 x4 x5 x6:Value)(h:w.heap[q]? =some (.cells #[x0,x1,x2,x3,x4,x5,x6] t)):
  Below w.heap.size w (((((((w.setCell ⟨q,0,none⟩ x0).setCell ⟨q,1,none⟩ x1).setCell ⟨q,2,none⟩ x2).setCell ⟨q,3,none⟩ x3).setCell ⟨q,4,none⟩ x4).setCell ⟨q,5,none⟩ x5).setCell ⟨q,6,none⟩ x6):=by
 obtain⟨h1,h2,h3⟩:=yQ w q t x0 x1 x2 x3 x4 x5 x6 h
 refine⟨h2.os,h2.tape,h2.output,h2.size,fun k _=>?_⟩
 by_cases e:k=q
 ·subst e;rw[h1,h]
 ·exact h3 k e
def bQ(s:List Ob)(l:List Rf)(g ph:Int)(m:List Ob)(us:List Up)(f:Bool)(n:Int):Int:=if xA s l g ph m us f≠0 then xA s l g ph m us f else if ph≠n then 4 else 0
theorem tF{s:List Ob}{l:List Rf}{g ph:Int}{m:List Ob}{us:List Up}{f:Bool}{n:Int}:bQ s l g ph m us f n=0↔xA s l g ph m us f=0∧ph=n:=by
 unfold bQ
 split
 ·rename_i h;exact⟨fun e=>absurd e h,fun e=>absurd e.1 h⟩
 ·rename_i h
  split
  ·rename_i h2;exact⟨fun e=>(by cases e),fun e=>absurd e.2 h2⟩
  ·rename_i h2;exact⟨fun _=>⟨Classical.byContradiction h,Classical.byContradiction h2⟩,fun _=>rfl⟩
theorem Z1{s:List Ob}{l:List Rf}{g ph:Int}{m:List Ob}{us:List Up}{f:Bool}{n:Int}(h:xA s l g ph m us f≠0):bQ s l g ph m us f n=xA s l g ph m us f:=by unfold bQ;rw[if_pos h]
theorem Yh{s:List Ob}{l:List Rf}{g ph:Int}{m:List Ob}{us:List Up}{f:Bool}{n:Int}(h:xA s l g ph m us f=0)(h2:ph≠n):bQ s l g ph m us f n=4:=by unfold bQ;rw[if_neg (fun e=>e h),if_pos h2]
def tz(s:List Ob)(l:List Rf)(g ph:Int)(m:List Ob)(us:List Up)(f:Bool)(m2:List Ob)(us2:List Up):Int:=if bQ s l g ph m us f 0≠0 then bQ s l g ph m us f 0 else zr m2 us2
def ti(s m:List Ob):Bool→List Ob
 |true=>zH s m
 |false=>s
def tW(l:List Rf)(us:List Up):Bool→List Rf
 |true=>yK l us
 |false=>l
def td(g:Int):Bool→Int
 |true=>g+1
 |false=>g
def uH(s:List Ob)(l:List Rf)(g ph:Int)(m:List Ob)(us:List Up)(f c:Bool):Int:=
 if bQ s l g ph m us f 2≠0 then bQ s l g ph m us f 2 else if c=false then 0 else if xX s l m us f≠0 then xX s l m us f else if g=999 then 2 else 0
theorem VJ(aS:Option Addr)(cs:Nat)(s:List Ob)(al:Option Addr)(cl:Nat)(l:List Rf)(g ph:Int)(a1:Option Addr)(c1:Nat)(m:List Ob)(a2:Option Addr)(c2:Nat)(us:List Up)(f:Bool)(q:Nat)(am:Option Addr)(cm:Nat)(m2:List Ob)(au:Option Addr)(cu:Nat)(us2:List Up)(f2:Bool)(w:World)(hg:xr w)(H:sJ w aS s al l a1 m a2 us)(hq:w.heap[q]? =some (.cells #[.slice am m2.length cm,.slice au us2.length cu,.bool f2] 28))(Ga:zP w am m2)(hml2:m2.length≤9223372036854775807)(Tk:zx w au us2)(hul2:us2.length≤9223372036854775807):
  Calls Tryz.prog 159 #[RV aS cs s al cl l g ph a1 c1 m a2 c2 us f,.int .i64 0,.func (.func 160) #[] #[.pointer (some ⟨q,0,none⟩)]] w (yA (tz s l g ph m us f m2 us2) s l g 1 m2 us2 f2 w):=by
 have hB:=zV w (RB aS cs s al cl l g ph a1 c1 m a2 c2 us f) zo
 obtain⟨xa,xy⟩:=ye w (RB aS cs s al cl l g ph a1 c1 m a2 c2 us f) zo
 obtain⟨y0,y1,y2,y3,y4,y5,y6⟩:=zI xa
 have nL:=vv aS cs s al cl l g ph a1 c1 m a2 c2 us f _ (hg.below hB) (H.below hB)
 have Hz:Hid (w.heap.size+2≤((w.alloc (RB aS cs s al cl l g ph a1 c1 m a2 c2 us f)).alloc zo).heap.size):=by unfold Hid;simp
 have HE:Hid (∀r,tz s l g ph m us f m2 us2=r↔tz s l g ph m us f m2 us2=r):=fun _=>Iff.rfl
 go_enter Tryz.func159,Tryz.ntmps159
 go_wp2_with fail
 generalize (w.alloc (RB aS cs s al cl l g ph a1 c1 m a2 c2 us f)).alloc zo=W0 at *
 refine nL.mono ?_
 clear nL
 rintro e W1 ⟨rfl,zM⟩
 have zT:=bt hB zM
 have k1:=zA5 zM xa
 have yN:=zA5 zM xy
 have XE:Hid (w.heap.size+2≤W1.heap.size):=Nat.le_trans Hz.out zM.size
 clear zM hB xa xy y0 y1 y2 y3 y4 y5 y6
 by_cases c1:xA s l g ph m us f=0
 case neg=>
  have xQ:=y9 W1 (w.heap.size+1) 36 (.slice none 0 0) (.slice none 0 0) (.int .i64 0) (.int .i64 0) (.slice none 0 0) (.slice none 0 0) (.bool false) yN
  obtain⟨o0,o1,o2,o3,o4,o5,o6⟩:=zI yN
  have pi:=zF (o:=0) yN
  have nG:=zF (o:=1) yN
  have pX:=zF (o:=2) yN
  have pc:=zF (o:=3) yN
  have pg:=zF (o:=4) yN
  have pp:=zF (o:=5) yN
  have nF:=zF (o:=6) yN
  obtain⟨i0,i1,i2,i3,i4,i5,i6⟩:=zI ((zA5 xQ yN))
  have HF:Hid (yA (tz s l g ph m us f m2 us2) s l g 1 m2 us2 f2 w (.returned (.tuple #[yx,.int .i64 (xA s l g ph m us f)])) (((((((W1.setCell ⟨w.heap.size+1,0,none⟩ (.slice none 0 0)).setCell ⟨w.heap.size+1,1,none⟩ (.slice none 0 0)).setCell ⟨w.heap.size+1,2,none⟩ (.int .i64 0)).setCell ⟨w.heap.size+1,3,none⟩ (.int .i64 0)).setCell ⟨w.heap.size+1,4,none⟩ (.slice none 0 0)).setCell ⟨w.heap.size+1,5,none⟩ (.slice none 0 0)).setCell ⟨w.heap.size+1,6,none⟩ (.bool false))):=yA.bad (by unfold tz;rw[Z1 c1,if_pos c1]) c1 ((bt zT xQ))
  have z1:(xA s l g ph m us f != 0)=true:=by simpa using c1
  clear c1 k1 yN zT xQ
  go_wp2
  refine bodyPost_ret (v:=.tuple #[yx,.int .i64 (xA s l g ph m us f)]) (by simp[results,Tryz.results159,go_sem,i0,i1,i2,i3,i4,i5,i6]) rfl ?_
  exact HF.out
 have HC:Hid (xA s l g ph m us f=0):=c1
 rw[c1]
 clear c1
 obtain⟨y0,y1,y2,y3,y4,y5,y6⟩:=zI k1
 by_cases zph:ph=0
 case neg=>
  have xQ:=y9 W1 (w.heap.size+1) 36 (.slice none 0 0) (.slice none 0 0) (.int .i64 0) (.int .i64 0) (.slice none 0 0) (.slice none 0 0) (.bool false) yN
  obtain⟨o0,o1,o2,o3,o4,o5,o6⟩:=zI yN
  have pi:=zF (o:=0) yN
  have nG:=zF (o:=1) yN
  have pX:=zF (o:=2) yN
  have pc:=zF (o:=3) yN
  have pg:=zF (o:=4) yN
  have pp:=zF (o:=5) yN
  have nF:=zF (o:=6) yN
  obtain⟨i0,i1,i2,i3,i4,i5,i6⟩:=zI ((zA5 xQ yN))
  have HF:Hid (yA (tz s l g ph m us f m2 us2) s l g 1 m2 us2 f2 w (.returned (.tuple #[yx,.int .i64 4])) (((((((W1.setCell ⟨w.heap.size+1,0,none⟩ (.slice none 0 0)).setCell ⟨w.heap.size+1,1,none⟩ (.slice none 0 0)).setCell ⟨w.heap.size+1,2,none⟩ (.int .i64 0)).setCell ⟨w.heap.size+1,3,none⟩ (.int .i64 0)).setCell ⟨w.heap.size+1,4,none⟩ (.slice none 0 0)).setCell ⟨w.heap.size+1,5,none⟩ (.slice none 0 0)).setCell ⟨w.heap.size+1,6,none⟩ (.bool false))):=yA.bad (by unfold tz;rw[Yh HC.out zph];rfl) (by decide) ((bt zT xQ))
  have z1:(ph != 0)=true:=by simpa using zph
  clear zph k1 yN zT xQ
  go_wp2
  refine bodyPost_ret (v:=.tuple #[yx,.int .i64 4]) (by simp[results,Tryz.results159,go_sem,i0,i1,i2,i3,i4,i5,i6]) rfl ?_
  exact HF.out
 have ZP:Hid (ph=0):=zph
 have z1:(ph != 0)=false:=by simpa using zph
 clear zph
 obtain⟨n1,n2,n3,n4,n5,n6⟩:=rc HC.out
 have U1:=tO aS cs s al cl l g ph a1 c1 m a2 c2 us f W1 (H.hs.below zT) (by omega) n2 (H.hl.below zT) (by omega) (H.hm.below zT) (by omega) n5 (H.hu.below zT) (by omega)
 go_wp2_with fail
 refine U1.mono ?_
 clear U1
 rintro e W2 ⟨b0,d0,b1,d1,b2,d2,b3,d3,rfl,F2,zZ⟩
 have zj:=bt zT zZ
 have SZ:=zA5 zZ yN
 have uM:=zB W2 (vG b0 s.length d0 b1 l.length d1 g ph b2 m.length d2 b3 us.length d3 f 200)
 have k3:=heap_alloc_new W2 (vG b0 s.length d0 b1 l.length d1 g ph b2 m.length d2 b3 us.length d3 f 200)
 have ce:=zZ.size
 have F3:=F2.below uM
 have xL:=bt zj uM
 have eY:=zA5 uM SZ
 have h3:=F3.holds
 have R3:sJ (W2.alloc (vG b0 s.length d0 b1 l.length d1 g ph b2 m.length d2 b3 us.length d3 f 200)) b0 s b1 l b2 m b3 us:=⟨h3.1,h3.2.1,h3.2.2.1,h3.2.2.2,H.ns,H.nl,H.nm,H.nu⟩
 have dJ:(W2.alloc (vG b0 s.length d0 b1 l.length d1 g ph b2 m.length d2 b3 us.length d3 f 200)).heap.size=W2.heap.size+1:=by simp
 clear F3 zZ zT k1 yN SZ h3 y0 y1 y2 y3 y4 y5 y6
 go_wp2_with fail
 generalize W2.alloc (vG b0 s.length d0 b1 l.length d1 g ph b2 m.length d2 b3 us.length d3 f 200)=W3 at *
 refine(Rm W2.heap.size q b0 s.length d0 b1 l.length d1 g ph b2 m.length d2 b3 us.length d3 f am cm m2 au cu us2 f2 W3 (hg.below xL) k3 ((zA5 xL hq)) (Ga.below xL) hml2 (Tk.below xL) hul2).mono ?_
 rintro e W4 ⟨xR,mn,xK⟩
 have vB:=(mn (w.heap.size+1) (zG eY) (by have:=XE.out;omega)).trans eY
 have xZ:=xL.trans (xR.mono zj.size)
 rcases xK with⟨yM,rfl⟩|⟨ka,rfl,b4,d4,b5,d5,k4,FP⟩
 ·have z2:(zr m2 us2 != 0)=true:=by simpa using yM
  have xQ:=y9 W4 (w.heap.size+1) 36 (.slice none 0 0) (.slice none 0 0) (.int .i64 0) (.int .i64 0) (.slice none 0 0) (.slice none 0 0) (.bool false) vB
  obtain⟨o0,o1,o2,o3,o4,o5,o6⟩:=zI vB
  have pi:=zF (o:=0) vB
  have nG:=zF (o:=1) vB
  have pX:=zF (o:=2) vB
  have pc:=zF (o:=3) vB
  have pg:=zF (o:=4) vB
  have pp:=zF (o:=5) vB
  have nF:=zF (o:=6) vB
  obtain⟨i0,i1,i2,i3,i4,i5,i6⟩:=zI ((zA5 xQ vB))
  have HF:Hid (yA (tz s l g ph m us f m2 us2) s l g 1 m2 us2 f2 w (.returned (.tuple #[yx,.int .i64 (zr m2 us2)])) (((((((W4.setCell ⟨w.heap.size+1,0,none⟩ (.slice none 0 0)).setCell ⟨w.heap.size+1,1,none⟩ (.slice none 0 0)).setCell ⟨w.heap.size+1,2,none⟩ (.int .i64 0)).setCell ⟨w.heap.size+1,3,none⟩ (.int .i64 0)).setCell ⟨w.heap.size+1,4,none⟩ (.slice none 0 0)).setCell ⟨w.heap.size+1,5,none⟩ (.slice none 0 0)).setCell ⟨w.heap.size+1,6,none⟩ (.bool false))):=yA.bad (by unfold tz;rw[if_neg (fun e=>e (tF.2 ⟨HC.out,ZP.out⟩))]) (yM) ((bt xZ xQ))
  clear xQ xZ vB yM F2 uM k3 mn xR R3 eY xL hq Ga Tk H dJ ce
  go_wp2
  refine bodyPost_ret (v:=.tuple #[yx,.int .i64 (zr m2 us2)]) (by simp[results,Tryz.results159,go_sem,i0,i1,i2,i3,i4,i5,i6]) rfl ?_
  exact HF.out
 have F4:=F2.kept (Nat.le_trans uM.size xR.size) (fun k h1 h2=>(mn k (by have:=uM.size;omega) (by omega)).trans (uM.block k h2))
 have FP4:=FP.from (z':=W1.heap.size) (by omega)
 clear F2 uM k3 mn xR R3 eY xL FP
 obtain⟨x0,x1,x2,x3,x4,x5,x6⟩:=zI k4
 obtain⟨o0,o1,o2,o3,o4,o5,o6⟩:=zI vB
 have pi:=zF (o:=0) vB
 have nG:=zF (o:=1) vB
 have pX:=zF (o:=2) vB
 have pc:=zF (o:=3) vB
 have pg:=zF (o:=4) vB
 have pp:=zF (o:=5) vB
 have nF:=zF (o:=6) vB
 obtain⟨s1,s2,s3⟩:=yQ W4 (w.heap.size+1) 36 (.slice b0 s.length d0) (.slice b1 l.length d1) (.int .i64 g) (.int .i64 1) (.slice b4 m2.length d4) (.slice b5 us2.length d5) (.bool f2) vB
 obtain⟨i0,i1,i2,i3,i4,i5,i6⟩:=zI s1
 have nO: ∀k,W1.heap.size≤k→(((((((W4.setCell ⟨w.heap.size+1,0,none⟩ (.slice b0 s.length d0)).setCell ⟨w.heap.size+1,1,none⟩ (.slice b1 l.length d1)).setCell ⟨w.heap.size+1,2,none⟩ (.int .i64 g)).setCell ⟨w.heap.size+1,3,none⟩ (.int .i64 1)).setCell ⟨w.heap.size+1,4,none⟩ (.slice b4 m2.length d4)).setCell ⟨w.heap.size+1,5,none⟩ (.slice b5 us2.length d5)).setCell ⟨w.heap.size+1,6,none⟩ (.bool f2)).heap[k]? =W4.heap[k]?:=fun k hk=>s3 k (by have:=XE.out;omega)
 have F5:=F4.keep s2.size nO
 have h5:=F5.holds
 have h6:=(FP4.keep s2.size nO).holds
 have HF:Hid (yA (tz s l g ph m us f m2 us2) s l g 1 m2 us2 f2 w (.returned (.tuple #[RV b0 d0 s b1 d1 l g 1 b4 d4 m2 b5 d5 us2 f2,.int .i64 0])) (((((((W4.setCell ⟨w.heap.size+1,0,none⟩ (.slice b0 s.length d0)).setCell ⟨w.heap.size+1,1,none⟩ (.slice b1 l.length d1)).setCell ⟨w.heap.size+1,2,none⟩ (.int .i64 g)).setCell ⟨w.heap.size+1,3,none⟩ (.int .i64 1)).setCell ⟨w.heap.size+1,4,none⟩ (.slice b4 m2.length d4)).setCell ⟨w.heap.size+1,5,none⟩ (.slice b5 us2.length d5)).setCell ⟨w.heap.size+1,6,none⟩ (.bool f2))):=
  ⟨xZ.trans (s2.mono (by omega)),.inr ⟨by unfold tz;rw[if_neg (fun e=>e (tF.2 ⟨HC.out,ZP.out⟩))];exact ka,b0,d0,b1,d1,b4,d4,b5,d5,rfl,⟨h5.1,h5.2.1,h6.1,h6.2,H.ns,H.nl,hml2,hul2⟩,(vM.mk F5.objs F5.refs (FP4.keep s2.size nO)).from (by have:=XE.out;omega)⟩⟩
 clear F5 h5 h6 F4 FP4 nO s1 s2 s3 vB k4 xZ H dJ ce ka hq Ga Tk
 go_wp2
 refine bodyPost_ret (v:=.tuple #[rF b0 s.length d0 b1 l.length d1 g 1 b4 m2.length d4 b5 us2.length d5 f2,.int .i64 0]) (by simp[results,Tryz.results159,go_sem,i0,i1,i2,i3,i4,i5,i6]) rfl ?_
 exact HF.out
theorem To(aS:Option Addr)(cs:Nat)(s:List Ob)(al:Option Addr)(cl:Nat)(l:List Rf)(g ph:Int)(a1:Option Addr)(c1:Nat)(m:List Ob)(a2:Option Addr)(c2:Nat)(us:List Up)(f:Bool)(q:Nat)(c:Bool)(w:World)(hg:xr w)(H:sJ w aS s al l a1 m a2 us)(hq:w.heap[q]? =some (.cells #[.bool c] 4)):
  Calls Tryz.prog 159 #[RV aS cs s al cl l g ph a1 c1 m a2 c2 us f,.int .i64 2,.func (.func 165) #[] #[.pointer (some ⟨q,0,none⟩)]] w (yA (uH s l g ph m us f c) (ti s m c) (tW l us c) (td g c) 0 [] [] false w):=by
 have hB:=zV w (RB aS cs s al cl l g ph a1 c1 m a2 c2 us f) zo
 obtain⟨xa,xy⟩:=ye w (RB aS cs s al cl l g ph a1 c1 m a2 c2 us f) zo
 obtain⟨y0,y1,y2,y3,y4,y5,y6⟩:=zI xa
 have nL:=vv aS cs s al cl l g ph a1 c1 m a2 c2 us f _ (hg.below hB) (H.below hB)
 have Hz:Hid (w.heap.size+2≤((w.alloc (RB aS cs s al cl l g ph a1 c1 m a2 c2 us f)).alloc zo).heap.size):=by unfold Hid;simp
 have HE:Hid (∀r,uH s l g ph m us f c=r↔uH s l g ph m us f c=r):=fun _=>Iff.rfl
 go_enter Tryz.func159,Tryz.ntmps159
 go_wp2_with fail
 generalize (w.alloc (RB aS cs s al cl l g ph a1 c1 m a2 c2 us f)).alloc zo=W0 at *
 refine nL.mono ?_
 clear nL
 rintro e W1 ⟨rfl,zM⟩
 have zT:=bt hB zM
 have k1:=zA5 zM xa
 have yN:=zA5 zM xy
 have XE:Hid (w.heap.size+2≤W1.heap.size):=Nat.le_trans Hz.out zM.size
 clear zM hB xa xy y0 y1 y2 y3 y4 y5 y6
 by_cases c1:xA s l g ph m us f=0
 case neg=>
  have xQ:=y9 W1 (w.heap.size+1) 36 (.slice none 0 0) (.slice none 0 0) (.int .i64 0) (.int .i64 0) (.slice none 0 0) (.slice none 0 0) (.bool false) yN
  obtain⟨o0,o1,o2,o3,o4,o5,o6⟩:=zI yN
  have pi:=zF (o:=0) yN
  have nG:=zF (o:=1) yN
  have pX:=zF (o:=2) yN
  have pc:=zF (o:=3) yN
  have pg:=zF (o:=4) yN
  have pp:=zF (o:=5) yN
  have nF:=zF (o:=6) yN
  obtain⟨i0,i1,i2,i3,i4,i5,i6⟩:=zI ((zA5 xQ yN))
  have HF:Hid (yA (uH s l g ph m us f c) (ti s m c) (tW l us c) (td g c) 0 [] [] false w (.returned (.tuple #[yx,.int .i64 (xA s l g ph m us f)])) (((((((W1.setCell ⟨w.heap.size+1,0,none⟩ (.slice none 0 0)).setCell ⟨w.heap.size+1,1,none⟩ (.slice none 0 0)).setCell ⟨w.heap.size+1,2,none⟩ (.int .i64 0)).setCell ⟨w.heap.size+1,3,none⟩ (.int .i64 0)).setCell ⟨w.heap.size+1,4,none⟩ (.slice none 0 0)).setCell ⟨w.heap.size+1,5,none⟩ (.slice none 0 0)).setCell ⟨w.heap.size+1,6,none⟩ (.bool false))):=yA.bad (by unfold uH;rw[Z1 c1,if_pos c1]) c1 ((bt zT xQ))
  have z1:(xA s l g ph m us f != 0)=true:=by simpa using c1
  clear c1 k1 yN zT xQ
  go_wp2
  refine bodyPost_ret (v:=.tuple #[yx,.int .i64 (xA s l g ph m us f)]) (by simp[results,Tryz.results159,go_sem,i0,i1,i2,i3,i4,i5,i6]) rfl ?_
  exact HF.out
 have HC:Hid (xA s l g ph m us f=0):=c1
 rw[c1]
 clear c1
 obtain⟨y0,y1,y2,y3,y4,y5,y6⟩:=zI k1
 by_cases zph:ph=2
 case neg=>
  have xQ:=y9 W1 (w.heap.size+1) 36 (.slice none 0 0) (.slice none 0 0) (.int .i64 0) (.int .i64 0) (.slice none 0 0) (.slice none 0 0) (.bool false) yN
  obtain⟨o0,o1,o2,o3,o4,o5,o6⟩:=zI yN
  have pi:=zF (o:=0) yN
  have nG:=zF (o:=1) yN
  have pX:=zF (o:=2) yN
  have pc:=zF (o:=3) yN
  have pg:=zF (o:=4) yN
  have pp:=zF (o:=5) yN
  have nF:=zF (o:=6) yN
  obtain⟨i0,i1,i2,i3,i4,i5,i6⟩:=zI ((zA5 xQ yN))
  have HF:Hid (yA (uH s l g ph m us f c) (ti s m c) (tW l us c) (td g c) 0 [] [] false w (.returned (.tuple #[yx,.int .i64 4])) (((((((W1.setCell ⟨w.heap.size+1,0,none⟩ (.slice none 0 0)).setCell ⟨w.heap.size+1,1,none⟩ (.slice none 0 0)).setCell ⟨w.heap.size+1,2,none⟩ (.int .i64 0)).setCell ⟨w.heap.size+1,3,none⟩ (.int .i64 0)).setCell ⟨w.heap.size+1,4,none⟩ (.slice none 0 0)).setCell ⟨w.heap.size+1,5,none⟩ (.slice none 0 0)).setCell ⟨w.heap.size+1,6,none⟩ (.bool false))):=yA.bad (by unfold uH;rw[Yh HC.out zph];rfl) (by decide) ((bt zT xQ))
  have z1:(ph != 2)=true:=by simpa using zph
  clear zph k1 yN zT xQ
  go_wp2
  refine bodyPost_ret (v:=.tuple #[yx,.int .i64 4]) (by simp[results,Tryz.results159,go_sem,i0,i1,i2,i3,i4,i5,i6]) rfl ?_
  exact HF.out
 have ZP:Hid (ph=2):=zph
 have z1:(ph != 2)=false:=by simpa using zph
 clear zph
 obtain⟨n1,n2,n3,n4,n5,n6⟩:=rc HC.out
 have U1:=tO aS cs s al cl l g ph a1 c1 m a2 c2 us f W1 (H.hs.below zT) (by omega) n2 (H.hl.below zT) (by omega) (H.hm.below zT) (by omega) n5 (H.hu.below zT) (by omega)
 go_wp2_with fail
 refine U1.mono ?_
 clear U1
 rintro e W2 ⟨b0,d0,b1,d1,b2,d2,b3,d3,rfl,F2,zZ⟩
 have zj:=bt zT zZ
 have SZ:=zA5 zZ yN
 have uM:=zB W2 (vG b0 s.length d0 b1 l.length d1 g ph b2 m.length d2 b3 us.length d3 f 200)
 have k3:=heap_alloc_new W2 (vG b0 s.length d0 b1 l.length d1 g ph b2 m.length d2 b3 us.length d3 f 200)
 have ce:=zZ.size
 have F3:=F2.below uM
 have xL:=bt zj uM
 have eY:=zA5 uM SZ
 have h3:=F3.holds
 have R3:sJ (W2.alloc (vG b0 s.length d0 b1 l.length d1 g ph b2 m.length d2 b3 us.length d3 f 200)) b0 s b1 l b2 m b3 us:=⟨h3.1,h3.2.1,h3.2.2.1,h3.2.2.2,H.ns,H.nl,H.nm,H.nu⟩
 have dJ:(W2.alloc (vG b0 s.length d0 b1 l.length d1 g ph b2 m.length d2 b3 us.length d3 f 200)).heap.size=W2.heap.size+1:=by simp
 clear F3 zZ zT k1 yN SZ h3 y0 y1 y2 y3 y4 y5 y6
 go_wp2_with fail
 generalize W2.alloc (vG b0 s.length d0 b1 l.length d1 g ph b2 m.length d2 b3 us.length d3 f 200)=W3 at *
 refine(LP W2.heap.size q b0 d0 s b1 d1 l g ph b2 d2 m b3 d3 us f c W3 (hg.below xL) (tY.1 HC.out).2.1 k3 ((zA5 xL hq)) R3).mono ?_
 rintro e W4 ⟨xR,mn,xK⟩
 have vB:=(mn (w.heap.size+1) (zG eY) (by have:=XE.out;omega)).trans eY
 have xZ:=xL.trans (xR.mono zj.size)
 rcases xK with⟨rfl,rfl,k4⟩|⟨rfl,yM,rfl⟩|⟨rfl,hz,h9,rfl⟩|⟨rfl,hz,h9,rfl,b4,d4,b5,d5,k4,⟨rs4,e4,O4⟩,G4,ow4⟩
 case inl=>
  have F4:=F2.kept (Nat.le_trans uM.size xR.size) (fun k h1 h2=>(mn k (by have:=uM.size;omega) (by omega)).trans (uM.block k h2))
  clear F2 uM k3 mn xR R3 eY xL hq
  obtain⟨x0,x1,x2,x3,x4,x5,x6⟩:=zI k4
  obtain⟨o0,o1,o2,o3,o4,o5,o6⟩:=zI vB
  have pi:=zF (o:=0) vB
  have nG:=zF (o:=1) vB
  have pX:=zF (o:=2) vB
  have pc:=zF (o:=3) vB
  have pg:=zF (o:=4) vB
  have pp:=zF (o:=5) vB
  have nF:=zF (o:=6) vB
  obtain⟨s1,s2,s3⟩:=yQ W4 (w.heap.size+1) 36 (.slice b0 s.length d0) (.slice b1 l.length d1) (.int .i64 g) (.int .i64 0) (.slice none 0 0) (.slice none 0 0) (.bool false) vB
  obtain⟨i0,i1,i2,i3,i4,i5,i6⟩:=zI s1
  have nO: ∀k,W1.heap.size≤k→(((((((W4.setCell ⟨w.heap.size+1,0,none⟩ (.slice b0 s.length d0)).setCell ⟨w.heap.size+1,1,none⟩ (.slice b1 l.length d1)).setCell ⟨w.heap.size+1,2,none⟩ (.int .i64 g)).setCell ⟨w.heap.size+1,3,none⟩ (.int .i64 0)).setCell ⟨w.heap.size+1,4,none⟩ (.slice none 0 0)).setCell ⟨w.heap.size+1,5,none⟩ (.slice none 0 0)).setCell ⟨w.heap.size+1,6,none⟩ (.bool false)).heap[k]? =W4.heap[k]?:=fun k hk=>s3 k (by have:=XE.out;omega)
  have F5:=F4.keep s2.size nO
  have h5:=F5.holds
  have HF:Hid (yA (uH s l g ph m us f false) (ti s m false) (tW l us false) (td g false) 0 [] [] false w (.returned (.tuple #[RV b0 d0 s b1 d1 l g 0 none 0 [] none 0 [] false,.int .i64 0])) (((((((W4.setCell ⟨w.heap.size+1,0,none⟩ (.slice b0 s.length d0)).setCell ⟨w.heap.size+1,1,none⟩ (.slice b1 l.length d1)).setCell ⟨w.heap.size+1,2,none⟩ (.int .i64 g)).setCell ⟨w.heap.size+1,3,none⟩ (.int .i64 0)).setCell ⟨w.heap.size+1,4,none⟩ (.slice none 0 0)).setCell ⟨w.heap.size+1,5,none⟩ (.slice none 0 0)).setCell ⟨w.heap.size+1,6,none⟩ (.bool false))):=
   ⟨xZ.trans (s2.mono (by omega)),.inr ⟨by unfold uH;rw[if_neg (fun e=>e (tF.2 ⟨HC.out,ZP.out⟩))];rfl,b0,d0,b1,d1,none,0,none,0,rfl,⟨h5.1,h5.2.1,fun i hi=>by simp at hi,fun i hi=>by simp at hi,H.ns,H.nl,by simp,by simp⟩,(vM.mk F5.objs F5.refs (vN.nil _ _)).from (by have:=XE.out;omega)⟩⟩
  clear F5 h5 F4 nO s1 s2 s3 vB k4 xZ H dJ ce
  go_wp2
  refine bodyPost_ret (v:=.tuple #[rF b0 s.length d0 b1 l.length d1 g 0 none 0 0 none 0 0 false,.int .i64 0]) (by simp[results,Tryz.results159,go_sem,i0,i1,i2,i3,i4,i5,i6]) rfl ?_
  exact HF.out
 case inr.inl=>
  have z2:(xX s l m us f != 0)=true:=by simpa using yM
  have xQ:=y9 W4 (w.heap.size+1) 36 (.slice none 0 0) (.slice none 0 0) (.int .i64 0) (.int .i64 0) (.slice none 0 0) (.slice none 0 0) (.bool false) vB
  obtain⟨o0,o1,o2,o3,o4,o5,o6⟩:=zI vB
  have pi:=zF (o:=0) vB
  have nG:=zF (o:=1) vB
  have pX:=zF (o:=2) vB
  have pc:=zF (o:=3) vB
  have pg:=zF (o:=4) vB
  have pp:=zF (o:=5) vB
  have nF:=zF (o:=6) vB
  obtain⟨i0,i1,i2,i3,i4,i5,i6⟩:=zI ((zA5 xQ vB))
  have HF:Hid (yA (uH s l g ph m us f true) (ti s m true) (tW l us true) (td g true) 0 [] [] false w (.returned (.tuple #[yx,.int .i64 (xX s l m us f)])) (((((((W4.setCell ⟨w.heap.size+1,0,none⟩ (.slice none 0 0)).setCell ⟨w.heap.size+1,1,none⟩ (.slice none 0 0)).setCell ⟨w.heap.size+1,2,none⟩ (.int .i64 0)).setCell ⟨w.heap.size+1,3,none⟩ (.int .i64 0)).setCell ⟨w.heap.size+1,4,none⟩ (.slice none 0 0)).setCell ⟨w.heap.size+1,5,none⟩ (.slice none 0 0)).setCell ⟨w.heap.size+1,6,none⟩ (.bool false))):=yA.bad (by unfold uH;rw[if_neg (fun e=>e (tF.2 ⟨HC.out,ZP.out⟩))];rw[if_neg (by decide),if_pos yM]) (yM) ((bt xZ xQ))
  clear xQ xZ vB yM F2 uM k3 mn xR R3 eY xL hq H dJ ce
  go_wp2
  refine bodyPost_ret (v:=.tuple #[yx,.int .i64 (xX s l m us f)]) (by simp[results,Tryz.results159,go_sem,i0,i1,i2,i3,i4,i5,i6]) rfl ?_
  exact HF.out
 case inr.inr.inl=>
  have xQ:=y9 W4 (w.heap.size+1) 36 (.slice none 0 0) (.slice none 0 0) (.int .i64 0) (.int .i64 0) (.slice none 0 0) (.slice none 0 0) (.bool false) vB
  obtain⟨o0,o1,o2,o3,o4,o5,o6⟩:=zI vB
  have pi:=zF (o:=0) vB
  have nG:=zF (o:=1) vB
  have pX:=zF (o:=2) vB
  have pc:=zF (o:=3) vB
  have pg:=zF (o:=4) vB
  have pp:=zF (o:=5) vB
  have nF:=zF (o:=6) vB
  obtain⟨i0,i1,i2,i3,i4,i5,i6⟩:=zI ((zA5 xQ vB))
  have HF:Hid (yA (uH s l g ph m us f true) (ti s m true) (tW l us true) (td g true) 0 [] [] false w (.returned (.tuple #[yx,.int .i64 (2)])) (((((((W4.setCell ⟨w.heap.size+1,0,none⟩ (.slice none 0 0)).setCell ⟨w.heap.size+1,1,none⟩ (.slice none 0 0)).setCell ⟨w.heap.size+1,2,none⟩ (.int .i64 0)).setCell ⟨w.heap.size+1,3,none⟩ (.int .i64 0)).setCell ⟨w.heap.size+1,4,none⟩ (.slice none 0 0)).setCell ⟨w.heap.size+1,5,none⟩ (.slice none 0 0)).setCell ⟨w.heap.size+1,6,none⟩ (.bool false))):=yA.bad (by unfold uH;rw[if_neg (fun e=>e (tF.2 ⟨HC.out,ZP.out⟩))];rw[if_neg (by decide),if_neg (fun e=>e hz),if_pos h9]) (by decide) ((bt xZ xQ))
  clear xQ xZ vB hz h9 F2 uM k3 mn xR R3 eY xL hq H dJ ce
  go_wp2
  refine bodyPost_ret (v:=.tuple #[yx,.int .i64 (2)]) (by simp[results,Tryz.results159,go_sem,i0,i1,i2,i3,i4,i5,i6]) rfl ?_
  exact HF.out
 case inr.inr.inr=>
  have JP:=YC vB
  have O4':=O4.from (z':=W1.heap.size) (by omega)
  have ow5:=vX (z':=W1.heap.size) ow4 (by omega)
  have zHU:(zH s m).length≤9223372036854775807:=by have:=(yF (pH (e9.1 hz).2.1).2.2.2.2).1;omega
  have hL8:(yK l us).length≤9223372036854775807:=by have:=(xc.1 (ru.1 (e9.1 hz).2.2).2.2.2).2.1;omega
  clear F2 uM k3 mn xR R3 eY xL hq H dJ ce O4
  obtain⟨x0,x1,x2,x3,x4,x5,x6⟩:=zI k4
  obtain⟨o0,o1,o2,o3,o4,o5,o6⟩:=zI vB
  have pi:=zF (o:=0) vB
  have nG:=zF (o:=1) vB
  have pX:=zF (o:=2) vB
  have pc:=zF (o:=3) vB
  have pg:=zF (o:=4) vB
  have pp:=zF (o:=5) vB
  have nF:=zF (o:=6) vB
  obtain⟨s1,s2,s3⟩:=yQ W4 (w.heap.size+1) 36 (.slice b4 (zH s m).length d4) (.slice b5 (yK l us).length d5) (.int .i64 (g+1)) (.int .i64 0) (.slice none 0 0) (.slice none 0 0) (.bool false) vB
  obtain⟨i0,i1,i2,i3,i4,i5,i6⟩:=zI s1
  have nO: ∀k,W1.heap.size≤k→(((((((W4.setCell ⟨w.heap.size+1,0,none⟩ (.slice b4 (zH s m).length d4)).setCell ⟨w.heap.size+1,1,none⟩ (.slice b5 (yK l us).length d5)).setCell ⟨w.heap.size+1,2,none⟩ (.int .i64 (g+1))).setCell ⟨w.heap.size+1,3,none⟩ (.int .i64 0)).setCell ⟨w.heap.size+1,4,none⟩ (.slice none 0 0)).setCell ⟨w.heap.size+1,5,none⟩ (.slice none 0 0)).setCell ⟨w.heap.size+1,6,none⟩ (.bool false)).heap[k]? =W4.heap[k]?:=fun k hk=>s3 k (by have:=XE.out;omega)
  have Y8:=(O4'.keep s2.size nO).list e4
  have LS:=G4.no JP s2.size s3
  have HF:Hid (yA (uH s l g ph m us f true) (ti s m true) (tW l us true) (td g true) 0 [] [] false w (.returned (.tuple #[RV b4 d4 (zH s m) b5 d5 (yK l us) (g+1) 0 none 0 [] none 0 [] false,.int .i64 0])) (((((((W4.setCell ⟨w.heap.size+1,0,none⟩ (.slice b4 (zH s m).length d4)).setCell ⟨w.heap.size+1,1,none⟩ (.slice b5 (yK l us).length d5)).setCell ⟨w.heap.size+1,2,none⟩ (.int .i64 (g+1))).setCell ⟨w.heap.size+1,3,none⟩ (.int .i64 0)).setCell ⟨w.heap.size+1,4,none⟩ (.slice none 0 0)).setCell ⟨w.heap.size+1,5,none⟩ (.slice none 0 0)).setCell ⟨w.heap.size+1,6,none⟩ (.bool false))):=
   ⟨xZ.trans (s2.mono (by omega)),.inr ⟨by unfold uH;rw[if_neg (fun e=>e (tF.2 ⟨HC.out,ZP.out⟩))];rw[if_neg (by decide),if_neg (fun e=>e hz),if_neg h9],b4,d4,b5,d5,none,0,none,0,rfl,⟨Y8,LS,fun i hi=>by simp at hi,fun i hi=>by simp at hi,zHU,hL8,by simp,by simp⟩,(vM.mk ⟨rs4,e4,O4'.keep s2.size nO⟩ (vS ow5 nO) (vN.nil _ _)).from (by have:=XE.out;omega)⟩⟩
  clear Y8 LS JP O4' ow4 ow5 G4 nO s1 s2 s3 vB k4 xZ hz h9 e4
  go_wp2
  refine bodyPost_ret (v:=.tuple #[rF b4 (zH s m).length d4 b5 (yK l us).length d5 (g+1) 0 none 0 0 none 0 0 false,.int .i64 0]) (by simp[results,Tryz.results159,go_sem,i0,i1,i2,i3,i4,i5,i6]) rfl ?_
  exact HF.out
def gr(q:Nat)(x T:ByteArray)(E:Int)(s:List Ob)(l:List Rf)(g ph:Int)(m:List Ob)(us:List Up)(f:Bool)(w:World)(e:Ending)(w':World):Prop:=
 w.heap.size≤w'.heap.size∧w'.os=w.os∧w'.tape=w.tape∧w'.output=w.output∧(∀k,k<w.heap.size→k≠q→w'.heap[k]? =w.heap[k]?)∧((E≠0∧e= .returned (.tuple #[yx,.int .i64 E])∧w'.heap[q]? =some (.cells #[.string x] 9))∨
  (E=0∧w'.heap[q]? =some (.cells #[.string T] 9)∧∃b0 d0 b1 d1 b2 d2 b3 d3,e= .returned (.tuple #[RV b0 d0 s b1 d1 l g ph b2 d2 m b3 d3 us f,.int .i64 0])∧n7 w' w.heap.size b0 d0 s b1 d1 l b2 d2 m b3 d3 us))
theorem gr.bad{q:Nat}{x T:ByteArray}{E r:Int}{s:List Ob}{l:List Rf}{g ph:Int}{m:List Ob}{us:List Up}{f:Bool}{w w':World}(hq:w.heap[q]? =some (.cells #[.string x] 9))(he:E=r)(h0:r≠0)(hb:Below w.heap.size w w'):gr q x T E s l g ph m us f w (.returned (.tuple #[yx,.int .i64 r])) w':=
 ⟨hb.size,hb.os,hb.tape,hb.output,fun k hk _=>hb.block k hk,.inl ⟨by rw[he];exact h0,by rw[he],(hb.block q (zG hq)).trans hq⟩⟩
theorem Xt(aS:Option Addr)(cs:Nat)(s:List Ob)(al:Option Addr)(cl:Nat)(l:List Rf)(g ph:Int)(a1:Option Addr)(c1:Nat)(m:List Ob)(a2:Option Addr)(c2:Nat)(us:List Up)(f:Bool)(q:Nat)(x:ByteArray)(w:World)(hg:xr w)(H:sJ w aS s al l a1 m a2 us)(ht:bP w)(hq:w.heap[q]? =some (.cells #[.string x] 9)):
  Calls Tryz.prog 159 #[RV aS cs s al cl l g ph a1 c1 m a2 c2 us f,.int .i64 1,.func (.func 161) #[] #[.pointer (some ⟨q,0,none⟩)]] w (gr q x (yY s l g m us f) (bQ s l g ph m us f 1) s l g 2 m us f w):=by
 have hB:=zV w (RB aS cs s al cl l g ph a1 c1 m a2 c2 us f) zo
 obtain⟨xa,xy⟩:=ye w (RB aS cs s al cl l g ph a1 c1 m a2 c2 us f) zo
 obtain⟨y0,y1,y2,y3,y4,y5,y6⟩:=zI xa
 have nL:=vv aS cs s al cl l g ph a1 c1 m a2 c2 us f _ (hg.below hB) (H.below hB)
 have Hz:Hid (w.heap.size+2≤((w.alloc (RB aS cs s al cl l g ph a1 c1 m a2 c2 us f)).alloc zo).heap.size):=by unfold Hid;simp
 have HE:Hid (∀r,bQ s l g ph m us f 1=r↔bQ s l g ph m us f 1=r):=fun _=>Iff.rfl
 go_enter Tryz.func159,Tryz.ntmps159
 go_wp2_with fail
 generalize (w.alloc (RB aS cs s al cl l g ph a1 c1 m a2 c2 us f)).alloc zo=W0 at *
 refine nL.mono ?_
 clear nL
 rintro e W1 ⟨rfl,zM⟩
 have zT:=bt hB zM
 have k1:=zA5 zM xa
 have yN:=zA5 zM xy
 have XE:Hid (w.heap.size+2≤W1.heap.size):=Nat.le_trans Hz.out zM.size
 clear zM hB xa xy y0 y1 y2 y3 y4 y5 y6
 by_cases c1:xA s l g ph m us f=0
 case neg=>
  have xQ:=y9 W1 (w.heap.size+1) 36 (.slice none 0 0) (.slice none 0 0) (.int .i64 0) (.int .i64 0) (.slice none 0 0) (.slice none 0 0) (.bool false) yN
  obtain⟨o0,o1,o2,o3,o4,o5,o6⟩:=zI yN
  have pi:=zF (o:=0) yN
  have nG:=zF (o:=1) yN
  have pX:=zF (o:=2) yN
  have pc:=zF (o:=3) yN
  have pg:=zF (o:=4) yN
  have pp:=zF (o:=5) yN
  have nF:=zF (o:=6) yN
  obtain⟨i0,i1,i2,i3,i4,i5,i6⟩:=zI ((zA5 xQ yN))
  have HF:Hid (gr q x (yY s l g m us f) (bQ s l g ph m us f 1) s l g 2 m us f w (.returned (.tuple #[yx,.int .i64 (xA s l g ph m us f)])) (((((((W1.setCell ⟨w.heap.size+1,0,none⟩ (.slice none 0 0)).setCell ⟨w.heap.size+1,1,none⟩ (.slice none 0 0)).setCell ⟨w.heap.size+1,2,none⟩ (.int .i64 0)).setCell ⟨w.heap.size+1,3,none⟩ (.int .i64 0)).setCell ⟨w.heap.size+1,4,none⟩ (.slice none 0 0)).setCell ⟨w.heap.size+1,5,none⟩ (.slice none 0 0)).setCell ⟨w.heap.size+1,6,none⟩ (.bool false))):=gr.bad hq (by exact Z1 c1) c1 ((bt zT xQ))
  have z1:(xA s l g ph m us f != 0)=true:=by simpa using c1
  clear c1 k1 yN zT xQ
  go_wp2
  refine bodyPost_ret (v:=.tuple #[yx,.int .i64 (xA s l g ph m us f)]) (by simp[results,Tryz.results159,go_sem,i0,i1,i2,i3,i4,i5,i6]) rfl ?_
  exact HF.out
 have HC:Hid (xA s l g ph m us f=0):=c1
 rw[c1]
 clear c1
 obtain⟨y0,y1,y2,y3,y4,y5,y6⟩:=zI k1
 by_cases zph:ph=1
 case neg=>
  have xQ:=y9 W1 (w.heap.size+1) 36 (.slice none 0 0) (.slice none 0 0) (.int .i64 0) (.int .i64 0) (.slice none 0 0) (.slice none 0 0) (.bool false) yN
  obtain⟨o0,o1,o2,o3,o4,o5,o6⟩:=zI yN
  have pi:=zF (o:=0) yN
  have nG:=zF (o:=1) yN
  have pX:=zF (o:=2) yN
  have pc:=zF (o:=3) yN
  have pg:=zF (o:=4) yN
  have pp:=zF (o:=5) yN
  have nF:=zF (o:=6) yN
  obtain⟨i0,i1,i2,i3,i4,i5,i6⟩:=zI ((zA5 xQ yN))
  have HF:Hid (gr q x (yY s l g m us f) (bQ s l g ph m us f 1) s l g 2 m us f w (.returned (.tuple #[yx,.int .i64 4])) (((((((W1.setCell ⟨w.heap.size+1,0,none⟩ (.slice none 0 0)).setCell ⟨w.heap.size+1,1,none⟩ (.slice none 0 0)).setCell ⟨w.heap.size+1,2,none⟩ (.int .i64 0)).setCell ⟨w.heap.size+1,3,none⟩ (.int .i64 0)).setCell ⟨w.heap.size+1,4,none⟩ (.slice none 0 0)).setCell ⟨w.heap.size+1,5,none⟩ (.slice none 0 0)).setCell ⟨w.heap.size+1,6,none⟩ (.bool false))):=gr.bad hq (by exact Yh HC.out zph) (by decide) ((bt zT xQ))
  have z1:(ph != 1)=true:=by simpa using zph
  clear zph k1 yN zT xQ
  go_wp2
  refine bodyPost_ret (v:=.tuple #[yx,.int .i64 4]) (by simp[results,Tryz.results159,go_sem,i0,i1,i2,i3,i4,i5,i6]) rfl ?_
  exact HF.out
 have ZP:Hid (ph=1):=zph
 have z1:(ph != 1)=false:=by simpa using zph
 clear zph
 obtain⟨n1,n2,n3,n4,n5,n6⟩:=rc HC.out
 have U1:=tO aS cs s al cl l g ph a1 c1 m a2 c2 us f W1 (H.hs.below zT) (by omega) n2 (H.hl.below zT) (by omega) (H.hm.below zT) (by omega) n5 (H.hu.below zT) (by omega)
 go_wp2_with fail
 refine U1.mono ?_
 clear U1
 rintro e W2 ⟨b0,d0,b1,d1,b2,d2,b3,d3,rfl,F2,zZ⟩
 have zj:=bt zT zZ
 have SZ:=zA5 zZ yN
 have uM:=zB W2 (vG b0 s.length d0 b1 l.length d1 g ph b2 m.length d2 b3 us.length d3 f 200)
 have k3:=heap_alloc_new W2 (vG b0 s.length d0 b1 l.length d1 g ph b2 m.length d2 b3 us.length d3 f 200)
 have ce:=zZ.size
 have F3:=F2.below uM
 have xL:=bt zj uM
 have eY:=zA5 uM SZ
 have h3:=F3.holds
 have R3:sJ (W2.alloc (vG b0 s.length d0 b1 l.length d1 g ph b2 m.length d2 b3 us.length d3 f 200)) b0 s b1 l b2 m b3 us:=⟨h3.1,h3.2.1,h3.2.2.1,h3.2.2.2,H.ns,H.nl,H.nm,H.nu⟩
 have dJ:(W2.alloc (vG b0 s.length d0 b1 l.length d1 g ph b2 m.length d2 b3 us.length d3 f 200)).heap.size=W2.heap.size+1:=by simp
 clear F3 zZ zT k1 yN SZ h3 y0 y1 y2 y3 y4 y5 y6
 go_wp2_with fail
 generalize W2.alloc (vG b0 s.length d0 b1 l.length d1 g ph b2 m.length d2 b3 us.length d3 f 200)=W3 at *
 have Bd:=zG hq
 have hV0:t7 g m us=0:=by
  have h:=tY.1 HC.out
  exact Zf.2 ⟨h.2.2.2.1 (by rw[ZP.out];decide),h.2.1⟩
 refine(RT W2.heap.size q b0 d0 s b1 d1 l g ph b2 d2 m b3 d3 us f x W3 (hg.below xL) (ht.below xL) k3 ((xL.block _ Bd).trans hq) (by have:=zj.size;omega) R3).mono ?_
 rw[hV0]
 rintro e W4 ⟨rfl,k4,Hf,Rg,zA3,Aj,zB8,mn⟩
 have vB:=(mn (w.heap.size+1) (zG eY) (by have:=XE.out;omega) (by omega)).trans eY
 have F4:=F2.kept (Nat.le_trans uM.size Rg) (fun k h1 h2=>(mn k (by have:=uM.size;omega) (by omega) (by have:=XE.out;omega)).trans (uM.block k h2))
 have HO:Hid (∀k,k<w.heap.size→k≠q→W4.heap[k]? =w.heap[k]?):=fun k hk CH=>(mn k (by have:=xL.size;omega) (by have:=zj.size;omega) CH).trans (xL.block k hk)
 have HW:Hid (w.heap.size≤W4.heap.size∧W4.os=w.os∧W4.tape=w.tape∧W4.output=w.output):=⟨Nat.le_trans xL.size Rg,zA3.trans xL.os,Aj.trans xL.tape,zB8.trans xL.output⟩
 clear F2 uM k3 mn R3 eY xL Rg zA3 Aj zB8 hV0
 obtain⟨x0,x1,x2,x3,x4,x5,x6⟩:=zI k4
 obtain⟨o0,o1,o2,o3,o4,o5,o6⟩:=zI vB
 have pi:=zF (o:=0) vB
 have nG:=zF (o:=1) vB
 have pX:=zF (o:=2) vB
 have pc:=zF (o:=3) vB
 have pg:=zF (o:=4) vB
 have pp:=zF (o:=5) vB
 have nF:=zF (o:=6) vB
 obtain⟨s1,s2,s3⟩:=yQ W4 (w.heap.size+1) 36 (.slice b0 s.length d0) (.slice b1 l.length d1) (.int .i64 g) (.int .i64 2) (.slice b2 m.length d2) (.slice b3 us.length d3) (.bool f) vB
 obtain⟨i0,i1,i2,i3,i4,i5,i6⟩:=zI s1
 have nO: ∀k,W1.heap.size≤k→(((((((W4.setCell ⟨w.heap.size+1,0,none⟩ (.slice b0 s.length d0)).setCell ⟨w.heap.size+1,1,none⟩ (.slice b1 l.length d1)).setCell ⟨w.heap.size+1,2,none⟩ (.int .i64 g)).setCell ⟨w.heap.size+1,3,none⟩ (.int .i64 2)).setCell ⟨w.heap.size+1,4,none⟩ (.slice b2 m.length d2)).setCell ⟨w.heap.size+1,5,none⟩ (.slice b3 us.length d3)).setCell ⟨w.heap.size+1,6,none⟩ (.bool f)).heap[k]? =W4.heap[k]?:=fun k hk=>s3 k (by have:=XE.out;omega)
 have F5:=F4.keep s2.size nO
 have h5:=F5.holds
 have HF:Hid (gr q x (yY s l g m us f) (bQ s l g ph m us f 1) s l g 2 m us f w (.returned (.tuple #[RV b0 d0 s b1 d1 l g 2 b2 d2 m b3 d3 us f,.int .i64 0])) (((((((W4.setCell ⟨w.heap.size+1,0,none⟩ (.slice b0 s.length d0)).setCell ⟨w.heap.size+1,1,none⟩ (.slice b1 l.length d1)).setCell ⟨w.heap.size+1,2,none⟩ (.int .i64 g)).setCell ⟨w.heap.size+1,3,none⟩ (.int .i64 2)).setCell ⟨w.heap.size+1,4,none⟩ (.slice b2 m.length d2)).setCell ⟨w.heap.size+1,5,none⟩ (.slice b3 us.length d3)).setCell ⟨w.heap.size+1,6,none⟩ (.bool f))):=
  ⟨Nat.le_trans HW.out.1 s2.size,s2.os.trans HW.out.2.1,s2.tape.trans HW.out.2.2.1,s2.output.trans HW.out.2.2.2,fun k hk CH=>(s3 k (by omega)).trans (HO.out k hk CH),.inr ⟨tF.2 ⟨HC.out,ZP.out⟩,(s3 q (by omega)).trans Hf,b0,d0,b1,d1,b2,d2,b3,d3,rfl,⟨h5.1,h5.2.1,h5.2.2.1,h5.2.2.2,H.ns,H.nl,H.nm,H.nu⟩,F5.from (by have:=XE.out;omega)⟩⟩
 clear F5 h5 F4 nO s1 s2 s3 vB k4 Hf H dJ ce Bd hq
 go_wp2
 refine bodyPost_ret (v:=.tuple #[rF b0 s.length d0 b1 l.length d1 g 2 b2 m.length d2 b3 us.length d3 f,.int .i64 0]) (by simp[results,Tryz.results159,go_sem,i0,i1,i2,i3,i4,i5,i6]) rfl ?_
 exact HF.out
def WU(l:List Ob):Prop:=∀x∈l,∀i∈x.links,i≠0
theorem yD.no{R:Nat}{W W':World}{a:Option Addr}{L:List Int}(h:yD W a L)(hz:Ft W R)(hp: ∀i∈L,i≠0)(hs:W.heap.size≤W'.heap.size)(hk: ∀k,k≠R→W'.heap[k]? =W.heap[k]?):yD W' a L:=by
 intro i hi
 obtain⟨b,off,e,zN,hc⟩:=h i hi
 have hb:b≠R:=fun q=>by
  subst q
  have h0:=hz _ _ (hc i hi)
  rw[List.getD_eq_getElem?_getD,List.getElem?_eq_getElem hi]at h0
  exact hp _ (List.getElem_mem hi) h0
 exact⟨b,off,e,Nat.lt_of_lt_of_le zN hs,fun j hj=>(World.cell?_of_block (a:=⟨b,off+j,none⟩) (hk b hb)).trans (hc j hj)⟩
theorem zP.no{R:Nat}{W W':World}{a:Option Addr}{l:List Ob}(h:zP W a l)(hn:NoS W R)(hz:Ft W R)(hp:WU l)(hs:W.heap.size≤W'.heap.size)(hk: ∀k,k≠R→W'.heap[k]? =W.heap[k]?):zP W' a l:=by
 intro i hi
 obtain⟨b,off,e,zN,hc⟩:=h i hi
 have hb:b≠R:=fun q=>by
  subst q
  obtain⟨sa,sc,_,_,_,h3,_⟩:=hc i hi
  exact hn _ _ h3
 refine⟨b,off,e,Nat.lt_of_lt_of_le zN hs,fun j hj=>?_⟩
 obtain⟨sa,sc,h0,h1,h2,h3,h4,h5⟩:=hc j hj
 exact⟨sa,sc,(World.cell?_of_block (a:=⟨b,off+j*4,none⟩) (hk b hb)).trans h0,(World.cell?_of_block (a:=⟨b,off+j*4+1,none⟩) (hk b hb)).trans h1,(World.cell?_of_block (a:=⟨b,off+j*4+2,none⟩) (hk b hb)).trans h2,(World.cell?_of_block (a:=⟨b,off+j*4+3,none⟩) (hk b hb)).trans h3,h4.no hz (hp _ (List.getElem_mem hj)) hs hk,h5⟩
theorem zx.no{R:Nat}{W W':World}{a:Option Addr}{l:List Up}(h:zx W a l)(hn:NoS W R)(hs:W.heap.size≤W'.heap.size)(hk: ∀k,k≠R→W'.heap[k]? =W.heap[k]?):zx W' a l:=by
 intro i hi
 obtain⟨b,off,e,zN,hc⟩:=h i hi
 have hb:b≠R:=fun q=>by subst q;exact hn _ _ (hc i hi).1
 exact⟨b,off,e,Nat.lt_of_lt_of_le zN hs,fun j hj=>⟨(World.cell?_of_block (a:=⟨b,off+j*3,none⟩) (hk b hb)).trans (hc j hj).1,(World.cell?_of_block (a:=⟨b,off+j*3+1,none⟩) (hk b hb)).trans (hc j hj).2.1,(World.cell?_of_block (a:=⟨b,off+j*3+2,none⟩) (hk b hb)).trans (hc j hj).2.2⟩⟩
theorem KZ{x:Ob}(h:x.err=0): ∀i∈x.links,i≠0:=fun i hi=>by
 have h5:=(xg h).2.2.2.2.1
 have:=rm x.links 0 0 h5 i hi
 omega
theorem QY{s:List Ob}(h:zK s=0):WU s:=fun x hx=>KZ (vE h x hx)
theorem xN(w:World)(A B C:Obj):(((w.alloc A).alloc B).alloc C).heap[w.heap.size]? =some A∧(((w.alloc A).alloc B).alloc C).heap[w.heap.size+1]? =some B∧(((w.alloc A).alloc B).alloc C).heap[w.heap.size+2]? =some C∧Below w.heap.size w (((w.alloc A).alloc B).alloc C):=by
 obtain⟨h1,h2⟩:=ye w A B
 have hA:=zB ((w.alloc A).alloc B) C
 have h3:=heap_alloc_new ((w.alloc A).alloc B) C
 rw[show((w.alloc A).alloc B).heap.size=w.heap.size+2 by simp]at h3
 have hB:=zV w A B
 exact⟨(zA5 hA h1),(zA5 hA h2),h3,(bt hB hA)⟩
theorem VX(aS:Option Addr)(cs:Nat)(s:List Ob)(al:Option Addr)(cl:Nat)(l:List Rf)(g ph:Int)(a1:Option Addr)(c1:Nat)(m:List Ob)(a2:Option Addr)(c2:Nat)(us:List Up)(f:Bool)(am:Option Addr)(cm:Nat)(m2:List Ob)(au:Option Addr)(cu:Nat)(us2:List Up)(f2:Bool)(w:World)(hg:xr w)(H:sJ w aS s al l a1 m a2 us)(Ga:zP w am m2)(hml2:m2.length≤9223372036854775807)(Tk:zx w au us2)(hul2:us2.length≤9223372036854775807):
  Calls Tryz.prog 96 #[RV aS cs s al cl l g ph a1 c1 m a2 c2 us f,uw am m2.length cm au us2.length cu f2] w (yA (tz s l g ph m us f m2 us2) s l g 1 m2 us2 f2 w):=by
 obtain⟨xa,xy,tv,hB⟩:=xN w (RB aS cs s al cl l g ph a1 c1 m a2 c2 us f) (.cells #[.slice am m2.length cm,.slice au us2.length cu,.bool f2] 28) zo
 obtain⟨y0,y1,y2,y3,y4,y5,y6⟩:=zI xa
 have Ps:=VJ aS cs s al cl l g ph a1 c1 m a2 c2 us f (w.heap.size+1) am cm m2 au cu us2 f2 _ (hg.below hB) (H.below hB) xy (Ga.below hB) hml2 (Tk.below hB) hul2
 go_enter Tryz.func96,Tryz.ntmps96
 go_wp2_with fail
 generalize (((w.alloc (RB aS cs s al cl l g ph a1 c1 m a2 c2 us f)).alloc (.cells #[.slice am m2.length cm,.slice au us2.length cu,.bool f2] 28)).alloc zo)=W0 at *
 refine Ps.mono ?_
 clear Ps
 rintro e W1 ⟨zM,xK⟩
 have yN:=zA5 zM tv
 have zT:=bt hB zM
 have bn:Hid (w.heap.size+2<W0.heap.size):=zG tv
 clear y0 y1 y2 y3 y4 y5 y6 xa xy tv hB zM
 rcases xK with⟨yM,rfl⟩|⟨hz,b0,d0,b1,d1,b2,d2,b3,d3,rfl,H1⟩
 ·have xQ:=y9 W1 (w.heap.size+2) 36 (.slice none 0 0) (.slice none 0 0) (.int .i64 0) (.int .i64 0) (.slice none 0 0) (.slice none 0 0) (.bool false) yN
  obtain⟨o0,o1,o2,o3,o4,o5,o6⟩:=zI yN
  have pi:=zF (o:=0) yN
  have nG:=zF (o:=1) yN
  have pX:=zF (o:=2) yN
  have pc:=zF (o:=3) yN
  have pg:=zF (o:=4) yN
  have pp:=zF (o:=5) yN
  have nF:=zF (o:=6) yN
  obtain⟨i0,i1,i2,i3,i4,i5,i6⟩:=zI ((zA5 xQ yN))
  have HF:Hid (yA (tz s l g ph m us f m2 us2) s l g 1 m2 us2 f2 w (.returned (.tuple #[yx,.int .i64 (tz s l g ph m us f m2 us2)])) (((((((W1.setCell ⟨w.heap.size+2,0,none⟩ (.slice none 0 0)).setCell ⟨w.heap.size+2,1,none⟩ (.slice none 0 0)).setCell ⟨w.heap.size+2,2,none⟩ (.int .i64 0)).setCell ⟨w.heap.size+2,3,none⟩ (.int .i64 0)).setCell ⟨w.heap.size+2,4,none⟩ (.slice none 0 0)).setCell ⟨w.heap.size+2,5,none⟩ (.slice none 0 0)).setCell ⟨w.heap.size+2,6,none⟩ (.bool false))):=yA.bad rfl yM ((bt zT xQ))
  clear yM yN zT xQ H
  go_wp2
  refine bodyPost_ret (v:=.tuple #[yx,.int .i64 (tz s l g ph m us f m2 us2)]) (by simp[results,Tryz.results96,go_sem,i0,i1,i2,i3,i4,i5,i6]) rfl ?_
  exact HF.out
 ·obtain⟨o0,o1,o2,o3,o4,o5,o6⟩:=zI yN
  have pi:=zF (o:=0) yN
  have nG:=zF (o:=1) yN
  have pX:=zF (o:=2) yN
  have pc:=zF (o:=3) yN
  have pg:=zF (o:=4) yN
  have pp:=zF (o:=5) yN
  have nF:=zF (o:=6) yN
  obtain⟨s1,s2,s3⟩:=yQ W1 (w.heap.size+2) 36 (.slice b0 s.length d0) (.slice b1 l.length d1) (.int .i64 g) (.int .i64 1) (.slice b2 m2.length d2) (.slice b3 us2.length d3) (.bool f2) yN
  obtain⟨i0,i1,i2,i3,i4,i5,i6⟩:=zI s1
  have HF:Hid (yA (tz s l g ph m us f m2 us2) s l g 1 m2 us2 f2 w (.returned (.tuple #[RV b0 d0 s b1 d1 l g 1 b2 d2 m2 b3 d3 us2 f2,.int .i64 0])) (((((((W1.setCell ⟨w.heap.size+2,0,none⟩ (.slice b0 s.length d0)).setCell ⟨w.heap.size+2,1,none⟩ (.slice b1 l.length d1)).setCell ⟨w.heap.size+2,2,none⟩ (.int .i64 g)).setCell ⟨w.heap.size+2,3,none⟩ (.int .i64 1)).setCell ⟨w.heap.size+2,4,none⟩ (.slice b2 m2.length d2)).setCell ⟨w.heap.size+2,5,none⟩ (.slice b3 us2.length d3)).setCell ⟨w.heap.size+2,6,none⟩ (.bool f2))):=
   ⟨zT.trans (s2.mono (by omega)),.inr ⟨hz,b0,d0,b1,d1,b2,d2,b3,d3,rfl,(H1.keep s2.size (fun k hk=>s3 k (by have:=bn.out;omega))).from (by have:=bn.out;omega)⟩⟩
  clear s1 s2 s3 H1 hz zT yN H
  go_wp2
  refine bodyPost_ret (v:=.tuple #[rF b0 s.length d0 b1 l.length d1 g 1 b2 m2.length d2 b3 us2.length d3 f2,.int .i64 0]) (by simp[results,Tryz.results96,go_sem,i0,i1,i2,i3,i4,i5,i6]) rfl ?_
  exact HF.out
theorem kZ(aS:Option Addr)(cs:Nat)(s:List Ob)(al:Option Addr)(cl:Nat)(l:List Rf)(g ph:Int)(a1:Option Addr)(c1:Nat)(m:List Ob)(a2:Option Addr)(c2:Nat)(us:List Up)(f:Bool)(c:Bool)(w:World)(hg:xr w)(H:sJ w aS s al l a1 m a2 us):
  Calls Tryz.prog 100 #[RV aS cs s al cl l g ph a1 c1 m a2 c2 us f,.bool c] w (yA (uH s l g ph m us f c) (ti s m c) (tW l us c) (td g c) 0 [] [] false w):=by
 obtain⟨xa,xy,tv,hB⟩:=xN w (RB aS cs s al cl l g ph a1 c1 m a2 c2 us f) (.cells #[.bool c] 4) zo
 obtain⟨y0,y1,y2,y3,y4,y5,y6⟩:=zI xa
 have Ps:=To aS cs s al cl l g ph a1 c1 m a2 c2 us f (w.heap.size+1) c _ (hg.below hB) (H.below hB) xy
 go_enter Tryz.func100,Tryz.ntmps100
 go_wp2_with fail
 generalize (((w.alloc (RB aS cs s al cl l g ph a1 c1 m a2 c2 us f)).alloc (.cells #[.bool c] 4)).alloc zo)=W0 at *
 refine Ps.mono ?_
 clear Ps
 rintro e W1 ⟨zM,xK⟩
 have yN:=zA5 zM tv
 have zT:=bt hB zM
 have bn:Hid (w.heap.size+2<W0.heap.size):=zG tv
 clear y0 y1 y2 y3 y4 y5 y6 xa xy tv hB zM
 rcases xK with⟨yM,rfl⟩|⟨hz,b0,d0,b1,d1,b2,d2,b3,d3,rfl,H1⟩
 ·have xQ:=y9 W1 (w.heap.size+2) 36 (.slice none 0 0) (.slice none 0 0) (.int .i64 0) (.int .i64 0) (.slice none 0 0) (.slice none 0 0) (.bool false) yN
  obtain⟨o0,o1,o2,o3,o4,o5,o6⟩:=zI yN
  have pi:=zF (o:=0) yN
  have nG:=zF (o:=1) yN
  have pX:=zF (o:=2) yN
  have pc:=zF (o:=3) yN
  have pg:=zF (o:=4) yN
  have pp:=zF (o:=5) yN
  have nF:=zF (o:=6) yN
  obtain⟨i0,i1,i2,i3,i4,i5,i6⟩:=zI ((zA5 xQ yN))
  have HF:Hid (yA (uH s l g ph m us f c) (ti s m c) (tW l us c) (td g c) 0 [] [] false w (.returned (.tuple #[yx,.int .i64 (uH s l g ph m us f c)])) (((((((W1.setCell ⟨w.heap.size+2,0,none⟩ (.slice none 0 0)).setCell ⟨w.heap.size+2,1,none⟩ (.slice none 0 0)).setCell ⟨w.heap.size+2,2,none⟩ (.int .i64 0)).setCell ⟨w.heap.size+2,3,none⟩ (.int .i64 0)).setCell ⟨w.heap.size+2,4,none⟩ (.slice none 0 0)).setCell ⟨w.heap.size+2,5,none⟩ (.slice none 0 0)).setCell ⟨w.heap.size+2,6,none⟩ (.bool false))):=yA.bad rfl yM ((bt zT xQ))
  clear yM yN zT xQ H
  go_wp2
  refine bodyPost_ret (v:=.tuple #[yx,.int .i64 (uH s l g ph m us f c)]) (by simp[results,Tryz.results100,go_sem,i0,i1,i2,i3,i4,i5,i6]) rfl ?_
  exact HF.out
 ·obtain⟨o0,o1,o2,o3,o4,o5,o6⟩:=zI yN
  have pi:=zF (o:=0) yN
  have nG:=zF (o:=1) yN
  have pX:=zF (o:=2) yN
  have pc:=zF (o:=3) yN
  have pg:=zF (o:=4) yN
  have pp:=zF (o:=5) yN
  have nF:=zF (o:=6) yN
  obtain⟨s1,s2,s3⟩:=yQ W1 (w.heap.size+2) 36 (.slice b0 (ti s m c).length d0) (.slice b1 (tW l us c).length d1) (.int .i64 (td g c)) (.int .i64 0) (.slice b2 0 d2) (.slice b3 0 d3) (.bool false) yN
  obtain⟨i0,i1,i2,i3,i4,i5,i6⟩:=zI s1
  have HF:Hid (yA (uH s l g ph m us f c) (ti s m c) (tW l us c) (td g c) 0 [] [] false w (.returned (.tuple #[RV b0 d0 (ti s m c) b1 d1 (tW l us c) (td g c) 0 b2 d2 [] b3 d3 [] false,.int .i64 0])) (((((((W1.setCell ⟨w.heap.size+2,0,none⟩ (.slice b0 (ti s m c).length d0)).setCell ⟨w.heap.size+2,1,none⟩ (.slice b1 (tW l us c).length d1)).setCell ⟨w.heap.size+2,2,none⟩ (.int .i64 (td g c))).setCell ⟨w.heap.size+2,3,none⟩ (.int .i64 0)).setCell ⟨w.heap.size+2,4,none⟩ (.slice b2 0 d2)).setCell ⟨w.heap.size+2,5,none⟩ (.slice b3 0 d3)).setCell ⟨w.heap.size+2,6,none⟩ (.bool false))):=
   ⟨zT.trans (s2.mono (by omega)),.inr ⟨hz,b0,d0,b1,d1,b2,d2,b3,d3,rfl,(H1.keep s2.size (fun k hk=>s3 k (by have:=bn.out;omega))).from (by have:=bn.out;omega)⟩⟩
  clear s1 s2 s3 H1 hz zT yN H
  go_wp2
  refine bodyPost_ret (v:=.tuple #[rF b0 (ti s m c).length d0 b1 (tW l us c).length d1 (td g c) 0 b2 0 d2 b3 0 d3 false,.int .i64 0]) (by simp[results,Tryz.results100,go_sem,i0,i1,i2,i3,i4,i5,i6]) rfl ?_
  exact HF.out
def cf(E:Int)(T:ByteArray)(s:List Ob)(l:List Rf)(g ph:Int)(m:List Ob)(us:List Up)(f:Bool)(w:World)(e:Ending)(w':World):Prop:=
 Below w.heap.size w w'∧((E≠0∧e= .returned (.tuple #[yx,.string yJ,.int .i64 E]))∨
  (E=0∧∃b0 d0 b1 d1 b2 d2 b3 d3,e= .returned (.tuple #[RV b0 d0 s b1 d1 l g ph b2 d2 m b3 d3 us f,.string T,.int .i64 0])∧n7 w' w.heap.size b0 d0 s b1 d1 l b2 d2 m b3 d3 us))
theorem M1(aS:Option Addr)(cs:Nat)(s:List Ob)(al:Option Addr)(cl:Nat)(l:List Rf)(g ph:Int)(a1:Option Addr)(c1:Nat)(m:List Ob)(a2:Option Addr)(c2:Nat)(us:List Up)(f:Bool)(w:World)(hg:xr w)(ht:bP w)(H:sJ w aS s al l a1 m a2 us):
  Calls Tryz.prog 97 #[RV aS cs s al cl l g ph a1 c1 m a2 c2 us f] w (cf (bQ s l g ph m us f 1) (yY s l g m us f) s l g 2 m us f w):=by
 obtain⟨xa,xy,tv,hB⟩:=xN w (RB aS cs s al cl l g ph a1 c1 m a2 c2 us f) zo (.cells #[.string yJ] 9)
 obtain⟨y0,y1,y2,y3,y4,y5,y6⟩:=zI xa
 have Ps:=Xt aS cs s al cl l g ph a1 c1 m a2 c2 us f (w.heap.size+1+1) yJ _ (hg.below hB) (H.below hB) (ht.below hB) tv
 go_enter Tryz.func97,Tryz.ntmps97
 go_wp2_with fail
 generalize (((w.alloc (RB aS cs s al cl l g ph a1 c1 m a2 c2 us f)).alloc zo).alloc (.cells #[.string yJ] 9))=W0 at *
 refine Ps.mono ?_
 clear Ps
 rintro e W1 ⟨ZQ,Cv,Bk,BG,bO,xK⟩
 have yN:=(bO (w.heap.size+1) (zG xy) (by omega)).trans xy
 have zT:Below w.heap.size w W1:=⟨Cv.trans hB.os,Bk.trans hB.tape,BG.trans hB.output,Nat.le_trans hB.size ZQ,fun k hk=>(bO k (by have:=hB.size;omega) (by omega)).trans (hB.block k hk)⟩
 have bn:Hid (w.heap.size+2<W0.heap.size):=zG tv
 clear y0 y1 y2 y3 y4 y5 y6 xa xy tv hB ZQ Cv Bk BG bO
 rcases xK with⟨yM,rfl,kq1⟩|⟨hz,kq1,b0,d0,b1,d1,b2,d2,b3,d3,rfl,H1⟩
 ·skip
  have tu:=zB W1 (.cells #[.slice none 0 0,.slice none 0 0,.int .i64 0,.int .i64 0,.slice none 0 0,.slice none 0 0,.bool false] 36)
  have kb:=heap_alloc_new W1 (.cells #[.slice none 0 0,.slice none 0 0,.int .i64 0,.int .i64 0,.slice none 0 0,.slice none 0 0,.bool false] 36)
  have kz:=zA5 tu yN
  have kq:=zA5 tu kq1
  have hlz:=zG yN
  have hlq:=zG kq1
  have zj:=bt zT tu
  clear tu H
  go_upto_region 3 with fail
  have xF:=(Below.refl (W1.alloc (.cells #[.slice none 0 0,.slice none 0 0,.int .i64 0,.int .i64 0,.slice none 0 0,.slice none 0 0,.bool false] 36)).heap.size (W1.alloc (.cells #[.slice none 0 0,.slice none 0 0,.int .i64 0,.int .i64 0,.slice none 0 0,.slice none 0 0,.bool false] 36))).drew
  have FQ:(W1.alloc (.cells #[.slice none 0 0,.slice none 0 0,.int .i64 0,.int .i64 0,.slice none 0 0,.slice none 0 0,.bool false] 36)).drew.heap[W1.heap.size]? =_:=kb
  have YA:(W1.alloc (.cells #[.slice none 0 0,.slice none 0 0,.int .i64 0,.int .i64 0,.slice none 0 0,.slice none 0 0,.bool false] 36)).drew.heap[w.heap.size+1+1]? =_:=kq
  have eW:(W1.alloc (.cells #[.slice none 0 0,.slice none 0 0,.int .i64 0,.int .i64 0,.slice none 0 0,.slice none 0 0,.bool false] 36)).drew.heap[w.heap.size+1]? =_:=kz
  have c8:(W1.alloc (.cells #[.slice none 0 0,.slice none 0 0,.int .i64 0,.int .i64 0,.slice none 0 0,.slice none 0 0,.bool false] 36)).drew.cell? ⟨w.heap.size+1+1,0,none⟩=some (.string yJ):=by rw[cell_of_row _ _ _ _ _ _ YA];rfl
  have tw:(W1.alloc (.cells #[.slice none 0 0,.slice none 0 0,.int .i64 0,.int .i64 0,.slice none 0 0,.slice none 0 0,.bool false] 36)).drew.cell? ⟨W1.heap.size,0,none⟩=some (.slice none 0 0)∧(W1.alloc (.cells #[.slice none 0 0,.slice none 0 0,.int .i64 0,.int .i64 0,.slice none 0 0,.slice none 0 0,.bool false] 36)).drew.cell? ⟨W1.heap.size,1,none⟩=some (.slice none 0 0)∧(W1.alloc (.cells #[.slice none 0 0,.slice none 0 0,.int .i64 0,.int .i64 0,.slice none 0 0,.slice none 0 0,.bool false] 36)).drew.cell? ⟨W1.heap.size,2,none⟩=some (.int .i64 0)∧(W1.alloc (.cells #[.slice none 0 0,.slice none 0 0,.int .i64 0,.int .i64 0,.slice none 0 0,.slice none 0 0,.bool false] 36)).drew.cell? ⟨W1.heap.size,3,none⟩=some (.int .i64 0)∧(W1.alloc (.cells #[.slice none 0 0,.slice none 0 0,.int .i64 0,.int .i64 0,.slice none 0 0,.slice none 0 0,.bool false] 36)).drew.cell? ⟨W1.heap.size,4,none⟩=some (.slice none 0 0)∧(W1.alloc (.cells #[.slice none 0 0,.slice none 0 0,.int .i64 0,.int .i64 0,.slice none 0 0,.slice none 0 0,.bool false] 36)).drew.cell? ⟨W1.heap.size,5,none⟩=some (.slice none 0 0)∧(W1.alloc (.cells #[.slice none 0 0,.slice none 0 0,.int .i64 0,.int .i64 0,.slice none 0 0,.slice none 0 0,.bool false] 36)).drew.cell? ⟨W1.heap.size,6,none⟩=some (.bool false)∧(W1.alloc (.cells #[.slice none 0 0,.slice none 0 0,.int .i64 0,.int .i64 0,.slice none 0 0,.slice none 0 0,.bool false] 36)).drew.cell? ⟨w.heap.size+1+1,0,none⟩=some (.string yJ):=by obtain⟨u0,u1,u2,u3,u4,u5,u6⟩:=zI FQ;exact⟨u0,u1,u2,u3,u4,u5,u6,c8⟩
  have nf:=bt zj xF
  refine zS (fun W=>W.cell? ⟨W1.heap.size,0,none⟩=some (.slice none 0 0)∧W.cell? ⟨W1.heap.size,1,none⟩=some (.slice none 0 0)∧W.cell? ⟨W1.heap.size,2,none⟩=some (.int .i64 0)∧W.cell? ⟨W1.heap.size,3,none⟩=some (.int .i64 0)∧W.cell? ⟨W1.heap.size,4,none⟩=some (.slice none 0 0)∧W.cell? ⟨W1.heap.size,5,none⟩=some (.slice none 0 0)∧W.cell? ⟨W1.heap.size,6,none⟩=some (.bool false)∧W.cell? ⟨w.heap.size+1+1,0,none⟩=some (.string yJ)) (fun _=>false) (by kernel_rfl) tw (fun hS=>?_)
  generalize (W1.alloc (.cells #[.slice none 0 0,.slice none 0 0,.int .i64 0,.int .i64 0,.slice none 0 0,.slice none 0 0,.bool false] 36)).drew=W3 at *
  refine zAA 0 ?_ rfl ?_ ?_;rotate_left
  ·intro w zD;obtain⟨z0,z1,z2,z3,z4,z5,z6,z7⟩:=zD;go_simp;rfl
  try simp only[tn]
  refine zAA 1 ?_ rfl ?_ ?_;rotate_left
  ·intro w zD;obtain⟨z0,z1,z2,z3,z4,z5,z6,z7⟩:=zD;go_simp;rfl
  try simp only[tn]
  refine zAA 2 ?_ rfl ?_ ?_;rotate_left
  ·intro w zD;obtain⟨z0,z1,z2,z3,z4,z5,z6,z7⟩:=zD;go_simp;rfl
  try simp only[tn]
  refine zAC 3 rfl fun K hK=>?_
  obtain⟨o0,o1,o2,o3,o4,o5,o6⟩:=zI eW
  have pi:=zF (o:=0) eW
  have nG:=zF (o:=1) eW
  have pX:=zF (o:=2) eW
  have pc:=zF (o:=3) eW
  have pg:=zF (o:=4) eW
  have pp:=zF (o:=5) eW
  have nF:=zF (o:=6) eW
  obtain⟨s1,s2,s3⟩:=yQ W3 (w.heap.size+1) 36 (.slice none 0 0) (.slice none 0 0) (.int .i64 0) (.int .i64 0) (.slice none 0 0) (.slice none 0 0) (.bool false) eW
  go_simp
  obtain⟨W4,Np⟩: ∃W4,W4=(((((((W3.setCell ⟨w.heap.size+1,0,none⟩ (.slice none 0 0)).setCell ⟨w.heap.size+1,1,none⟩ (.slice none 0 0)).setCell ⟨w.heap.size+1,2,none⟩ (.int .i64 0)).setCell ⟨w.heap.size+1,3,none⟩ (.int .i64 0)).setCell ⟨w.heap.size+1,4,none⟩ (.slice none 0 0)).setCell ⟨w.heap.size+1,5,none⟩ (.slice none 0 0)).setCell ⟨w.heap.size+1,6,none⟩ (.bool false)):=⟨_,rfl⟩
  rw[←Np]at s1 s2 s3⊢
  have Bw:=(s3 W1.heap.size (by omega)).trans FQ
  have Hf:=(s3 (w.heap.size+1+1) (by omega)).trans YA
  have c84:W4.cell? ⟨w.heap.size+1+1,0,none⟩=some (.string yJ):=by rw[cell_of_row _ _ _ _ _ _ Hf];rfl
  have mg:W4.cell? ⟨W1.heap.size,0,none⟩=some (.slice none 0 0)∧W4.cell? ⟨W1.heap.size,1,none⟩=some (.slice none 0 0)∧W4.cell? ⟨W1.heap.size,2,none⟩=some (.int .i64 0)∧W4.cell? ⟨W1.heap.size,3,none⟩=some (.int .i64 0)∧W4.cell? ⟨W1.heap.size,4,none⟩=some (.slice none 0 0)∧W4.cell? ⟨W1.heap.size,5,none⟩=some (.slice none 0 0)∧W4.cell? ⟨W1.heap.size,6,none⟩=some (.bool false)∧W4.cell? ⟨w.heap.size+1+1,0,none⟩=some (.string yJ):=by obtain⟨u0,u1,u2,u3,u4,u5,u6⟩:=zI Bw;exact⟨u0,u1,u2,u3,u4,u5,u6,c84⟩
  obtain⟨i0,i1,i2,i3,i4,i5,i6⟩:=zI s1
  have xZ:=nf.trans (s2.mono (by omega))
  clear o0 o1 o2 o3 o4 o5 o6 Np
  refine hK _ _ (fun _=>mg) ?_
  clear hK K
  try simp only[tn]
  refine zAC 4 rfl fun K hK=>?_
  go_simp
  refine hK _ _ (fun _=>mg) ?_
  clear hK K
  try simp only[tn]
  refine zAC 5 rfl fun K hK=>?_
  go_simp
  refine hK _ _ (fun _=>mg) ?_
  clear hK K
  try simp only[tn]
  refine zAE ?_
  have HF:Hid (cf (bQ s l g ph m us f 1) (yY s l g m us f) s l g 2 m us f w (.returned (.tuple #[yx,.string yJ,.int .i64 (bQ s l g ph m us f 1)])) W4):=⟨xZ,.inl ⟨yM,rfl⟩⟩
  clear mg hS tw s1 s2 s3 Bw Hf nf xZ FQ YA eW kz kq kb yN kq1 yM
  go_wp2
  refine bodyPost_ret (v:=.tuple #[yx,.string yJ,.int .i64 (bQ s l g ph m us f 1)]) (by simp[results,Tryz.results97,go_sem,i0,i1,i2,i3,i4,i5,i6]) rfl ?_
  exact HF.out
 ·skip
  have tu:=zB W1 (.cells #[.slice b0 s.length d0,.slice b1 l.length d1,.int .i64 g,.int .i64 2,.slice b2 m.length d2,.slice b3 us.length d3,.bool f] 36)
  have kb:=heap_alloc_new W1 (.cells #[.slice b0 s.length d0,.slice b1 l.length d1,.int .i64 g,.int .i64 2,.slice b2 m.length d2,.slice b3 us.length d3,.bool f] 36)
  have kz:=zA5 tu yN
  have kq:=zA5 tu kq1
  have hlz:=zG yN
  have hlq:=zG kq1
  have zj:=bt zT tu
  have H2:=H1.below tu
  clear tu H H1
  go_upto_region 3 with fail
  have xF:=(Below.refl (W1.alloc (.cells #[.slice b0 s.length d0,.slice b1 l.length d1,.int .i64 g,.int .i64 2,.slice b2 m.length d2,.slice b3 us.length d3,.bool f] 36)).heap.size (W1.alloc (.cells #[.slice b0 s.length d0,.slice b1 l.length d1,.int .i64 g,.int .i64 2,.slice b2 m.length d2,.slice b3 us.length d3,.bool f] 36))).drew
  have FQ:(W1.alloc (.cells #[.slice b0 s.length d0,.slice b1 l.length d1,.int .i64 g,.int .i64 2,.slice b2 m.length d2,.slice b3 us.length d3,.bool f] 36)).drew.heap[W1.heap.size]? =_:=kb
  have YA:(W1.alloc (.cells #[.slice b0 s.length d0,.slice b1 l.length d1,.int .i64 g,.int .i64 2,.slice b2 m.length d2,.slice b3 us.length d3,.bool f] 36)).drew.heap[w.heap.size+1+1]? =_:=kq
  have eW:(W1.alloc (.cells #[.slice b0 s.length d0,.slice b1 l.length d1,.int .i64 g,.int .i64 2,.slice b2 m.length d2,.slice b3 us.length d3,.bool f] 36)).drew.heap[w.heap.size+1]? =_:=kz
  have c8:(W1.alloc (.cells #[.slice b0 s.length d0,.slice b1 l.length d1,.int .i64 g,.int .i64 2,.slice b2 m.length d2,.slice b3 us.length d3,.bool f] 36)).drew.cell? ⟨w.heap.size+1+1,0,none⟩=some (.string (yY s l g m us f)):=by rw[cell_of_row _ _ _ _ _ _ YA];rfl
  have tw:(W1.alloc (.cells #[.slice b0 s.length d0,.slice b1 l.length d1,.int .i64 g,.int .i64 2,.slice b2 m.length d2,.slice b3 us.length d3,.bool f] 36)).drew.cell? ⟨W1.heap.size,0,none⟩=some (.slice b0 s.length d0)∧(W1.alloc (.cells #[.slice b0 s.length d0,.slice b1 l.length d1,.int .i64 g,.int .i64 2,.slice b2 m.length d2,.slice b3 us.length d3,.bool f] 36)).drew.cell? ⟨W1.heap.size,1,none⟩=some (.slice b1 l.length d1)∧(W1.alloc (.cells #[.slice b0 s.length d0,.slice b1 l.length d1,.int .i64 g,.int .i64 2,.slice b2 m.length d2,.slice b3 us.length d3,.bool f] 36)).drew.cell? ⟨W1.heap.size,2,none⟩=some (.int .i64 g)∧(W1.alloc (.cells #[.slice b0 s.length d0,.slice b1 l.length d1,.int .i64 g,.int .i64 2,.slice b2 m.length d2,.slice b3 us.length d3,.bool f] 36)).drew.cell? ⟨W1.heap.size,3,none⟩=some (.int .i64 2)∧(W1.alloc (.cells #[.slice b0 s.length d0,.slice b1 l.length d1,.int .i64 g,.int .i64 2,.slice b2 m.length d2,.slice b3 us.length d3,.bool f] 36)).drew.cell? ⟨W1.heap.size,4,none⟩=some (.slice b2 m.length d2)∧(W1.alloc (.cells #[.slice b0 s.length d0,.slice b1 l.length d1,.int .i64 g,.int .i64 2,.slice b2 m.length d2,.slice b3 us.length d3,.bool f] 36)).drew.cell? ⟨W1.heap.size,5,none⟩=some (.slice b3 us.length d3)∧(W1.alloc (.cells #[.slice b0 s.length d0,.slice b1 l.length d1,.int .i64 g,.int .i64 2,.slice b2 m.length d2,.slice b3 us.length d3,.bool f] 36)).drew.cell? ⟨W1.heap.size,6,none⟩=some (.bool f)∧(W1.alloc (.cells #[.slice b0 s.length d0,.slice b1 l.length d1,.int .i64 g,.int .i64 2,.slice b2 m.length d2,.slice b3 us.length d3,.bool f] 36)).drew.cell? ⟨w.heap.size+1+1,0,none⟩=some (.string (yY s l g m us f)):=by obtain⟨u0,u1,u2,u3,u4,u5,u6⟩:=zI FQ;exact⟨u0,u1,u2,u3,u4,u5,u6,c8⟩
  have nf:=bt zj xF
  have HD:=H2.below xF
  refine zS (fun W=>W.cell? ⟨W1.heap.size,0,none⟩=some (.slice b0 s.length d0)∧W.cell? ⟨W1.heap.size,1,none⟩=some (.slice b1 l.length d1)∧W.cell? ⟨W1.heap.size,2,none⟩=some (.int .i64 g)∧W.cell? ⟨W1.heap.size,3,none⟩=some (.int .i64 2)∧W.cell? ⟨W1.heap.size,4,none⟩=some (.slice b2 m.length d2)∧W.cell? ⟨W1.heap.size,5,none⟩=some (.slice b3 us.length d3)∧W.cell? ⟨W1.heap.size,6,none⟩=some (.bool f)∧W.cell? ⟨w.heap.size+1+1,0,none⟩=some (.string (yY s l g m us f))) (fun _=>false) (by kernel_rfl) tw (fun hS=>?_)
  generalize (W1.alloc (.cells #[.slice b0 s.length d0,.slice b1 l.length d1,.int .i64 g,.int .i64 2,.slice b2 m.length d2,.slice b3 us.length d3,.bool f] 36)).drew=W3 at *
  refine zAA 0 ?_ rfl ?_ ?_;rotate_left
  ·intro w zD;obtain⟨z0,z1,z2,z3,z4,z5,z6,z7⟩:=zD;go_simp;rfl
  try simp only[tn]
  refine zAA 1 ?_ rfl ?_ ?_;rotate_left
  ·intro w zD;obtain⟨z0,z1,z2,z3,z4,z5,z6,z7⟩:=zD;go_simp;rfl
  try simp only[tn]
  refine zAA 2 ?_ rfl ?_ ?_;rotate_left
  ·intro w zD;obtain⟨z0,z1,z2,z3,z4,z5,z6,z7⟩:=zD;go_simp;rfl
  try simp only[tn]
  refine zAC 3 rfl fun K hK=>?_
  obtain⟨o0,o1,o2,o3,o4,o5,o6⟩:=zI eW
  have pi:=zF (o:=0) eW
  have nG:=zF (o:=1) eW
  have pX:=zF (o:=2) eW
  have pc:=zF (o:=3) eW
  have pg:=zF (o:=4) eW
  have pp:=zF (o:=5) eW
  have nF:=zF (o:=6) eW
  obtain⟨s1,s2,s3⟩:=yQ W3 (w.heap.size+1) 36 (.slice b0 s.length d0) (.slice b1 l.length d1) (.int .i64 g) (.int .i64 2) (.slice b2 m.length d2) (.slice b3 us.length d3) (.bool f) eW
  go_simp
  obtain⟨W4,Np⟩: ∃W4,W4=(((((((W3.setCell ⟨w.heap.size+1,0,none⟩ (.slice b0 s.length d0)).setCell ⟨w.heap.size+1,1,none⟩ (.slice b1 l.length d1)).setCell ⟨w.heap.size+1,2,none⟩ (.int .i64 g)).setCell ⟨w.heap.size+1,3,none⟩ (.int .i64 2)).setCell ⟨w.heap.size+1,4,none⟩ (.slice b2 m.length d2)).setCell ⟨w.heap.size+1,5,none⟩ (.slice b3 us.length d3)).setCell ⟨w.heap.size+1,6,none⟩ (.bool f)):=⟨_,rfl⟩
  rw[←Np]at s1 s2 s3⊢
  have Bw:=(s3 W1.heap.size (by omega)).trans FQ
  have Hf:=(s3 (w.heap.size+1+1) (by omega)).trans YA
  have c84:W4.cell? ⟨w.heap.size+1+1,0,none⟩=some (.string (yY s l g m us f)):=by rw[cell_of_row _ _ _ _ _ _ Hf];rfl
  have mg:W4.cell? ⟨W1.heap.size,0,none⟩=some (.slice b0 s.length d0)∧W4.cell? ⟨W1.heap.size,1,none⟩=some (.slice b1 l.length d1)∧W4.cell? ⟨W1.heap.size,2,none⟩=some (.int .i64 g)∧W4.cell? ⟨W1.heap.size,3,none⟩=some (.int .i64 2)∧W4.cell? ⟨W1.heap.size,4,none⟩=some (.slice b2 m.length d2)∧W4.cell? ⟨W1.heap.size,5,none⟩=some (.slice b3 us.length d3)∧W4.cell? ⟨W1.heap.size,6,none⟩=some (.bool f)∧W4.cell? ⟨w.heap.size+1+1,0,none⟩=some (.string (yY s l g m us f)):=by obtain⟨u0,u1,u2,u3,u4,u5,u6⟩:=zI Bw;exact⟨u0,u1,u2,u3,u4,u5,u6,c84⟩
  obtain⟨i0,i1,i2,i3,i4,i5,i6⟩:=zI s1
  have xZ:=nf.trans (s2.mono (by omega))
  have H4:=HD.keep s2.size (fun k hk=>s3 k (by have:=bn.out;omega))
  clear o0 o1 o2 o3 o4 o5 o6 Np
  refine hK _ _ (fun _=>mg) ?_
  clear hK K
  try simp only[tn]
  refine zAC 4 rfl fun K hK=>?_
  go_simp
  refine hK _ _ (fun _=>mg) ?_
  clear hK K
  try simp only[tn]
  refine zAC 5 rfl fun K hK=>?_
  go_simp
  refine hK _ _ (fun _=>mg) ?_
  clear hK K
  try simp only[tn]
  refine zAE ?_
  have HF:Hid (cf (bQ s l g ph m us f 1) (yY s l g m us f) s l g 2 m us f w (.returned (.tuple #[RV b0 d0 s b1 d1 l g 2 b2 d2 m b3 d3 us f,.string (yY s l g m us f),.int .i64 0])) W4):=⟨xZ,.inr ⟨hz,b0,d0,b1,d1,b2,d2,b3,d3,rfl,H4.from (by have:=bn.out;omega)⟩⟩
  clear mg hS tw s1 s2 s3 Bw Hf nf xZ FQ YA eW kz kq kb yN kq1 H4 HD hz
  go_wp2
  refine bodyPost_ret (v:=.tuple #[RV b0 d0 s b1 d1 l g 2 b2 d2 m b3 d3 us f,.string (yY s l g m us f),.int .i64 0]) (by simp[results,Tryz.results97,go_sem,i0,i1,i2,i3,i4,i5,i6]) rfl ?_
  exact HF.out
section
open Go.ChangeShapes Go.WideShapes Go.ChangeAt Go.RowKit Go.Joins Go.Deep
end
end Go.Proofs.YtehmlpkapjdhkaaGreatDoor
