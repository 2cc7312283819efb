import Derived.Test.YtehmlpkapjdhkaaGreatDoorMF
namespace Go.Proofs.YtehmlpkapjdhkaaGreatDoor
set_option maxHeartbeats 16000000
open Go.RowKit
set_option maxRecDepth 100000
theorem tD{x y:ByteArray}:(x.toList==y.toList)=true↔x=y:=by
 rw[beq_iff_eq,ByteArray.toList_eq,ByteArray.toList_eq]
 constructor
 ·intro h
  have:=Array.toList_inj.1 h
  cases x;cases y;simpa using this
 ·intro h;rw[h]
theorem gL{nm:ByteArray}{r:Rf}:yt nm r=true↔r.name=nm:=tD
theorem mL{nm:ByteArray}{r:Rf}:yt nm r=false↔r.name≠nm:=by
 constructor
 ·intro h e;rw[gL.2 e]at h;cases h
 ·intro h
  cases q:yt nm r with
  |false=>rfl
  |true=>exact absurd (gL.1 q) h
theorem tT.neq{x y:ByteArray}(h:tT x y):x≠y:=fun e=>by
 have:=h.ne
 rw[e]at this;simp at this
theorem tT.irrefl(x:ByteArray): ¬tT x x:=fun h=>h.neq rfl
theorem tT.asymm{x y:ByteArray}(h:tT x y): ¬tT y x:=fun h'=>tT.irrefl x (h.trans h')
theorem tT.total{x y:ByteArray}(h: ¬tT x y)(yM:x≠y):tT y x:=
 rx _ _ (by simpa[tT]using h) (fun e=>yM (tD.1 (by simpa using e)))
def te(l:List Rf):Prop:=l.Pairwise (fun x y=>tT x.name y.name)
theorem te.nodup{l:List Rf}(h:te l):l.Nodup:=List.Pairwise.imp (fun {a b} q e=>by rw[e]at q;exact tT.irrefl _ q) h
theorem te.ext{l m:List Rf}(h1:te l)(h2:te m)(h: ∀r,r∈l↔r∈m):l=m:=by
 have hp:l.Perm m:=(List.perm_ext_iff_of_nodup h1.nodup h2.nodup).2 h
 exact hp.eq_of_pairwise (fun a b _ _ q1 q2=>absurd q2 q1.asymm) h1 h2
theorem te.one{l:List Rf}(h:te l){x y:Rf}(hx:x∈l)(hy:y∈l)(e:x.name=y.name):x=y:=by
 induction l with
 |nil=>cases hx
 |cons z l ih=>
  obtain⟨q1,q2⟩:=List.pairwise_cons.1 h
  rcases List.mem_cons.1 hx with hx|hx
  ·rcases List.mem_cons.1 hy with hy|hy
   ·rw[hx,hy]
   ·rw[hx]at e;exact absurd e (q1 y hy).neq
  ·rcases List.mem_cons.1 hy with hy|hy
   ·rw[hy]at e;exact absurd e.symm (q1 x hx).neq
   ·exact ih q2 hx hy
def um(l:List Rf)(nm:ByteArray):Int:=((l.find? (yt nm)).map Rf.id).getD 0
theorem ZH{l:List Rf}{nm:ByteArray}(h: ∀r∈l,r.name≠nm):um l nm=0:=by
 unfold um
 rw[List.find?_eq_none.2 (fun x hx=>by rw[mL.2 (h x hx)];decide)]
 rfl
theorem XJ{l:List Rf}{nm:ByteArray}(h:um l nm≠0): ∃r∈l,r.name=nm∧r.id=um l nm:=by
 unfold um at h⊢
 cases q:l.find? (yt nm)with
 |none=>rw[q]at h;exact absurd rfl h
 |some x=>exact⟨x,List.mem_of_find?_eq_some q,gL.1 (List.find?_some q),rfl⟩
theorem QO{l:List Rf}{nm:ByteArray}(hn:yf nm=0):jm l nm=um l nm:=by
 have he:gh l nm=if xV (yt nm) l<0 then 5 else 0:=by rw[gh,if_neg (fun e=>e hn)]
 rcases ug (yt nm) l with⟨h1,h2⟩|⟨i,h1,hi,h2,h3⟩
 ·rw[jm,if_pos (by rw[he,if_pos (by omega)];decide),ZH (fun r hr=>mL.1 (h2 r hr))]
 ·rw[jm,if_neg (by rw[he,if_neg (by omega)];decide),h1]
  unfold um
  have:l.find? (yt nm)=some l[i]:=by
   rw[List.find?_eq_some_iff_getElem]
   exact⟨h2,i,hi,rfl,fun j hj=>by simpa using h3 j (by omega) hj⟩
  rw[this]
  simp[hi]
def kT(x:Rf):List Rf→List Rf
 |[]=>[x]
 |y::l=>if Op.bytesLess y.name.toList x.name.toList then y::kT x l else x::y::l
theorem mQ(x:Rf): ∀l,(kT x l).Perm (l++[x])
 |[]=>List.Perm.refl _
 |y::l=>by
  rw[kT]
  split
  ·exact(mQ x l).cons y
  ·exact(List.perm_append_singleton x (y::l)).symm
theorem VQ{x:Rf}{l:List Rf}{r:Rf}:r∈kT x l↔r=x∨r∈l:=by
 rw[(mQ x l).mem_iff,List.mem_append,List.mem_singleton];exact Or.comm
theorem gY{x:Rf}: ∀{l:List Rf},te l→(∀r∈l,r.name≠x.name)→te (kT x l)
 |[],_,_=>List.pairwise_singleton _ _
 |y::l,h,hn=>by
  obtain⟨q1,q2⟩:=List.pairwise_cons.1 h
  rw[kT]
  split
  ·rename_i c
   refine List.pairwise_cons.2 ⟨fun r hr=>?_,gY q2 (fun r hr=>hn r (List.mem_cons_of_mem _ hr))⟩
   rcases VQ.1 hr with rfl|hr
   ·exact c
   ·exact q1 r hr
  ·rename_i c
   have Hk:tT x.name y.name:=tT.total c (hn y (List.mem_cons_self ..))
   refine List.pairwise_cons.2 ⟨fun r hr=>?_,h⟩
   rcases List.mem_cons.1 hr with rfl|hr
   ·exact Hk
   ·exact Hk.trans (q1 r hr)
def xP(l:List Rf)(nm:ByteArray):List Rf:=l.filter (fun r=>!yt nm r)
def yE(l:List Rf)(nm:ByteArray)(id:Int):List Rf:=if id=0 then xP l nm else kT ⟨nm,id⟩ (xP l nm)
theorem mZ{l:List Rf}{nm:ByteArray}{r:Rf}:r∈xP l nm↔r∈l∧r.name≠nm:=by
 unfold xP
 rw[List.mem_filter,Bool.not_eq_true',mL]
theorem m6{l:List Rf}(h:te l)(nm:ByteArray):te (xP l nm):=List.Pairwise.filter _ h
theorem XX{l:List Rf}(h:te l)(nm:ByteArray)(id:Int):te (yE l nm id):=by
 unfold yE
 split
 ·exact m6 h nm
 ·exact gY (m6 h nm) (fun r hr=>(mZ.1 hr).2)
theorem V3{l:List Rf}{nm:ByteArray}{id:Int}{r:Rf}:r∈yE l nm id↔(r∈l∧r.name≠nm)∨(id≠0∧r=⟨nm,id⟩):=by
 unfold yE
 split
 ·rename_i h
  rw[mZ]
  constructor
  ·exact .inl
  ·rintro(h1|⟨h1,_⟩)
   ·exact h1
   ·exact absurd h h1
 ·rename_i h
  rw[VQ,mZ]
  constructor
  ·rintro(h1|h1)
   ·exact .inr ⟨h,h1⟩
   ·exact .inl h1
  ·rintro(h1|⟨_,h1⟩)
   ·exact .inr h1
   ·exact .inl h1
theorem Wv(x:Rf)(l:List Rf):(kT x l).length=l.length+1:=by
 rw[(mQ x l).length_eq,List.length_append];rfl
theorem uJ(l:List Rf)(nm:ByteArray)(id:Int):(yE l nm id).length≤l.length+1:=by
 have:(xP l nm).length≤l.length:=List.length_filter_le _ _
 unfold yE
 split
 ·omega
 ·rw[Wv];omega
structure Up where
 name:ByteArray
 old:Int
 new:Int
def qj(n:Int):Bool:=decide (0≤n)&&decide (n≤99)
def xp(nm:ByteArray)(u:Up):Bool:=u.name.toList==nm.toList
def vf(q:List Up)(u:Up):Int:=
 if yf u.name≠0 then yf u.name else if !(qj u.old)|| !(qj u.new)then 3 else if u.old=0∧u.new=0 then 1 else if q.any (xp u.name)then 6 else 0
def uu:List Up→List Up→Int
 |_,[]=>0
 |q,u::us=>if vf q u≠0 then vf q u else uu (q++[u]) us
def yd(us:List Up):Int:=if us.length=0 then 5 else if 4<us.length then 2 else uu [] us
structure py(u:Up):Prop where
 name:yf u.name=0
 o0:0≤u.old
 o1:u.old≤99
 n0:0≤u.new
 n1:u.new≤99
 not: ¬(u.old=0∧u.new=0)
theorem XH{n:Int}:qj n=true↔0≤n∧n≤99:=by simp[qj]
theorem Ze{q:List Up}{u:Up}:vf q u=0↔py u∧∀x∈q,x.name≠u.name:=by
 unfold vf
 constructor
 ·intro h
  split at h
  ·rename_i c;exact absurd h c
  rename_i c1
  split at h
  ·omega
  rename_i c2
  split at h
  ·omega
  rename_i c3
  split at h
  ·omega
  rename_i c4
  simp only[Bool.or_eq_true,Bool.not_eq_true',not_or,Bool.not_eq_false,XH]at c2
  refine⟨⟨Classical.byContradiction c1,c2.1.1,c2.1.2,c2.2.1,c2.2.2,c3⟩,fun x hx e=>c4 ?_⟩
  exact List.any_eq_true.2 ⟨x,hx,tD.2 e⟩
 ·rintro⟨r,hq⟩
  rw[if_neg (fun e=>e r.name),if_neg (by simp[qj,r.o0,r.o1,r.n0,r.n1]),if_neg r.not,if_neg]
  intro q
  obtain⟨x,hx,q⟩:=List.any_eq_true.1 q
  exact hq x hx (tD.1 q)
theorem mW: ∀(us q:List Up),uu q us=0↔(∀u∈us,py u∧∀x∈q,x.name≠u.name)∧us.Pairwise (fun x y=>x.name≠y.name)
 |[],q=>by simp[uu]
 |u::us,q=>by
  rw[uu,List.pairwise_cons]
  constructor
  ·intro h
   split at h
   ·rename_i c;exact absurd h c
   rename_i c
   obtain⟨r,hq⟩:=Ze.1 (Classical.byContradiction c)
   obtain⟨h1,h2⟩:=(mW us _).1 h
   refine⟨fun v hv=>?_,fun y hy=>(h1 y hy).2 u (by simp),h2⟩
   rcases List.mem_cons.1 hv with rfl|hv
   ·exact⟨r,hq⟩
   ·exact⟨(h1 v hv).1,fun x hx=>(h1 v hv).2 x (by simp[hx])⟩
  ·rintro⟨h1,h2,h3⟩
   rw[if_neg (fun e=>e (Ze.2 (h1 u (by simp))))]
   refine(mW us _).2 ⟨fun v hv=>⟨(h1 v (by simp[hv])).1,fun x hx=>?_⟩,h3⟩
   rcases List.mem_append.1 hx with hx|hx
   ·exact(h1 v (by simp[hv])).2 x hx
   ·rw[List.mem_singleton.1 hx];exact h2 v hv
abbrev WP(us:List Up):Prop:=us.Pairwise (fun x y=>x.name≠y.name)
theorem ve{us:List Up}:yd us=0↔0<us.length∧us.length≤4∧(∀u∈us,py u)∧WP us:=by
 unfold yd
 constructor
 ·intro h
  split at h
  ·omega
  split at h
  ·omega
  obtain⟨h1,h2⟩:=(mW us []).1 h
  exact⟨by omega,by omega,fun u hu=>(h1 u hu).1,h2⟩
 ·rintro⟨h1,h2,h3,h4⟩
  rw[if_neg (by omega),if_neg (by omega)]
  exact(mW us []).2 ⟨fun u hu=>⟨h3 u hu,fun x hx=>by cases hx⟩,h4⟩
theorem WP.reverse{us:List Up}(h:WP us):WP us.reverse:=List.pairwise_reverse.2 (h.imp fun q=>q.symm)
def rB(o:List Ob)(force:Bool)(u:Up):Int:=
 if yZ o (if u.old=0 then u.new else u.old) u.new≠0 then yZ o (if u.old=0 then u.new else u.old) u.new
 else if xT o (if u.old=0 then u.new else u.old) u.new||force then 0 else 4
def xo(o:List Ob)(force:Bool)(l:List Rf)(u:Up):Int:=if jm l u.name≠u.old then 4 else if u.new=0 then 0 else rB o force u
def uN(o:List Ob)(force:Bool):List Rf→List Up→Int
 |_,[]=>0
 |l,u::us=>if xo o force l u≠0 then xo o force l u else uN o force (yE l u.name u.new) us
def yK:List Rf→List Up→List Rf
 |l,[]=>l
 |l,u::us=>yK (yE l u.name u.new) us
def xI(l:List Rf)(o:List Ob)(us:List Up)(force:Bool):Int:=
 if yG l o≠0 then yG l o else if yd us≠0 then yd us else if uN o force l us≠0 then uN o force l us else yG (yK l us) o
theorem ru{l:List Rf}{o:List Ob}{us:List Up}{force:Bool}:xI l o us force=0↔yG l o=0∧yd us=0∧uN o force l us=0∧yG (yK l us) o=0:=by
 unfold xI
 constructor
 ·intro h
  split at h
  ·rename_i c;exact absurd h c
  rename_i c1
  split at h
  ·rename_i c;exact absurd h c
  rename_i c2
  split at h
  ·rename_i c;exact absurd h c
  rename_i c3
  exact⟨Classical.byContradiction c1,Classical.byContradiction c2,Classical.byContradiction c3,h⟩
 ·rintro⟨h1,h2,h3,h4⟩
  rw[if_neg (fun e=>e h1),if_neg (fun e=>e h2),if_neg (fun e=>e h3),h4]
theorem mJ: ∀(us:List Up) (l:List Rf),(yK l us).length≤l.length+us.length
 |[],_=>by simp[yK]
 |u::us,l=>by
  have h1:=mJ us (yE l u.name u.new)
  have h2:=uJ l u.name u.new
  rw[yK,List.length_cons];omega
def ER(o:List Ob)(force:Bool)(l:List Rf)(u:Up):Prop:=um l u.name=u.old∧(u.new≠0→rB o force u=0)
theorem Xf{o:List Ob}{force:Bool}{l:List Rf}{u:Up}(hn:yf u.name=0):xo o force l u=0↔ER o force l u:=by
 unfold xo ER
 rw[QO hn]
 constructor
 ·intro h
  split at h
  ·omega
  rename_i c
  refine⟨Classical.byContradiction c,fun z=>?_⟩
  rwa[if_neg z]at h
 ·rintro⟨h1,h2⟩
  rw[if_neg (fun e=>e h1)]
  split
  ·rfl
  ·rename_i z;exact h2 z
theorem ZE{l:List Rf}{o:List Ob}(h:yG l o=0):te l:=((uI _ _).1 (xc.1 h).2.2.1).2
theorem cV{l:List Rf}{o:List Ob}(h:yG l o=0){r:Rf}(hr:r∈l):gE o r.id:=(vt.1 (WT h hr).1).2.1
def bE(l:List Up):Prop:=l.Pairwise (fun x y=>tT x.name y.name)
theorem bE.ext{l m:List Up}(h1:bE l)(h2:bE m)(hp:l.Perm m):l=m:=
 hp.eq_of_pairwise (fun _ _ _ _ q1 q2=>absurd q2 q1.asymm) h1 h2
def RR(x:Up):List Up→List Up
 |[]=>[x]
 |y::l=>if Op.bytesLess y.name.toList x.name.toList then y::RR x l else x::y::l
theorem gl(x:Up): ∀l,(RR x l).Perm (x::l)
 |[]=>List.Perm.refl _
 |y::l=>by
  rw[RR]
  split
  ·exact((gl x l).cons y).trans (List.Perm.swap x y l)
  ·exact List.Perm.refl _
theorem Zs{x:Up}: ∀{l:List Up},bE l→(∀r∈l,r.name≠x.name)→bE (RR x l)
 |[],_,_=>List.pairwise_singleton _ _
 |y::l,h,hn=>by
  obtain⟨q1,q2⟩:=List.pairwise_cons.1 h
  rw[RR]
  split
  ·rename_i c
   refine List.pairwise_cons.2 ⟨fun r hr=>?_,Zs q2 (fun r hr=>hn r (List.mem_cons_of_mem _ hr))⟩
   rcases List.mem_cons.1 ((gl x l).mem_iff.1 hr)with rfl|hr
   ·exact c
   ·exact q1 r hr
  ·rename_i c
   have Hk:tT x.name y.name:=tT.total c (hn y (List.mem_cons_self ..))
   refine List.pairwise_cons.2 ⟨fun r hr=>?_,h⟩
   rcases List.mem_cons.1 hr with rfl|hr
   ·exact Hk
   ·exact Hk.trans (q1 r hr)
def sortU:List Up→List Up
 |[]=>[]
 |u::us=>RR u (sortU us)
theorem vw: ∀us:List Up,(sortU us).Perm us
 |[]=>List.Perm.refl _
 |u::us=>(gl u _).trans ((vw us).cons u)
theorem ki: ∀{us:List Up},WP us→bE (sortU us)
 |[],_=>List.Pairwise.nil
 |u::us,h=>by
  obtain⟨q1,q2⟩:=List.pairwise_cons.1 h
  exact Zs (ki q2) (fun r hr=>(q1 r ((vw us).mem_iff.1 hr)).symm)
theorem Uy{us d:List Up}(h:WP us)(hp:d.Perm us):WP d:=(hp.pairwise_iff (fun q=>q.symm)).2 h
theorem Q7{us d:List Up}(h:WP us)(hp:d.Perm us)(hs:d.Pairwise (fun x y=>¬tT y.name x.name)):d=sortU us:=by
 have ha:=Uy h hp
 have:bE d:=by
  have:=List.Pairwise.and hs ha
  exact this.imp fun q=>Classical.byContradiction fun c=>q.1 (tT.total c q.2)
 exact this.ext (ki h) (hp.trans (vw us).symm)
theorem Mm{l d:List Rf}{x:Rf}(h:te l)(hn: ∀r∈l,r.name≠x.name)(hp:d.Perm (l++[x]))(hs:d.Pairwise (fun x y=>¬tT y.name x.name)):d=kT x l:=by
 have h1:=gY h hn
 have hpp:d.Perm (kT x l):=hp.trans (mQ x l).symm
 have ha:d.Pairwise (fun x y=>x.name≠y.name):=(hpp.pairwise_iff (fun q=>Ne.symm q)).2 (h1.imp fun q=>q.neq)
 have:te d:=(List.Pairwise.and hs ha).imp fun q=>Classical.byContradiction fun c=>q.1 (tT.total c q.2)
 exact hpp.eq_of_pairwise (fun _ _ _ _ q1 q2=>absurd q2 q1.asymm) this h1
def vU(u:Up):List (List UInt8):=[u.name.data.toList,Lib.decDigits u.old.toNat,Lib.decDigits u.new.toNat]
def tG(u:Up):ByteArray:=(⟨(Lib.join (vU u) [32]).toArray⟩:ByteArray)++(⟨#[59]⟩:ByteArray)
def uU:ByteArray→List Up→ByteArray
 |t,[]=>t
 |t,u::us=>uU (t++tG u) us
def dG(us:List Up):ByteArray:=uU ⟨#[]⟩ (sortU us)
def tQ(us:List Up):ByteArray:=if yd us=0 then dG us else⟨#[]⟩
abbrev Up.val(u:Up):Value:=.agg #[.string u.name,.int .i64 u.old,.int .i64 u.new]
def S9(w:World)(b o:Nat)(u:Up):Prop:=w.cell? ⟨b,o,none⟩=some (.string u.name)∧w.cell? ⟨b,o+1,none⟩=some (.int .i64 u.old)∧w.cell? ⟨b,o+2,none⟩=some (.int .i64 u.new)
def zx(w:World)(a:Option Addr)(l:List Up):Prop:=
 ∀i,i<l.length→∃b off,a=some ⟨b,off,none⟩∧b<w.heap.size∧∀i (h:i<l.length),S9 w b (off+i*3) l[i]
theorem zx.below{w w':World}{a:Option Addr}{l:List Up}(h:zx w a l)(hb:Below w.heap.size w w'):zx w' a l:=by
 intro i hi
 obtain⟨b,off,e,zN,hc⟩:=h i hi
 exact⟨b,off,e,Nat.lt_of_lt_of_le zN hb.size,fun j hj=>⟨(hb.cell (p:=⟨b,off+j*3,none⟩) zN).trans (hc j hj).1,(hb.cell (p:=⟨b,off+j*3+1,none⟩) zN).trans (hc j hj).2.1,(hb.cell (p:=⟨b,off+j*3+2,none⟩) zN).trans (hc j hj).2.2⟩⟩
theorem Tryz.info40:(Tryz.prog.info? 40).map (fun i=>(i.zero,i.size,i.bytes))=some (some (.agg #[.string {data:=#[]},.int .i64 0,.int .i64 0]),3,32):=by kernel_rfl
def Up.cells(r:Up):List Value:=[.string r.name,.int .i64 r.old,.int .i64 r.new]
def tU:List Up→List Value
 |[]=>[]
 |r::rs=>r.cells++tU rs
theorem fL(A B:List Up):tU (A++B)=tU A++tU B:=by
 induction A with
 |nil=>rfl
 |cons r A ih=>simp[tU,ih]
theorem sf(A:List Up):(tU A).length=A.length*3:=by
 induction A with
 |nil=>rfl
 |cons r A ih=>simp[tU,ih,Up.cells];omega
theorem XG(A:List Up): ∀v∈tU A,v.oneCell'=true:=by
 induction A with
 |nil=>intro v h;cases h
 |cons r A ih=>
  intro v h
  rcases List.mem_append.1 h with h|h
  ·simp only[Up.cells,List.mem_cons,List.not_mem_nil,or_false]at h
   rcases h with rfl|rfl|rfl<;>rfl
  ·exact ih v h
theorem cg(A:List Up)(i j:Nat)(hi:i<A.length)(hj:j<3):(tU A)[i*3+j]? =(A[i].cells)[j]?:=by
 induction A generalizing i with
 |nil=>simp at hi
 |cons r A ih=>
  cases i with
  |zero=>
   simp only[tU,Nat.zero_mul,Nat.zero_add,List.getElem_cons_zero]
   exact List.getElem?_append_left (by simpa[Up.cells]using hj)
  |succ i=>
   have:=ih i (by simpa using hi)
   rw[List.getElem_cons_succ,←this]
   simp only[tU]
   rw[List.getElem?_append_right (by simp[Up.cells];omega)]
   congr 1
   simp[Up.cells];omega
theorem pZ{w:World}{base:Nat}{v:Value}{xs:List Up}(h:w.ownsRow base 40 3 v xs.length (tU xs)): ∃a c,v= .slice a xs.length c∧zx w a xs∧xs.length≤c:=by
 rcases h.2 with⟨rfl,e⟩|⟨g,cap,cur,rfl,h1,h2,h3,h4,h5,h6⟩
 ·rw[e]
  exact⟨none,0,rfl,fun i hi=>by omega,Nat.le_refl _⟩
 ·refine⟨_,_,rfl,fun i hi=>⟨g,0,rfl,zG h2,fun k hk=>?_⟩,h3⟩
  have hc: ∀j,j<3→w.cell? ⟨g,0+k*3+j,none⟩=(xs[k].cells)[j]?:=fun j hj=>by
   rw[Nat.zero_add,cell_of_row w g _ _ _ _ h2,←cg xs k j hk hj,←h6,List.getElem?_take,if_pos (by omega)]
   simp
  exact⟨by simpa[Up.cells]using hc 0 (by omega),by simpa[Up.cells]using hc 1 (by omega),by simpa[Up.cells]using hc 2 (by omega)⟩
theorem yi{w w':World}{base:Nat}{e:TypeId}{size:Nat}{v:Value}{n:Nat}{xs:List Value}(h:w.ownsRow base e size v n xs)(hs: ∀g,v.ownBlock=some g→w'.heap[g]? =w.heap[g]?):w'.ownsRow base e size v n xs:=by
 refine⟨h.1,?_⟩
 rcases h.2 with h|⟨g,cap,cur,rfl,h1,h2,h3⟩
 ·exact .inl h
 ·exact .inr ⟨g,cap,cur,rfl,h1,(hs g rfl).trans h2,h3⟩
def qp(P:Up→Bool)(l:List Up):Int:=match l.findIdx? P with|some i=>(i:Int)|none=>-1
theorem V9{P:Up→Bool}{l:List Up}{k:Nat}(hk:k<l.length)(pQ: ∀j (h:j<l.length),j<k→P l[j]=false)(h:P l[k]=true):qp P l=k:=by
 have:l.findIdx? P=some k:=by
  rw[List.findIdx?_eq_some_iff_getElem]
  exact⟨hk,h,fun j hj=>by simpa using pQ j (by omega) hj⟩
 simp[qp,this]
theorem WO{P:Up→Bool}{l:List Up}(pQ: ∀j (h:j<l.length),P l[j]=false):qp P l= -1:=by
 have:l.findIdx? P=none:=by
  rw[List.findIdx?_eq_none_iff]
  intro x hx
  obtain⟨j,hj,rfl⟩:=List.getElem_of_mem hx
  exact pQ j hj
 simp[qp,this]
theorem UO{P:Up→Bool}{l:List Up}:decide (0≤qp P l)=l.any P:=by
 unfold qp
 cases h:l.findIdx? P with
 |none=>
  rw[List.findIdx?_eq_none_iff]at h
  rw[show l.any P=false from List.any_eq_false.2 (fun x hx=>by simp[h x hx])]
  simp
 |some i=>
  rw[List.findIdx?_eq_some_iff_getElem]at h
  obtain⟨h1,h2,h3⟩:=h
  rw[show l.any P=true from List.any_eq_true.2 ⟨_,List.getElem_mem h1,h2⟩]
  simp
theorem nk(n:Int)(w:World):Calls Tryz.prog 179 #[.int .i64 n] w fun e w'=>e= .returned (.bool (qj n))∧w'=w:=by
 have HR:Hid (∀b:Bool,(b=true↔(0≤n∧n≤99))→b=qj n):=fun b hb=>by
  rw[Bool.eq_iff_iff,hb,XH]
 go_enter Tryz.func179,Tryz.ntmps179
 go_wp2
 all_goals go_ret
 all_goals refine⟨yI (HR.out _ ?_),rfl⟩
 all_goals simp
 all_goals omega
theorem Rk(x:Up)(nm:ByteArray)(p:Nat)(w:World)(hp:w.cell? ⟨p,0,none⟩=some (.string nm))(zN:p<w.heap.size):
  Calls Tryz.prog 181 #[x.val,.pointer (some ⟨p,0,none⟩)] w fun e w'=>e= .returned (.bool (xp nm x))∧Below w.heap.size w w':=by
 go_enter Tryz.func181,Tryz.ntmps181
 go_wp2
 go_ret
 exact⟨rfl,zB _ _⟩
theorem bm(a:Option Addr)(c:Nat)(l:List Up)(nm:ByteArray)(p:Nat)(w:World)(h:zx w a l)(hl:l.length≤9223372036854775807)(hp:w.cell? ⟨p,0,none⟩=some (.string nm))(zN:p<w.heap.size):
  Calls Tryz.prog 234 #[.slice a l.length c,.func (.func 181) #[] #[.pointer (some ⟨p,0,none⟩)]] w fun e w'=>e= .returned (.int .i64 (qp (xp nm) l))∧Below w.heap.size w w':=by
 go_enter Tryz.func234,Tryz.ntmps234
 go_wp2
 go_loopw [8] (fun i wr=>∃k:Nat,i= .int .i64 k∧k≤l.length∧Below w.heap.size w wr∧Hid (∀j (hj:j<l.length),j<k→(xp nm) l[j]=false)) (fun i _=>l.length-(intOf i).toNat)
 case atStart=>exact⟨0,rfl,Nat.zero_le _,Below.refl _ _,fun j _ h=>absurd h (Nat.not_lt_zero j)⟩
 case round=>
  obtain⟨k,rfl,hk,hB,H⟩:=hrel
  by_cases xl:k<l.length
  ·obtain⟨b,off,rfl,hb,hc⟩:=(h.below hB) k xl
   obtain⟨x0,x1,x2⟩:=hc k xl
   have mP:wr.cell? ⟨p,0,none⟩=some (.string nm):=(hB.cell (p:=⟨p,0,none⟩) zN).trans hp
   have rg:=Rk l[k] nm p wr mP (Nat.lt_of_lt_of_le zN hB.size)
   clear mP
   clear hc
   go_wp2_with fail
   refine rg.mono ?_
   clear rg
   rintro e w1 ⟨rfl,zM⟩
   have zT:=bt hB zM
   clear zM x0 x1 x2
   by_cases hq:(xp nm) l[k]=true
   ·have HR:Hid (qp (xp nm) l=k):=V9 xl H.out hq
    rw[hq]
    clear hq
    go_wp2
    go_ret
    exact⟨zE HR.out.symm,zT⟩
   ·have rU:(xp nm) l[k]=false:=by simpa using hq
    have HN:Hid (∀j (hj:j<l.length),j<k+1→(xp nm) l[j]=false):=fun j hj hjk=>by
     rcases Nat.lt_or_ge j k with h1|h1
     ·exact H.out j hj h1
     ·have:j=k:=by omega
      subst this
      exact rU
    rw[rU]
    clear hq rU
    go_wp2
    go_roundw
    case rel=>exact⟨k+1,by go_num,by omega,zT,HN⟩
    case measure=>simp[intOf];omega
  ·have HR:Hid (qp (xp nm) l= -1):=WO (fun j hj=>H.out j hj (by omega))
   go_wp2
   go_ret
   exact⟨zE HR.out.symm,hB⟩
theorem gO(a:Option Addr)(c:Nat)(l:List Up)(nm:ByteArray)(p:Nat)(w:World)(h:zx w a l)(hl:l.length≤9223372036854775807)(hp:w.cell? ⟨p,0,none⟩=some (.string nm))(zN:p<w.heap.size):
  Calls Tryz.prog 180 #[.slice a l.length c,.func (.func 181) #[] #[.pointer (some ⟨p,0,none⟩)]] w fun e w'=>e= .returned (.bool (l.any (xp nm)))∧Below w.heap.size w w':=by
 have HR:Hid (decide (0≤qp (xp nm) l)=l.any (xp nm)):=UO
 go_enter Tryz.func180,Tryz.ntmps180
 go_wp2_with fail
 refine(bm a c l nm p w h hl hp zN).mono ?_
 rintro e w1 ⟨rfl,hb⟩
 go_wp2
 go_ret
 exact⟨yI HR.out,hb⟩
theorem zJ{w:World}{q:Nat}{v:Value}{t:TypeId}(h:w.heap[q]? =some (.cells #[v] t)):w.cell? ⟨q,0,none⟩=some v:=by rw[cell_of_row w _ _ _ _ _ h];rfl
theorem zF{w:World}{q o:Nat}{cs:Array Value}{t:TypeId}(h:w.heap[q]? =some (.cells cs t)):w.frozen? ⟨q,o,none⟩=false:=by simp[World.frozen?,h]
theorem zQ{w:World}{q:Nat}{x0 x1 x2:Value}{t:TypeId}(h:w.heap[q]? =some (.cells #[x0,x1,x2] t)):w.cell? ⟨q,0,none⟩=some x0∧w.cell? ⟨q,1,none⟩=some x1∧w.cell? ⟨q,2,none⟩=some x2:=by
 refine⟨?_,?_,?_⟩<;>rw[cell_of_row w _ _ _ _ _ h]<;>rfl
theorem Mr(w:World)(base:Nat)(ty:TypeId)(v:Value)(n:Nat)(xs:List Value)(yj:w.ownsRow base 40 3 v n xs)(vb:Nat)(ys:Array Value)(hv:w.heap[vb]? =some (.cells ys 40))(fF:ys.size=3)
  (h2: ∀v∈ys.toList,v.oneCell'=true) (hn:n≤1000) (xq:base≤w.heap.size):
  ∃v' w',(Builtin.append_ #[26,26] ty #[v,.slice (some ⟨vb,0,none⟩) 1 1]).run Tryz.prog w= .ok v' w'∧w'.ownsRow base 40 3 v' (n+1) (xs++ys.toList)∧w.grownBy w' v.ownBlock:=by
 obtain⟨i0,sN,sW,xQ,pS⟩:=info_parts Tryz.info40
 have hl:ys.toList.length=1*3:=by rw[Array.length_toList,fF]
 have tA:=World.news_of_block hv
 obtain⟨v',w',hr,q1,q2,_⟩:=run_append_own (P:=Tryz.prog) w base 26 ty 40 i0 _ 3 32 Tryz.underlying26 sN sW xQ pS rfl (by omega) v n xs yj ⟨vb,0,none⟩ 1 1 ys.toList hl tA h2 (by unfold maxLen;omega) (by omega) xq
 exact⟨v',w',hr,q1,q2⟩
theorem sT{t:TypeId}{ops:Array Oper}{o:Oper}{a:Act}{w:World}{K:Act→World→Prop}{Q:Exit→Act→World→Prop}{E:Prop}(cG:o.guard=none)(d s:Operand)
  (ho:o.op= .call {callee:=.builtin .append,args:=#[d,s],argTypes:=#[t,t]}) (v u:Value) (hd:a.eval d=v) (hs:a.eval s=u) {v':Value} {w':World}
  (hr:(Builtin.append_ #[t,t] o.type #[v,u]).run Tryz.prog w= .ok v' w') (h:K (a.put o.dst v') w'):if Region.wanted o (yielded ops a.tmps)=true then Oper.wp Tryz.prog o a w K Q else E:=by
 have hw:Region.wanted o (yielded ops a.tmps)=true:=by simp[Region.wanted,cG]
 rw[if_pos hw]
 unfold Oper.wp execOp
 simp only[ho,resolve,invoke,builtin,Sem.run_bind,Sem.run_pure,Result.andThen_ok,List.map_toArray,List.map_cons,List.map_nil,hd,hs,hr]
 exact h
theorem uY{w:World}{base:Nat}{e:TypeId}{size:Nat}{v:Value}{n:Nat}{xs:List Value}(h:w.ownsRow base e size v n xs): ∃g m c,v= .slice g m c:=by
 rcases h.2 with⟨e,_⟩|⟨g,cap,_,e,_⟩
 ·exact⟨_,_,_,e⟩
 ·exact⟨_,_,_,e⟩
structure qy(w:World)(q:Nat)(v:Value)(l:List Up):Prop where
 blk:w.heap[q]? =some (.cells #[v] 165)
 own:w.ownsRow (q+1) 40 3 v l.length (tU l)
theorem qy.lt{w:World}{q:Nat}{v:Value}{l:List Up}(h:qy w q v l):q<w.heap.size:=zG h.blk
theorem qy.below{w w':World}{q:Nat}{v:Value}{l:List Up}(h:qy w q v l)(hb:Below w.heap.size w w'):qy w' q v l:=
 ⟨(hb.block q h.lt).trans h.blk,yi h.own (fun g hg=>hb.block g (h.own.lt g hg).2)⟩
theorem qy.next{w w1 w2:World}{q:Nat}{v v':Value}{l l':List Up}(h:qy w q v l)(hb:Below w.heap.size w w1)(hg:w1.grownBy w2 v.ownBlock)(ho:w2.ownsRow (q+1) 40 3 v' l'.length (tU l')):
  qy (w2.setCell ⟨q,0,none⟩ v') q v' l'∧Below q w (w2.setCell ⟨q,0,none⟩ v'):=by
 have h1:=h.below hb
 have qv:=h.lt
 have hpg: ∀k,v.ownBlock=some k→q<k∧k<w.heap.size:=fun k e=>by have:=h.own.lt k e;omega
 have EW:w2.heap[q]? =some (.cells #[v] 165):=(hg.block q h1.lt (fun e=>by have:=hpg q e.symm;omega)).trans h1.blk
 have Yc: ∀k,k≠q→(w2.setCell ⟨q,0,none⟩ v').heap[k]? =w2.heap[k]?:=fun k hk=>heap_setCell_other w2 ⟨q,0,none⟩ k v' hk
 have gB:(w2.setCell ⟨q,0,none⟩ v').heap.size=w2.heap.size:=World.size_setCell _ _ _
 have ZQ:=hb.size
 have mx:=hg.size
 refine⟨⟨?_,?_⟩,?_⟩
 ·have:=heap_setCell_same w2 q 0 #[v] 165 v' EW
  simpa using this
 ·exact yi ho (fun g e=>Yc g (by have:=(ho.lt g e).1;omega))
 ·refine⟨hg.os.trans hb.os,hg.tape.trans hb.tape,hg.output.trans hb.output,by omega,fun k hk=>?_⟩
  rw[Yc k (by omega),hg.block k (by omega) (fun e=>by have:=hpg k e.symm;omega)]
  exact hb.block k (by omega)
def rH(l:List Up)(u:Up):List Up:=if vf l u=0 then l++[u]else l
theorem pJ{l:List Up}{u:Up}{r:Int}(h:vf l u=r)(hr:r≠0):rH l u=l:=by unfold rH;rw[if_neg (fun e=>hr (h.symm.trans e))]
theorem dc{l:List Up}{u:Up}(h:vf l u=0):rH l u=l++[u]:=if_pos h
theorem NZ(q:Nat)(v:Value)(l:List Up)(u:Up)(w:World)(hg:xr w)(Q:qy w q v l)(hl:l.length≤900):
  Calls Tryz.prog 117 #[.pointer (some ⟨q,0,none⟩),u.val] w fun e w'=>∃v',e= .returned (.int .i64 (vf l u))∧qy w' q v' (rH l u)∧Below q w w':=by
 have Uk: ∀(fn:Fn) (first cap:Array Value) (w:World),(Instr.makeFunc fn first cap).run Tryz.prog w= .ok (.func fn first cap) w:=fun _ _ _ _=>rfl
 have hA:=zB w (.cells #[.string u.name,.int .i64 u.old,.int .i64 u.new] 40)
 have pF:=heap_alloc_new w (.cells #[.string u.name,.int .i64 u.old,.int .i64 u.new] 40)
 have HJ:Hid (vf l u=if yf u.name≠0 then yf u.name else if !(qj u.old)|| !(qj u.new)then 3 else if u.old=0∧u.new=0 then 1 else if l.any (xp u.name)then 6 else 0):=rfl
 have ac:=Q.lt
 go_enter Tryz.func117,Tryz.ntmps117
 go_wp2_with fail
 refine(cZ u.name _ (hg.below hA)).mono ?_
 rintro e w1 ⟨rfl,zM⟩
 have zT:=bt hA zM
 have mi:=zA5 zM pF
 have Q1:=Q.below zT
 have eO:w.heap.size<w1.heap.size:=zG mi
 have SF:v.ownBlock≠some w.heap.size:=fun e=>by have:=(Q.own.lt _ e).2;omega
 obtain⟨B,gN⟩: ∃B,B=w.heap.size:=⟨_,rfl⟩
 have hqB:q<B:=by omega
 rw[←gN]at mi eO SF
 rw[←gN]
 have Jb:=zT.mono (Nat.le_of_lt ac)
 clear hA pF zM zT gN hg ac
 obtain⟨y0,y1,y2⟩:=zQ mi
 by_cases k1:yf u.name=0
 case neg=>
  have HR:Hid (vf l u=yf u.name):=by unfold Hid;rw[HJ.out,if_pos k1]
  have HQ:Hid (rH l u=l):=pJ HR.out k1
  have z1:(yf u.name != 0)=true:=by simpa using k1
  clear k1
  go_wp2
  go_ret
  exact⟨v,zE HR.out.symm,by rw[HQ.out];exact Q1,Jb⟩
 have HJ1:Hid (vf l u=if !(qj u.old)|| !(qj u.new)then 3 else if u.old=0∧u.new=0 then 1 else if l.any (xp u.name)then 6 else 0):=by unfold Hid;rw[HJ.out,if_neg (fun e=>e k1)]
 rw[k1]
 clear k1 HJ
 by_cases k2:(!(qj u.old)|| !(qj u.new))=true
 ·have HR:Hid (vf l u=3):=by unfold Hid;rw[HJ1.out,if_pos k2]
  have HQ:Hid (rH l u=l):=pJ HR.out (by decide)
  cases k3:qj u.old with
  |false=>
   have hm:=nk u.old w1
   rw[k3]at hm
   clear k2 k3
   go_wp2_with (go_at_call 179;refine hm.mono ?_;rintro e w2 ⟨rfl,rfl⟩)
   go_ret
   exact⟨v,zE HR.out.symm,by rw[HQ.out];exact Q1,Jb⟩
  |true=>
   have k4:qj u.new=false:=by rw[k3]at k2;simpa using k2
   have hm:=nk u.old w1
   have hn:=nk u.new w1
   rw[k3]at hm
   rw[k4]at hn
   clear k2 k3 k4
   go_wp2_with fail
   refine hm.mono ?_
   rintro e w2 ⟨rfl,rfl⟩
   go_wp2_with fail
   refine hn.mono ?_
   rintro e w2 ⟨rfl,rfl⟩
   go_wp2
   go_ret
   exact⟨v,zE HR.out.symm,by rw[HQ.out];exact Q1,Jb⟩
 have Xl:Hid (vf l u=if u.old=0∧u.new=0 then 1 else if l.any (xp u.name)then 6 else 0):=by unfold Hid;rw[HJ1.out,if_neg k2]
 have hm:=nk u.old w1
 have hn:=nk u.new w1
 have k5:qj u.old=true∧qj u.new=true:=by
  cases h1:qj u.old<;>cases h2:qj u.new<;>simp[h1,h2]at k2⊢
 rw[k5.1]at hm
 rw[k5.2]at hn
 clear k2 k5 HJ1
 go_wp2_with fail
 refine hm.mono ?_
 clear hm
 rintro e w2 ⟨rfl,rfl⟩
 go_wp2_with fail
 refine hn.mono ?_
 clear hn
 rintro e w2 ⟨rfl,rfl⟩
 by_cases k6:u.old=0∧u.new=0
 ·have HR:Hid (vf l u=1):=by unfold Hid;rw[Xl.out,if_pos k6]
  have HQ:Hid (rH l u=l):=pJ HR.out (by decide)
  have z1:(u.old==0)=true:=by simpa using k6.1
  have z2:(u.new==0)=true:=by simpa using k6.2
  clear k6 Xl
  go_wp2
  go_ret
  exact⟨v,zE HR.out.symm,by rw[HQ.out];exact Q1,Jb⟩
 have Zk:Hid (vf l u=if l.any (xp u.name)then 6 else 0):=by unfold Hid;rw[Xl.out,if_neg k6]
 clear Xl
 have Jk:v.ownBlock≠some B:=fun e=>SF e
 clear SF
 obtain⟨a,c,hv,hh,ZY⟩:=pZ Q1.own
 subst hv
 have c0:=zJ Q1.blk
 have Ba:=gO a c l u.name B w2 hh (by omega) y0 eO
 -- the two zeros are not both
 have go: ∀(P:Prop),(∀b1 b2:Bool,(u.old==0)=b1→(u.new==0)=b2→(b1&&b2)=false→P)→P:=fun P h=>h _ _ rfl rfl (by
  cases h1:(u.old==0)with
  |false=>rfl
  |true=>
   cases h2:(u.new==0)with
   |false=>rfl
   |true=>exact absurd ⟨by simpa using h1,by simpa using h2⟩ k6)
 apply go
 intro b1 b2 z1 z2 z3
 clear go k6
 have fin: ∀(w3:World),Below w2.heap.size w2 w3→True:=fun _ _=>trivial
 clear fin
 cases b1 with
 |false=>
  clear z3
  go_wp2_with fail
  refine Ba.mono ?_
  clear Ba
  rintro e w3 ⟨rfl,yT⟩
  have Q3:=Q1.below yT
  have eD:=(yT.block _ eO).trans mi
  have Td:=Jb.trans (yT.mono (Nat.le_of_lt Q1.lt))
  have M6:=zG eD
  clear yT mi Jb eO Q1 y0 y1 y2 hh c0 z1 z2
  cases hq:l.any (xp u.name)with
  |true=>
   have HR:Hid (vf l u=6):=by unfold Hid;rw[Zk.out,if_pos hq]
   have HQ:Hid (rH l u=l):=pJ HR.out (by decide)
   clear hq Zk
   go_wp2
   go_ret
   exact⟨_,zE HR.out.symm,by rw[HQ.out];exact Q3,Td⟩
  |false=>
   have HR:Hid (vf l u=0):=by unfold Hid;rw[Zk.out,if_neg (by rw[hq];decide)]
   have HQ:Hid (rH l u=l++[u]):=dc HR.out
   clear hq Zk
   go_wp2_with fail
   have xF:=(Below.refl w3.heap.size w3).drew
   have QD:=Q3.below xF
   have jD:=(xF.block _ M6).trans eD
   have M0:=Td.trans (xF.mono (Nat.le_of_lt Q3.lt))
   clear Q3 eD Td xF M6
   refine zS (fun W=>W.heap[q]? =some (.cells #[.slice a l.length c] 165)∧W.heap[B]? =some (.cells #[.string u.name,.int .i64 u.old,.int .i64 u.new] 40)) (fun k=>k==10) (by kernel_rfl) ⟨QD.blk,jD⟩ (fun hS=>?_)
   generalize w3.drew=W0 at *
   refine zAA 0 ?_ rfl ?_ ?_;rotate_left
   ·intro w zD;have z:=zJ zD.1;obtain⟨z0,z1,z2⟩:=zQ zD.2;clear zD;go_simp;rfl
   try simp only[tn]
   refine zAA 1 ?_ rfl ?_ ?_;rotate_left
   ·intro w zD;have z:=zJ zD.1;obtain⟨z0,z1,z2⟩:=zQ zD.2;clear zD;go_simp;rfl
   try simp only[tn]
   refine zAA 2 ?_ rfl ?_ ?_;rotate_left
   ·intro w zD;have z:=zJ zD.1;obtain⟨z0,z1,z2⟩:=zQ zD.2;clear zD;go_simp;rfl
   try simp only[tn]
   refine zAA 3 ?_ rfl ?_ ?_;rotate_left
   ·intro w zD;have z:=zJ zD.1;obtain⟨z0,z1,z2⟩:=zQ zD.2;clear zD;go_simp;rfl
   try simp only[tn]
   refine zAA 4 ?_ rfl ?_ ?_;rotate_left
   ·intro w zD;have z:=zJ zD.1;obtain⟨z0,z1,z2⟩:=zQ zD.2;clear zD;go_simp;rfl
   try simp only[tn]
   refine zAA 5 ?_ rfl ?_ ?_;rotate_left
   ·intro w zD;have z:=zJ zD.1;obtain⟨z0,z1,z2⟩:=zQ zD.2;clear zD;go_simp;rfl
   try simp only[tn]
   refine zAC 6 rfl fun K hK=>?_
   go_simp
   obtain⟨W2,XC⟩: ∃W2,W2=W0.alloc (.cells #[.string u.name,.int .i64 u.old,.int .i64 u.new] 40):=⟨_,rfl⟩
   have zZ:Below W0.heap.size W0 W2:=by rw[XC];exact zB _ _
   have Mw:W2.heap[W0.heap.size]? =some (.cells #[.string u.name,.int .i64 u.old,.int .i64 u.new] 40):=by rw[XC];exact heap_alloc_new W0 _
   rw[←XC]
   clear XC
   have r8:W2.heap[q]? =some (.cells #[.slice a l.length c] 165)∧W2.heap[B]? =some (.cells #[.string u.name,.int .i64 u.old,.int .i64 u.new] 40):=⟨(zZ.block _ (zG hS.1)).trans hS.1,(zZ.block _ (zG hS.2)).trans hS.2⟩
   refine hK _ _ (fun _=>r8) ?_
   clear hK K hS
   try simp only[tn]
   refine zAC 7 rfl fun K hK=>?_
   have Q2:=QD.below zZ
   obtain⟨v',W3,b6,gA,Vh⟩:=Mr W2 (q+1) 26 _ l.length (tU l) Q2.own W0.heap.size _ Mw rfl (by intro u hu;simp only[List.mem_cons,List.not_mem_nil,or_false]at hu;rcases hu with rfl|rfl|rfl<;>rfl) (by omega) (by have:=Q2.lt;omega)
   obtain⟨g',m',c',rfl⟩:=uY gA
   refine sT (by rfl) (.tmp 43) (.tmp 45) (by rfl) _ _ (by rfl) (by rfl) b6 ?_
   have QE:some q≠(Value.slice a l.length c).ownBlock:=fun e=>by have:=(Q2.own.lt _ e.symm).1;omega
   have NE:some B≠(Value.slice a l.length c).ownBlock:=fun e=>Jk e.symm
   have T6:=(Vh.block _ Q2.lt QE).trans Q2.blk
   have tV:W3.heap[q]? =some (.cells #[.slice a l.length c] 165)∧W3.heap[B]? =some (.cells #[.string u.name,.int .i64 u.old,.int .i64 u.new] 40):=⟨T6,(Vh.block _ (zG r8.2) NE).trans r8.2⟩
   refine hK _ _ (fun _=>tV) ?_
   clear hK K r8 b6
   try simp only[tn]
   refine zAC 8 rfl fun K hK=>?_
   go_simp
   refine hK _ _ (fun _=>tV) ?_
   clear hK K
   try simp only[tn]
   refine zAC 9 rfl fun K hK=>?_
   go_simp
   refine hK _ _ (fun _=>tV) ?_
   clear hK K
   try simp only[tn]
   have zf:=zF (o:=0) tV.1
   have zc:=zJ tV.1
   clear tV
   refine zAC 10 rfl fun K hK=>?_
   go_simp
   refine hK _ _ (fun h=>by cases h) ?_
   clear hK K
   try simp only[tn]
   refine zAE ?_
   have NX:=QD.next (l':=l++[u]) zZ Vh (by rw[List.length_append,fL];exact gA)
   have Yt:=M0.trans NX.2
   have HN:Hid (_∧_):=⟨NX.1,Yt⟩
   clear NX Yt Vh gA QE NE T6 Mw zZ QD jD M0 zf zc Q2
   generalize W3.setCell ⟨q,0,none⟩ (.slice g' m' c')=W4 at *
   go_wp2
   go_ret
   exact⟨_,zE HR.out.symm,by rw[HQ.out];exact HN.out.1,HN.out.2⟩
 |true=>
  have z4:b2=false:=by simpa using z3
  subst z4
  clear z3
  go_wp2_with fail
  refine Ba.mono ?_
  clear Ba
  rintro e w3 ⟨rfl,yT⟩
  have Q3:=Q1.below yT
  have eD:=(yT.block _ eO).trans mi
  have Td:=Jb.trans (yT.mono (Nat.le_of_lt Q1.lt))
  have M6:=zG eD
  clear yT mi Jb eO Q1 y0 y1 y2 hh c0 z1 z2
  cases hq:l.any (xp u.name)with
  |true=>
   have HR:Hid (vf l u=6):=by unfold Hid;rw[Zk.out,if_pos hq]
   have HQ:Hid (rH l u=l):=pJ HR.out (by decide)
   clear hq Zk
   go_wp2
   go_ret
   exact⟨_,zE HR.out.symm,by rw[HQ.out];exact Q3,Td⟩
  |false=>
   have HR:Hid (vf l u=0):=by unfold Hid;rw[Zk.out,if_neg (by rw[hq];decide)]
   have HQ:Hid (rH l u=l++[u]):=dc HR.out
   clear hq Zk
   go_wp2_with fail
   have xF:=(Below.refl w3.heap.size w3).drew
   have QD:=Q3.below xF
   have jD:=(xF.block _ M6).trans eD
   have M0:=Td.trans (xF.mono (Nat.le_of_lt Q3.lt))
   clear Q3 eD Td xF M6
   refine zS (fun W=>W.heap[q]? =some (.cells #[.slice a l.length c] 165)∧W.heap[B]? =some (.cells #[.string u.name,.int .i64 u.old,.int .i64 u.new] 40)) (fun k=>k==10) (by kernel_rfl) ⟨QD.blk,jD⟩ (fun hS=>?_)
   generalize w3.drew=W0 at *
   refine zAA 0 ?_ rfl ?_ ?_;rotate_left
   ·intro w zD;have z:=zJ zD.1;obtain⟨z0,z1,z2⟩:=zQ zD.2;clear zD;go_simp;rfl
   try simp only[tn]
   refine zAA 1 ?_ rfl ?_ ?_;rotate_left
   ·intro w zD;have z:=zJ zD.1;obtain⟨z0,z1,z2⟩:=zQ zD.2;clear zD;go_simp;rfl
   try simp only[tn]
   refine zAA 2 ?_ rfl ?_ ?_;rotate_left
   ·intro w zD;have z:=zJ zD.1;obtain⟨z0,z1,z2⟩:=zQ zD.2;clear zD;go_simp;rfl
   try simp only[tn]
   refine zAA 3 ?_ rfl ?_ ?_;rotate_left
   ·intro w zD;have z:=zJ zD.1;obtain⟨z0,z1,z2⟩:=zQ zD.2;clear zD;go_simp;rfl
   try simp only[tn]
   refine zAA 4 ?_ rfl ?_ ?_;rotate_left
   ·intro w zD;have z:=zJ zD.1;obtain⟨z0,z1,z2⟩:=zQ zD.2;clear zD;go_simp;rfl
   try simp only[tn]
   refine zAA 5 ?_ rfl ?_ ?_;rotate_left
   ·intro w zD;have z:=zJ zD.1;obtain⟨z0,z1,z2⟩:=zQ zD.2;clear zD;go_simp;rfl
   try simp only[tn]
   refine zAC 6 rfl fun K hK=>?_
   go_simp
   obtain⟨W2,XC⟩: ∃W2,W2=W0.alloc (.cells #[.string u.name,.int .i64 u.old,.int .i64 u.new] 40):=⟨_,rfl⟩
   have zZ:Below W0.heap.size W0 W2:=by rw[XC];exact zB _ _
   have Mw:W2.heap[W0.heap.size]? =some (.cells #[.string u.name,.int .i64 u.old,.int .i64 u.new] 40):=by rw[XC];exact heap_alloc_new W0 _
   rw[←XC]
   clear XC
   have r8:W2.heap[q]? =some (.cells #[.slice a l.length c] 165)∧W2.heap[B]? =some (.cells #[.string u.name,.int .i64 u.old,.int .i64 u.new] 40):=⟨(zZ.block _ (zG hS.1)).trans hS.1,(zZ.block _ (zG hS.2)).trans hS.2⟩
   refine hK _ _ (fun _=>r8) ?_
   clear hK K hS
   try simp only[tn]
   refine zAC 7 rfl fun K hK=>?_
   have Q2:=QD.below zZ
   obtain⟨v',W3,b6,gA,Vh⟩:=Mr W2 (q+1) 26 _ l.length (tU l) Q2.own W0.heap.size _ Mw rfl (by intro u hu;simp only[List.mem_cons,List.not_mem_nil,or_false]at hu;rcases hu with rfl|rfl|rfl<;>rfl) (by omega) (by have:=Q2.lt;omega)
   obtain⟨g',m',c',rfl⟩:=uY gA
   refine sT (by rfl) (.tmp 43) (.tmp 45) (by rfl) _ _ (by rfl) (by rfl) b6 ?_
   have QE:some q≠(Value.slice a l.length c).ownBlock:=fun e=>by have:=(Q2.own.lt _ e.symm).1;omega
   have NE:some B≠(Value.slice a l.length c).ownBlock:=fun e=>Jk e.symm
   have T6:=(Vh.block _ Q2.lt QE).trans Q2.blk
   have tV:W3.heap[q]? =some (.cells #[.slice a l.length c] 165)∧W3.heap[B]? =some (.cells #[.string u.name,.int .i64 u.old,.int .i64 u.new] 40):=⟨T6,(Vh.block _ (zG r8.2) NE).trans r8.2⟩
   refine hK _ _ (fun _=>tV) ?_
   clear hK K r8 b6
   try simp only[tn]
   refine zAC 8 rfl fun K hK=>?_
   go_simp
   refine hK _ _ (fun _=>tV) ?_
   clear hK K
   try simp only[tn]
   refine zAC 9 rfl fun K hK=>?_
   go_simp
   refine hK _ _ (fun _=>tV) ?_
   clear hK K
   try simp only[tn]
   have zf:=zF (o:=0) tV.1
   have zc:=zJ tV.1
   clear tV
   refine zAC 10 rfl fun K hK=>?_
   go_simp
   refine hK _ _ (fun h=>by cases h) ?_
   clear hK K
   try simp only[tn]
   refine zAE ?_
   have NX:=QD.next (l':=l++[u]) zZ Vh (by rw[List.length_append,fL];exact gA)
   have Yt:=M0.trans NX.2
   have HN:Hid (_∧_):=⟨NX.1,Yt⟩
   clear NX Yt Vh gA QE NE T6 Mw zZ QD jD M0 zf zc Q2
   generalize W3.setCell ⟨q,0,none⟩ (.slice g' m' c')=W4 at *
   go_wp2
   go_ret
   exact⟨_,zE HR.out.symm,by rw[HQ.out];exact HN.out.1,HN.out.2⟩
theorem FO{l m:List Up}{k:Nat}{r:Int}(hk:k<m.length)(H:r=uu l (m.drop k))(h:vf l m[k]≠0):r=vf l m[k]:=by
 rw[H,List.drop_eq_getElem_cons hk,uu,if_pos h]
theorem JT{l m:List Up}{k:Nat}{r:Int}(hk:k<m.length)(H:r=uu l (m.drop k))(h:vf l m[k]=0):r=uu (rH l m[k]) (m.drop (k+1)):=by
 rw[H,List.drop_eq_getElem_cons hk,uu,if_neg (fun e=>e h),dc h]
theorem DB{l m:List Up}{k:Nat}{r:Int}(hk: ¬k<m.length)(H:r=uu l (m.drop k)):r=0:=by
 rw[H,List.drop_of_length_le (by omega)];rfl
theorem Yv(l:List Up)(u:Up):(rH l u).length≤l.length+1:=by
 unfold rH;split
 ·simp
 ·omega
theorem Qm(a:Option Addr)(c:Nat)(us:List Up)(q:Nat)(v0:Value)(w0 w:World)(hg:xr w0)(h:zx w0 a us)(hB:Below w0.heap.size w0 w)(hp:w0.heap.size≤q)(Q0:qy w q v0 [])(hl:us.length≤900):
  Calls Tryz.prog 71 #[.slice a us.length c,.func (.func 117) #[.pointer (some ⟨q,0,none⟩)] #[]] w fun e w'=>e= .returned (.int .i64 (uu [] us))∧Below w0.heap.size w0 w':=by
 have CV:us.length≤9223372036854775807:=by omega
 go_enter Tryz.func71,Tryz.ntmps71
 go_wp2
 go_loopw [10] (fun i wr=>∃(k:Nat) (v:Value) (l:List Up),i= .int .i64 k∧k≤us.length∧l.length≤k∧qy wr q v l∧Below w0.heap.size w0 wr∧Hid (uu [] us=uu l (us.drop k))) (fun i _=>us.length-(intOf i).toNat)
 case atStart=>exact⟨0,v0,[],rfl,Nat.zero_le _,Nat.le_refl _,Q0,hB,rfl⟩
 case round=>
  clear Q0
  obtain⟨k,v,l,rfl,hk,hLk,QH,vH,H⟩:=hrel
  by_cases zN:k<us.length
  ·obtain⟨b,off,rfl,hb,hc⟩:=(h.below vH) k zN
   obtain⟨y0,y1,y2⟩:=hc k zN
   clear hc
   have hA:=zB wr (.cells #[.string us[k].name,.int .i64 us[k].old,.int .i64 us[k].new] 40)
   have mq:=bt vH hA
   go_wp2_with fail
   refine(NZ q v l us[k] _ (hg.below mq) (QH.below hA) (by omega)).mono ?_
   rintro e w1 ⟨v',rfl,Q1,zM⟩
   have zT:=mq.trans (zM.mono hp)
   have Lb:Hid ((rH l us[k]).length≤k+1):=by have:=Yv l us[k];unfold Hid;omega
   clear zM hA y0 y1 y2 vH QH mq
   by_cases hz:vf l us[k]=0
   ·have HN:Hid (uu [] us=uu (rH l us[k]) (us.drop (k+1))):=JT zN H.out hz
    rw[hz]
    clear hz
    go_wp2
    go_roundw
    case rel=>exact⟨k+1,v',_,by go_num,by omega,Lb.out,Q1,zT,HN⟩
    case measure=>simp[intOf];omega
   ·have HR:Hid (uu [] us=vf l us[k]):=FO zN H.out hz
    have CW:(vf l us[k] != 0)=true:=by simpa using hz
    clear hz
    go_wp2
    go_ret
    exact⟨zE HR.out.symm,zT⟩
  ·have HR:Hid (uu [] us=0):=DB zN H.out
   go_wp2
   go_ret
   exact⟨zE HR.out.symm,vH⟩
theorem m8(a:Option Addr)(c:Nat)(us:List Up)(w:World)(hg:xr w)(h:zx w a us)(hl:us.length≤9223372036854775807):
  Calls Tryz.prog 66 #[.slice a us.length c] w fun e w'=>e= .returned (.int .i64 (yd us))∧Below w.heap.size w w':=by
 have Uk: ∀(fn:Fn) (first cap:Array Value) (w:World),(Instr.makeFunc fn first cap).run Tryz.prog w= .ok (.func fn first cap) w:=fun _ _ _ _=>rfl
 by_cases h0:us.length=0
 ·have HR:Hid (5=yd us):=by unfold Hid yd;rw[if_pos h0]
  rw[h0]
  clear h0 hl
  go_enter Tryz.func66,Tryz.ntmps66
  go_wp2
  go_ret
  exact⟨zE HR.out,Below.refl _ _⟩
 by_cases h4:4<us.length
 ·have HR:Hid (2=yd us):=by unfold Hid yd;rw[if_neg h0,if_pos h4]
  have z0:((us.length:Int)==0)=false:=by rw[beq_eq_false_iff_ne];omega
  have z1:(4:Int)<(us.length:Int):=by omega
  clear h0 h4
  go_enter Tryz.func66,Tryz.ntmps66
  go_wp2
  go_ret
  exact⟨zE HR.out,Below.refl _ _⟩
 have HR:Hid (uu [] us=yd us):=by unfold Hid yd;rw[if_neg h0,if_neg h4]
 have z0:((us.length:Int)==0)=false:=by rw[beq_eq_false_iff_ne];omega
 have z1: ¬(4:Int)<(us.length:Int):=by omega
 have h9:us.length≤900:=by omega
 have hA:=zB w (.cells #[.slice none 0 0] 165)
 have Q0:qy (w.alloc (.cells #[.slice none 0 0] 165)) w.heap.size (.slice none 0 0) []:=⟨heap_alloc_new w _,World.ownsRow_nil _ _ _ _⟩
 have hej:=Qm a c us w.heap.size _ w _ hg h hA (Nat.le_refl _) Q0 h9
 clear h0 h4 Q0 h9 hA
 go_enter Tryz.func66,Tryz.ntmps66
 go_wp2_with fail
 refine hej.mono ?_
 clear hej
 rintro e w1 ⟨rfl,hb⟩
 go_wp2
 go_ret
 exact⟨zE HR.out,hb⟩
theorem fQ(x:Rf)(nm:ByteArray)(p:Nat)(w:World)(hp:w.cell? ⟨p,0,none⟩=some (.string nm))(zN:p<w.heap.size):
  Calls Tryz.prog 184 #[x.val,.pointer (some ⟨p,0,none⟩)] w fun e w'=>e= .returned (.bool (yt nm x))∧Below w.heap.size w w':=by
 go_enter Tryz.func184,Tryz.ntmps184
 go_wp2
 go_ret
 exact⟨rfl,zB _ _⟩
theorem fo(a:Option Addr)(c:Nat)(l:List Rf)(nm:ByteArray)(p:Nat)(w:World)(h:yU w a l)(hl:l.length≤9223372036854775807)(hp:w.cell? ⟨p,0,none⟩=some (.string nm))(zN:p<w.heap.size):
  Calls Tryz.prog 109 #[.slice a l.length c,.func (.func 184) #[] #[.pointer (some ⟨p,0,none⟩)]] w fun e w'=>e= .returned (.int .i64 (xV (yt nm) l))∧Below w.heap.size w w':=by
 go_enter Tryz.func109,Tryz.ntmps109
 go_wp2
 go_loopw [8] (fun i wr=>∃k:Nat,i= .int .i64 k∧k≤l.length∧Below w.heap.size w wr∧Hid (∀j (hj:j<l.length),j<k→(yt nm) l[j]=false)) (fun i _=>l.length-(intOf i).toNat)
 case atStart=>exact⟨0,rfl,Nat.zero_le _,Below.refl _ _,fun j _ h=>absurd h (Nat.not_lt_zero j)⟩
 case round=>
  obtain⟨k,rfl,hk,hB,H⟩:=hrel
  by_cases xl:k<l.length
  ·obtain⟨b,off,rfl,hb,hc⟩:=(h.below hB) k xl
   obtain⟨x0,x1⟩:=hc k xl
   have mP:wr.cell? ⟨p,0,none⟩=some (.string nm):=(hB.cell (p:=⟨p,0,none⟩) zN).trans hp
   have rg:=fQ l[k] nm p wr mP (Nat.lt_of_lt_of_le zN hB.size)
   clear mP
   clear hc
   go_wp2_with fail
   refine rg.mono ?_
   clear rg
   rintro e w1 ⟨rfl,zM⟩
   have zT:=bt hB zM
   clear zM x0 x1
   by_cases hq:(yt nm) l[k]=true
   ·have HR:Hid (xV (yt nm) l=k):=qC xl H.out hq
    rw[hq]
    clear hq
    go_wp2
    go_ret
    exact⟨zE HR.out.symm,zT⟩
   ·have rU:(yt nm) l[k]=false:=by simpa using hq
    have HN:Hid (∀j (hj:j<l.length),j<k+1→(yt nm) l[j]=false):=fun j hj hjk=>by
     rcases Nat.lt_or_ge j k with h1|h1
     ·exact H.out j hj h1
     ·have:j=k:=by omega
      subst this
      exact rU
    rw[rU]
    clear hq rU
    go_wp2
    go_roundw
    case rel=>exact⟨k+1,by go_num,by omega,zT,HN⟩
    case measure=>simp[intOf];omega
  ·have HR:Hid (xV (yt nm) l= -1):=sr (fun j hj=>H.out j hj (by omega))
   go_wp2
   go_ret
   exact⟨zE HR.out.symm,hB⟩
theorem QT(A:List Rf)(i:Nat)(hi:i≤A.length):(xM A).take (i*2)=xM (A.take i):=by
 have h:=sj (A.take i) (A.drop i)
 rw[List.take_append_drop]at h
 rw[h,List.take_append_of_le_length (by rw[va,List.length_take];omega),List.take_of_length_le (by rw[va,List.length_take];omega)]
theorem mr: ∀(zs:List Value) (o:Nat) (w:World) (g:Nat),(w.setCells g o zs).os=w.os∧(w.setCells g o zs).tape=w.tape∧(w.setCells g o zs).output=w.output∧(w.setCells g o zs).heap.size=w.heap.size∧∀k,k≠g→(w.setCells g o zs).heap[k]? =w.heap[k]?
 |[],_,_,_=>⟨rfl,rfl,rfl,rfl,fun _ _=>rfl⟩
 |z::zs,o,w,g=>by
  obtain⟨h1,h2,h3,h4,h5⟩:=mr zs (o+1) (w.setCell ⟨g,o,none⟩ z) g
  rw[World.setCells]
  exact⟨h1,h2,h3,h4.trans (World.size_setCell _ _ _),fun k hk=>(h5 k hk).trans (heap_setCell_other w ⟨g,o,none⟩ k z hk)⟩
theorem jJ: ∀(zs:List Value) (o:Nat) (w:World) (g:Nat) (cur:Array Value) (t:TypeId),w.heap[g]? =some (.cells cur t)→∃sw,(w.setCells g o zs).heap[g]? =some (.cells sw t)∧sw.size=cur.size∧∀k,k<o→sw[k]? =cur[k]?
 |[],_,_,_,cur,_,h=>⟨cur,h,rfl,fun _ _=>rfl⟩
 |z::zs,o,w,g,cur,t,h=>by
  obtain⟨sw,h1,h2,h3⟩:=jJ zs (o+1) (w.setCell ⟨g,o,none⟩ z) g _ t (heap_setCell_same w g o cur t z h)
  refine⟨sw,h1,by rw[h2];simp,fun k hk=>?_⟩
  rw[h3 k (by omega),Array.getElem?_setIfInBounds_ne (by omega)]
theorem du(w:World)(g o n c:Nat)(hn:0<n)(cur:Array Value)(hg:w.heap[g]? =some (.cells cur 65))(hs:o+n*2≤cur.size):
  ∃zs:List Value,∀ty,(Builtin.clear_ #[34] ty #[.slice (some ⟨g,o,none⟩) n c]).run Tryz.prog w= .ok (.tuple #[]) (w.setCells g o zs):=by
 obtain⟨m,rfl⟩: ∃m,n=m+1:=⟨n-1,by omega⟩
 refine⟨(Builtin.zeroCells #[.string {data:=#[]},.int .i64 0] (m+1)).toList,fun ty=>?_⟩
 have hlen:(Builtin.zeroCells #[Value.string {data:=#[]},.int .i64 0] (m+1)).toList.length=(m+1)*2:=by simp[Builtin.zeroCells]
 have nO:=run_storeCells_cells (P:=Tryz.prog) g o (Builtin.zeroCells #[.string {data:=#[]},.int .i64 0] (m+1)).toList 0 w
  (by intro j hj;rw[hlen]at hj;rw[cell_of_row w _ _ _ _ _ hg,Array.getElem?_eq_getElem (by omega)];rfl) (by intro j hj;exact zF hg)
  (by
   intro v hv
   simp only[Builtin.zeroCells,Array.toList_map,List.mem_map,Array.mem_toList_iff,Array.mem_range]at hv
   obtain⟨i,_,rfl⟩:=hv
   have:i%2=0∨i%2=1:=by omega
   rcases this with e|e
   ·show((#[Value.string {data:= #[]}, .int .i64 0]:Array Value)[i%2]!).oneCell'=true
    rw[e];rfl
   ·show((#[Value.string {data:= #[]}, .int .i64 0]:Array Value)[i%2]!).oneCell'=true
    rw[e];rfl)
 simp only[Nat.add_zero]at nO
 have hz:(Value.agg #[Value.string {data:=#[]},.int .i64 0]).cells= #[Value.string {data:=#[]},.int .i64 0]:=rfl
 simp[Builtin.clear_,run_underlying Tryz.underlying34,Tryz.zeroValue65,hz,nO]
structure X6(w0:World)(base g cap:Nat)(l:List Rf)(nm:ByteArray)(i j:Nat)(w:World):Prop where
 row: ∃cur,w.heap[g]? =some (.cells cur 65)∧cur.size=cap*2∧cur.toList.take (i*2)=xM (xP (l.take j) nm)∧∀k (hk:k<l.length),j≤k→cur[k*2]? =some (.string l[k].name)∧cur[k*2+1]? =some (.int .i64 l[k].id)
 len:(xP (l.take j) nm).length=i
 lt:i<j
 le:j≤l.length
 grown:w0.grownBy w (some g)
theorem X6.below{w0 w w':World}{base g cap:Nat}{l:List Rf}{nm:ByteArray}{i j:Nat}(h:X6 w0 base g cap l nm i j w)(hb:Below w.heap.size w w'):X6 w0 base g cap l nm i j w':=by
 obtain⟨cur,h1,h2,h3,h4⟩:=h.row
 have hs:=h.grown.size
 exact⟨⟨cur,(hb.block g (zG h1)).trans h1,h2,h3,h4⟩,h.len,h.lt,h.le,⟨hb.os.trans h.grown.os,hb.tape.trans h.grown.tape,hb.output.trans h.grown.output,Nat.le_trans hs hb.size,fun k hk yM=>(hb.block k (by omega)).trans (h.grown.block k hk yM)⟩⟩
theorem X6.cells{w0 w:World}{base g cap:Nat}{l:List Rf}{nm:ByteArray}{i j:Nat}(h:X6 w0 base g cap l nm i j w){k:Nat}(hk:k<l.length)(hjk:j≤k):w.cell? ⟨g,k*2,none⟩=some (.string l[k].name)∧w.cell? ⟨g,k*2+1,none⟩=some (.int .i64 l[k].id):=by
 obtain⟨cur,h1,h2,h3,h4⟩:=h.row
 obtain⟨c0,c1⟩:=h4 k hk hjk
 refine⟨?_,?_⟩<;>rw[cell_of_row w _ _ _ _ _ h1]
 ·exact c0
 ·exact c1
theorem X6.room{w0 w:World}{base g cap:Nat}{l:List Rf}{nm:ByteArray}{i j:Nat}(h:X6 w0 base g cap l nm i j w)(hc:l.length≤cap):(∃x,w.cell? ⟨g,i*2,none⟩=some x)∧(∃x,w.cell? ⟨g,i*2+1,none⟩=some x)∧w.frozen? ⟨g,i*2,none⟩=false∧w.frozen? ⟨g,i*2+1,none⟩=false:=by
 obtain⟨cur,h1,h2,h3,h4⟩:=h.row
 have h5:=h.lt
 have h6:=h.le
 refine⟨⟨cur[i*2]'(by omega),?_⟩,⟨cur[i*2+1]'(by omega),?_⟩,zF h1,zF h1⟩
 ·rw[cell_of_row w _ _ _ _ _ h1];simp
 ·rw[cell_of_row w _ _ _ _ _ h1];simp
theorem kG{l:List Rf}{nm:ByteArray}{j:Nat}(hj:j<l.length):xP (l.take (j+1)) nm=xP (l.take j) nm++(if yt nm l[j]=true then []else [l[j]]):=by
 unfold xP
 rw[List.take_succ_eq_append_getElem hj,List.filter_append]
 congr 1
 cases h:yt nm l[j]<;>simp[List.filter,h]
theorem X6.skip{w0 w:World}{base g cap:Nat}{l:List Rf}{nm:ByteArray}{i j:Nat}(h:X6 w0 base g cap l nm i j w)(hj:j<l.length)(hs:yt nm l[j]=true):X6 w0 base g cap l nm i (j+1) w:=by
 have e:xP (l.take (j+1)) nm=xP (l.take j) nm:=by rw[kG hj,if_pos hs,List.append_nil]
 obtain⟨cur,h1,h2,h3,h4⟩:=h.row
 have:=h.lt
 exact⟨⟨cur,h1,h2,by rw[e];exact h3,fun k hk hjk=>h4 k hk (by omega)⟩,by rw[e];exact h.len,by omega,by omega,h.grown⟩
theorem X6.keep{w0 w:World}{base g cap:Nat}{l:List Rf}{nm:ByteArray}{i j:Nat}(h:X6 w0 base g cap l nm i j w)(hj:j<l.length)(hc:l.length≤cap)(hs:yt nm l[j]=false):
  X6 w0 base g cap l nm (i+1) (j+1) ((w.setCell ⟨g,i*2,none⟩ (.string l[j].name)).setCell ⟨g,i*2+1,none⟩ (.int .i64 l[j].id)):=by
 have e:xP (l.take (j+1)) nm=xP (l.take j) nm++[l[j]]:=by rw[kG hj,if_neg (by rw[hs];decide)]
 obtain⟨cur,h1,h2,h3,h4⟩:=h.row
 have nZ:=h.lt
 have q1:=heap_setCell_same w g (i*2) cur 65 (.string l[j].name) h1
 have q2:=heap_setCell_same _ g (i*2+1) _ 65 (.int .i64 l[j].id) q1
 refine⟨⟨_,q2,by simp[h2],?_,fun k hk hjk=>?_⟩,by rw[e,List.length_append,h.len];rfl,by omega,by omega,?_⟩
 ·rw[e,sj,←h3]
  have hL:cur.toList.length=cap*2:=by rw[Array.length_toList,h2]
  simp only[Array.toList_setIfInBounds]
  apply List.ext_getElem?
  intro t
  rw[List.getElem?_take,List.getElem?_append]
  have hlen:(cur.toList.take (i*2)).length=i*2:=by rw[List.length_take,hL];omega
  rw[hlen]
  by_cases c0:t<i*2
  ·rw[if_pos (by omega),if_pos c0,List.getElem?_set_ne (by omega),List.getElem?_set_ne (by omega),List.getElem?_take,if_pos c0]
  ·rw[if_neg c0]
   by_cases c1:t<(i+1)*2
   ·rw[if_pos c1]
    have:t=i*2∨t=i*2+1:=by omega
    rcases this with rfl|rfl
    ·rw[List.getElem?_set_ne (by omega),List.getElem?_set_self (by rw[hL];omega)]
     simp[xM,Rf.cells]
    ·rw[List.getElem?_set_self (by rw[List.length_set,hL];omega)]
     simp[xM,Rf.cells]
   ·rw[if_neg c1,List.getElem?_eq_none (by simp[xM,Rf.cells];omega)]
 ·obtain⟨c0,c1⟩:=h4 k hk (by omega)
  rw[Array.getElem?_setIfInBounds_ne (by omega),Array.getElem?_setIfInBounds_ne (by omega),Array.getElem?_setIfInBounds_ne (by omega),Array.getElem?_setIfInBounds_ne (by omega)]
  exact⟨c0,c1⟩
 ·have hg:=h.grown
  refine⟨hg.os,hg.tape,hg.output,by simpa using hg.size,fun k hk yM=>?_⟩
  have hkg:k≠g:=fun e=>yM (by rw[e])
  rw[heap_setCell_other _ ⟨g,i*2+1,none⟩ k _ hkg,heap_setCell_other _ ⟨g,i*2,none⟩ k _ hkg]
  exact hg.block k hk yM
theorem dH{l:List Rf}{nm:ByteArray}(h: ∀x∈l,yt nm x=false):xP l nm=l:=by
 unfold xP
 rw[List.filter_eq_self]
 intro x hx
 rw[h x hx];rfl
theorem X8{l:List Rf}{nm:ByteArray}{i:Nat}(hi:i<l.length)(h1:yt nm l[i]=true)(h2: ∀j (hj:j<l.length),j<i→yt nm l[j]=false):xP (l.take (i+1)) nm=l.take i:=by
 rw[kG hi,if_pos h1,List.append_nil]
 refine dH fun x hx=>?_
 obtain⟨j,hj,rfl⟩:=List.getElem_of_mem hx
 rw[List.length_take]at hj
 rw[List.getElem_take]
 exact h2 j (by omega) (by omega)
def Yz(base:Nat)(v:Value)(l:List Rf)(nm:ByteArray)(w:World)(e:Ending)(w':World):Prop:=
 ∃v',e= .returned v'∧w'.ownsRow base 65 2 v' (xP l nm).length (xM (xP l nm))∧w.grownBy w' v.ownBlock∧v'.ownBlock=v.ownBlock
theorem fU{w w':World}{row:Option Nat}(h:Below w.heap.size w w'):w.grownBy w' row:=⟨h.os,h.tape,h.output,h.size,fun k hk _=>h.block k hk⟩
theorem Uw(base:Nat)(v:Value)(l:List Rf)(nm:ByteArray)(p:Nat)(w:World)(yj:w.ownsRow base 65 2 v l.length (xM l))(hp:w.cell? ⟨p,0,none⟩=some (.string nm))(zN:p<w.heap.size)(yM:v.ownBlock≠some p)(hl:l.length≤900):
  Calls Tryz.prog 183 #[v,.func (.func 184) #[] #[.pointer (some ⟨p,0,none⟩)]] w (Yz base v l nm w):=by
 obtain⟨a,c,hv,hh⟩:=qJ yj
 have HO:Hid (w.ownsRow base 65 2 v l.length (xM l)):=yj
 clear yj
 have LX:=fo a c l nm p w hh (by omega) hp zN
 rcases ug (yt nm) l with⟨e1,UB⟩|⟨i0,e1,sN,ht,UB⟩
 ·have HD:Hid (xP l nm=l):=dH UB
  rw[e1]at LX
  subst hv
  clear UB e1 hh
  go_enter Tryz.func183,Tryz.ntmps183
  go_wp2_with fail
  refine LX.mono ?_
  clear LX
  rintro e w1 ⟨rfl,hb⟩
  have HF:Hid (Yz base (.slice a l.length c) l nm w (.returned (.slice a l.length c)) w1):=⟨_,rfl,by rw[HD.out];exact yi HO.out (fun g hg=>hb.block g (HO.out.lt g hg).2),fU hb,rfl⟩
  clear hb HO
  go_wp2
  go_ret
  exact HF.out
 rw[e1]at LX
 obtain⟨g,cap,cur,Mw,q1,q2,q3,q4,q5,q6⟩: ∃g cap cur,v= .slice (some ⟨g,0,none⟩) l.length cap∧base≤g∧w.heap[g]? =some (.cells cur 65 (0,0))∧l.length≤cap∧cap≤maxLen∧cur.size=cap*2∧cur.toList.take (l.length*2)=xM l:=by
  rcases HO.out.2 with⟨_,e⟩|h
  ·omega
  ·exact h
 rw[Mw]at hv
 have hac:a=some ⟨g,0,none⟩∧cap=c:=by cases hv;exact⟨rfl,rfl⟩
 obtain⟨rfl,rfl⟩:=hac
 clear hv
 subst Mw
 have Nw:g≠p:=fun e=>yM (by rw[e];rfl)
 have Z4: ∀k (hk:k<l.length),cur[k*2]? =some (.string l[k].name)∧cur[k*2+1]? =some (.int .i64 l[k].id):=fun k hk=>by
  have hc: ∀j,j<2→cur[k*2+j]? =(l[k].cells)[j]?:=fun j hj=>by
   rw[←pC l k j hk hj,←q6,List.getElem?_take,if_pos (by omega)]
   simp
  exact⟨by simpa[Rf.cells]using hc 0 (by omega),by simpa[Rf.cells]using hc 1 (by omega)⟩
 have D0:X6 w base g cap l nm i0 (i0+1) w:=by
  have e:=X8 sN ht UB
  refine⟨⟨cur,q2,q5,?_,fun k hk _=>Z4 k hk⟩,by rw[e,List.length_take];omega,by omega,by omega,fU (Below.refl _ _)⟩
  rw[e,←QT l i0 (by omega),←q6,List.take_take]
  congr 1;omega
 have HG:Hid (base≤g):=q1
 have uO:(l.length:Int)≤(cap:Int):=by omega
 have Jd:l.length≤cap:=q3
 have HC:Hid (cap≤maxLen):=q4
 have Ms:((i0:Int)== -1)=false:=by rw[beq_eq_false_iff_ne];omega
 have zT7:(l.length:Int)≤9223372036854775807:=by omega
 clear Z4 q1 q2 q3 q4 q5 q6 hh e1 ht UB HO yM
 go_enter Tryz.func183,Tryz.ntmps183
 go_wp2_with fail
 refine LX.mono ?_
 clear LX
 rintro e w1 ⟨rfl,hb⟩
 have D1:=D0.below hb
 have Zb:=(hb.cell (p:=⟨p,0,none⟩) zN).trans hp
 have Xj:=Nat.lt_of_lt_of_le zN hb.size
 clear D0 hb hp zN
 go_wp2
 go_loopw [5,6,7] (fun s5 s6 _ wr=>∃i j:Nat,s5= .int .i64 i∧s6= .int .i64 j∧X6 w base g cap l nm i j wr∧wr.cell? ⟨p,0,none⟩=some (.string nm)∧p<wr.heap.size) (fun _ s6 _ _=>l.length-(intOf s6).toNat)
 case atStart=>exact⟨i0,i0+1,rfl,by go_num,D1,Zb,Xj⟩
 case round=>
  clear D1 Zb Xj Ms sN
  obtain⟨i,j,rfl,rfl,D,mP,qv⟩:=hrel
  have nZ:=D.lt
  have bZ:=D.le
  by_cases hj:j<l.length
  ·obtain⟨x0,x1⟩:=D.cells hj (Nat.le_refl _)
   have j8:(j:Int)<(l.length:Int):=by omega
   have Y5:(i:Int)<(l.length:Int):=by omega
   have hA:=zB wr (.cells #[.string l[j].name,.int .i64 l[j].id] 65)
   have pF:=heap_alloc_new wr (.cells #[.string l[j].name,.int .i64 l[j].id] 65)
   have DA:=D.below hA
   have rg:=fQ l[j] nm p (wr.alloc (.cells #[.string l[j].name,.int .i64 l[j].id] 65)) ((hA.cell (p:=⟨p,0,none⟩) qv).trans mP) (Nat.lt_of_lt_of_le qv hA.size)
   have hpA:=(hA.cell (p:=⟨p,0,none⟩) qv).trans mP
   have EO:=Nat.lt_of_lt_of_le qv hA.size
   clear hA D mP
   go_wp2_with fail
   refine rg.mono ?_
   clear rg
   rintro e w3 ⟨rfl,yT⟩
   have D3:=DA.below yT
   have eD:=zA5 yT pF
   have T6:=(yT.cell (p:=⟨p,0,none⟩) EO).trans hpA
   have Eb:=Nat.lt_of_lt_of_le EO yT.size
   clear DA yT pF hpA EO x0 x1
   obtain⟨B,hB⟩: ∃B,B=wr.heap.size:=⟨_,rfl⟩
   rw[←hB]at eD
   rw[←hB]
   clear hB qv
   have y0:w3.cell? ⟨B,0,none⟩=some (.string l[j].name):=by rw[cell_of_row w3 _ _ _ _ _ eD];rfl
   have y1:w3.cell? ⟨B,1,none⟩=some (.int .i64 l[j].id):=by rw[cell_of_row w3 _ _ _ _ _ eD];rfl
   clear eD
   cases hs:yt nm l[j]with
   |true=>
    have HD:Hid (X6 w base g cap l nm i (j+1) w3):=D3.skip hj hs
    clear hs D3 y0 y1
    go_wp2
    go_roundw
    case rel=>exact⟨i,j+1,rfl,by go_num,HD.out,T6,Eb⟩
    case measure=>simp[intOf];omega
   |false=>
    have DK:=D3.keep hj Jd hs
    obtain⟨⟨u0,r0⟩,⟨u1,r1⟩,f0,f1⟩:=D3.room Jd
    have HP:Hid (((w3.setCell ⟨g,i*2,none⟩ (.string l[j].name)).setCell ⟨g,i*2+1,none⟩ (.int .i64 l[j].id)).cell? ⟨p,0,none⟩=some (.string nm)∧p<((w3.setCell ⟨g,i*2,none⟩ (.string l[j].name)).setCell ⟨g,i*2+1,none⟩ (.int .i64 l[j].id)).heap.size):=by
     refine⟨?_,by simpa using Eb⟩
     rw[X3 (fun e=>Nw (congrArg Addr.block e)),X3 (fun e=>Nw (congrArg Addr.block e))]
     exact T6
    have HD:Hid (X6 w base g cap l nm (i+1) (j+1) ((w3.setCell ⟨g,i*2,none⟩ (.string l[j].name)).setCell ⟨g,i*2+1,none⟩ (.int .i64 l[j].id))):=DK
    clear hs D3 DK T6 Eb
    go_wp2
    go_roundw
    case rel=>exact⟨i+1,j+1,by go_num,by go_num,HD.out,HP.out.1,HP.out.2⟩
    case measure=>simp[intOf];omega
  ·obtain rfl:j=l.length:=by omega
   obtain⟨Az,c1,c2,c3,-⟩:=D.row
   have hic: ¬cap=i:=by omega
   have zPF:(i:Int)≤(cap:Int):=by omega
   have Vc:(i:Int)≤(l.length:Int):=by omega
   obtain⟨zs,rg⟩:=du wr g (i*2) (l.length-i) (cap-i) (by omega) Az c1 (by omega)
   obtain⟨bf,d1,d2,d3⟩:=jJ zs (i*2) wr g Az 65 c1
   obtain⟨s1,s2,s3,s4,s5⟩:=mr zs (i*2) wr g
   have HF:Hid (Yz base (.slice (some ⟨g,0,none⟩) l.length cap) l nm w (.returned (.slice (some ⟨g,0,none⟩) i cap)) (wr.setCells g (i*2) zs)):=by
    have hd:xP (l.take l.length) nm=xP l nm:=by rw[List.take_of_length_le (Nat.le_refl _)]
    have hlen:=D.len
    rw[hd]at hlen c3
    refine⟨_,rfl,⟨by rw[va],.inr ⟨g,cap,bf,by rw[hlen],HG.out,d1,by rw[hlen];omega,HC.out,by rw[d2,c2],?_⟩⟩,?_,rfl⟩
    ·rw[hlen,←c3]
     apply List.ext_getElem?
     intro t
     rw[List.getElem?_take,List.getElem?_take]
     split
     ·rename_i ht
      have:=d3 t ht
      simpa using this
     ·rfl
    ·have hg:=D.grown
     exact⟨s1.trans hg.os,s2.trans hg.tape,s3.trans hg.output,by rw[s4];exact hg.size,fun k hk yM=>(s5 k (fun e=>yM (by rw[e];rfl))).trans (hg.block k hk yM)⟩
   clear bf d1 d2 d3 s1 s2 s3 s4 s5 c1 c2 c3 D mP qv
   go_wp2
   go_ret
   exact HF.out
theorem nD: ∀a b:List UInt8,decide (Lib.compareBytes a b<0)=Op.bytesLess a b
 |[],[]=>rfl
 |[],_::_=>rfl
 |_::_,[]=>rfl
 |x::a,y::b=>by
  rw[Lib.compareBytes,Op.bytesLess]
  by_cases h1:x<y
  ·rw[if_pos h1];simp[h1]
  ·rw[if_neg h1]
   by_cases h2:y<x
   ·rw[if_pos h2]
    have yM:(x==y)=false:=by rw[beq_eq_false_iff_ne];intro e;subst e;exact h1 h2
    simp[h1,yM]
   ·rw[if_neg h2,nD a b]
    have:x=y:=by
     rw[UInt8.not_lt]at h1 h2
     exact UInt8.le_antisymm h2 h1
    subst this
    simp
theorem fH{a b c:List UInt8}(h1:Op.bytesLess a b=false)(h2:Op.bytesLess b c=false):Op.bytesLess a c=false:=by
 cases q:Op.bytesLess a c with
 |false=>rfl
 |true=>
  by_cases e:b=c
  ·rw[e,q]at h1;cases h1
  ·have h3:=rx b c h2 e
   have:=tL a c b q h3
   rw[this]at h1;cases h1
theorem tE{t:TypeId}{ops:Array Oper}{rest:List Oper}{o:Oper}{a:Act}{w:World}{Q:Exit→Act→World→Prop}(cG:o.guard=none)(d s:Operand)
  (ho:o.op= .call {callee:=.builtin .append,args:=#[d,s],argTypes:=#[t,t]}) (v u:Value) (hd:a.eval d=v) (hs:a.eval s=u) {v':Value} {w':World}
  (hr:(Builtin.append_ #[t,t] o.type #[v,u]).run Tryz.prog w= .ok v' w') (h:wpList Tryz.prog ops Q rest (a.put o.dst v') w'):wpList Tryz.prog ops Q (o::rest) a w:=by
 refine wpList_plain cG fun K hK=>?_
 unfold Oper.wp execOp
 simp only[ho,resolve,invoke,builtin,Sem.run_bind,Sem.run_pure,Result.andThen_ok,List.map_toArray,List.map_cons,List.map_nil,hd,hs,hr]
 exact hK _ _ h
theorem jS(w:World)(n g:Nat)(F cur:Array Value)(t:TypeId)(os:Array Obj)(hg:w.heap[g]? =some (.cells cur t))(hs:F.size≤cur.size):
  ∃sw,(Sort.grow (Sort.putRow id (Sort.ahead w n) g 0 F) os).heap[g]? =some (.cells sw t)∧sw.size=cur.size∧sw.toList.take F.size=F.toList:=by
 refine⟨Sort.putCells id 0 F cur,?_,by simp[Sort.putCells],?_⟩
 ·rw[Sort.heap_grow_old _ _ (by simpa using zG hg)]
  show((w.heap.modify g (Sort.onCells (Sort.putCells id 0 F))))[g]? =_
  rw[Array.getElem?_modify,if_pos rfl,hg]
  rfl
 ·apply List.ext_getElem?
  intro k
  rw[List.getElem?_take]
  by_cases hk:k<F.size
  ·rw[if_pos hk]
   simp only[Sort.putCells,Array.toList_mapIdx,List.getElem?_mapIdx]
   rw[List.getElem?_eq_getElem (by rw[Array.length_toList];omega)]
   simp[hk]
  ·rw[if_neg hk,List.getElem?_eq_none (by rw[Array.length_toList];omega)]
theorem jd(w:World)(n g:Nat)(F:Array Value)(os:Array Obj):w.grownBy (Sort.grow (Sort.putRow id (Sort.ahead w n) g 0 F) os) (some g):=by
 refine⟨rfl,rfl,rfl,by simp,fun k hk yM=>?_⟩
 rw[Sort.heap_grow_old _ _ (by simpa using hk)]
 show((w.heap.modify g (Sort.onCells (Sort.putCells id 0 F))))[k]? =_
 rw[Array.getElem?_modify,if_neg (fun e=>yM (by rw[e]))]
theorem Ww(n:Nat)(W:World)(h:n≤12):Calls Tryz.prog 175 #[.int .u64 n] W fun e w'=>(∃l:Int,e= .returned (.int .i64 l))∧w'=W:=
 (Tryz.bits_Len n W (by omega) (by omega)).mono fun _ _ ⟨he,hw⟩=>⟨⟨_,he⟩,hw⟩
theorem ZR{α:Type}[Inhabited α]{d d':Array α}(h:Sort.PermIn 0 d.size d d'):d'.toList.Perm d.toList:=by
 have h3:=h.2.2
 have e: ∀x:Array α,x.size=d.size→(x.extract 0 d.size)=x:=fun x hx=>by rw[←hx];simp
 rwa[e d' h.1,e d rfl]at h3
def Qb(x y:Rf):Int:=Lib.compareBytes x.name.data.toList y.name.data.toList
theorem ltR(x y:Rf):ltOf Qb x y=Op.bytesLess x.name.toList y.name.toList:=by
 unfold ltOf Qb
 rw[nD,ByteArray.toList_eq,ByteArray.toList_eq]
theorem zID:Sort.SWO (ltOf Qb) where
 irrefl x:=by rw[ltR];exact vq _
 trans x y z h1 h2:=by rw[ltR]at *;exact tL _ _ _ h1 h2
 ntrans x y z h1 h2:=by rw[ltR]at *;exact fH h1 h2
theorem Ht[Inhabited Rf](d:Array Rf):(Sort.flatK Rf.cells 2 d).toList=xM d.toList:=by
 apply List.ext_getElem?
 intro t
 by_cases h:t<d.size*2
 ·have h1:=Sort.get_flatK Rf.cells 2 d t h
  have hk:t/2<d.toList.length:=by rw[Array.length_toList];omega
  have h2:=pC d.toList (t/2) (t%2) hk (Nat.mod_lt _ (by decide))
  rw[show t/2*2+t%2=t by omega]at h2
  rw[h2,Array.getElem?_toList,Array.getElem?_eq_getElem (by rw[Sort.size_flatK];exact h)]
  rw[getElem!_pos (Sort.flatK Rf.cells 2 d) t (by rw[Sort.size_flatK];exact h)]at h1
  rw[h1]
  have jB:t/2<d.size:=by omega
  rw[getElem!_pos d (t/2) jB]
  have hm:t%2<(Rf.cells d[t/2]).length:=Nat.mod_lt _ (by decide)
  rw[getElem!_pos (Rf.cells d[t/2]) (t%2) hm]
  have e:d.toList[t/2]=d[t/2]:=Array.getElem_toList ..
  rw[e,List.getElem?_eq_getElem hm]
 ·rw[List.getElem?_eq_none (by rw[Array.length_toList,Sort.size_flatK];omega),List.getElem?_eq_none (by rw[va,Array.length_toList];omega)]
theorem Ng(x y:Rf)(W:World):Calls Tryz.prog 186 #[x.val,y.val] W fun e w'=>e= .returned (.int .i64 (Qb x y))∧∃q os',w'=Sort.grow (W.drewN q) os':=by
 have Yx:=fun W'=>Tryz.strings_Compare x.name y.name W'
 unfold Qb
 generalize Lib.compareBytes x.name.data.toList y.name.data.toList=r at Yx⊢
 go_enter Tryz.func186,Tryz.ntmps186
 go_wp2_with (go_at_call 115;refine(Yx _).mono ?_;rintro e w' ⟨rfl,rfl⟩)
 go_ret
 exact⟨rfl,0,_,by rw[Sort.alloc_eq_grow,Sort.alloc_eq_grow,Sort.grow_grow];rfl⟩
theorem Qi(base g cap:Nat)(l:List Rf)(w:World)(yj:w.ownsRow base 65 2 (.slice (some ⟨g,0,none⟩) l.length cap) l.length (xM l))(h12:l.length≤12):
  Calls Tryz.prog 185 #[.slice (some ⟨g,0,none⟩) l.length cap,.func (.func 186) #[] #[]] w fun e w'=>e= .returned (.tuple #[])∧∃d:List Rf,d.Perm l∧d.Pairwise (fun x y=>¬tT y.name x.name)∧
   w'.ownsRow base 65 2 (.slice (some ⟨g,0,none⟩) l.length cap) l.length (xM d)∧w.grownBy w' (some g):=by
 have:Inhabited Rf:=⟨⟨{data:=#[]},0⟩⟩
 obtain⟨cur,q1,q2,q3,q4,q5,q6⟩: ∃cur,base≤g∧w.heap[g]? =some (.cells cur 65 (0,0))∧l.length≤cap∧cap≤maxLen∧cur.size=cap*2∧cur.toList.take (l.length*2)=xM l:=by
  rcases yj.2 with⟨e,_⟩|⟨g',ux,cur,e,h⟩
  ·cases e
  ·cases e;exact⟨cur,h⟩
 have eg: ∀args w,(callFunc 186 args).run Tryz.prog w= .ok (.enter 186 args) w:=enters_of Tryz.func186 (by kernel_rfl) rfl
 have hH:Sort.HoldsK Rf.cells 2 w g 0 l.toArray:=by
  intro j hj
  rw[Sort.size_flatK]at hj
  have j8:j<l.length*2:=by simpa using hj
  refine⟨?_,zF q2⟩
  rw[cell_of_row w _ _ _ _ _ q2,Nat.zero_add]
  have h1:(Sort.flatK Rf.cells 2 l.toArray).toList=xM l:=Ht l.toArray
  have h2:cur[j]? =(xM l)[j]?:=by rw[←q6,List.getElem?_take,if_pos j8];simp
  rw[h2,←h1,Array.getElem?_toList,Array.getElem?_eq_getElem (by rw[Sort.size_flatK];exact hj),getElem!_pos _ j (by rw[Sort.size_flatK];exact hj)]
  rfl
 have Yx:=AnyQ.slices_SortFunc_small_sorted Tryz.sortR 2 Tryz.isAgg65 Tryz.sizeOf65 Rf.cells (fun _=>rfl) (fun x v hv=>by
   simp only[Rf.cells,List.mem_cons,List.not_mem_nil,or_false]at hv
   rcases hv with rfl|rfl<;>rfl) Qb 186 #[] zID g 0 cap l.toArray w eg (fun _ _ _ _ x y=>Ng x y _) hH (zG q2) (by simpa using h12) Ww
 have NT:Calls Tryz.prog 185 #[.slice (some ⟨g,0,none⟩) l.length cap,.func (.func 186) #[] #[]] w _:=Yx
 refine NT.mono ?_
 rintro e w' ⟨he,d',n,os,hp,hs,rfl⟩
 have qv:=ZR (d:=l.toArray) hp
 have Uh:d'.size=l.length:=by simpa using hp.1
 obtain⟨sw,r1,r2,r3⟩:=jS w n g (Sort.flatK Rf.cells 2 d') cur 65 os q2 (by rw[Sort.size_flatK,Uh,q5];exact Nat.mul_le_mul_right _ q3)
 refine⟨he,d'.toList,by simpa using qv,?_,⟨by rw[va,Array.length_toList,Uh],.inr ⟨g,cap,sw,rfl,q1,r1,q3,q4,by rw[r2,q5],?_⟩⟩,jd w n g _ os⟩
 ·rw[List.pairwise_iff_getElem]
  intro i j hi hj nZ
  rw[Array.length_toList]at hi hj
  have:=hs i j (Nat.zero_le _) nZ (by simpa[←Uh]using hj)
  rw[ltR,getElem!_pos d' i hi,getElem!_pos d' j hj]at this
  intro q
  rw[Array.getElem_toList,Array.getElem_toList]at q
  unfold tT at q
  rw[this]at q
  cases q
 ·rw[←Ht,←r3,Sort.size_flatK,Uh]
theorem Ue{w:World}{x:Addr}{m:List Rf}(h: ∀i,i<m.length→∃b off,x=⟨b,off,none⟩∧∀k (hk:k<m.length),S7 w b (off+k*2) m[k]): ∀j u,(xM m)[j]? =some u→w.cell? (x.add j)=some u:=by
 intro j u hj
 have zN:j<m.length*2:=by
  rcases Nat.lt_or_ge j (m.length*2)with q|q
  ·exact q
  ·rw[List.getElem?_eq_none (by rw[va];exact q)]at hj;cases hj
 obtain⟨b,off,rfl,hc⟩:=h (j/2) (by omega)
 have vd:(⟨b,off,none⟩:Addr).add j=⟨b,off+j,none⟩:=by unfold Addr.add;split<;>simp_all
 rw[vd]
 have hk:j/2<m.length:=by omega
 have hr:=pC m (j/2) (j%2) hk (Nat.mod_lt _ (by decide))
 rw[show j/2*2+j%2=j by omega,hj]at hr
 obtain⟨c0,c1⟩:=hc (j/2) hk
 rcases Nat.mod_two_eq_zero_or_one j with e|e
 ·rw[e]at hr
  rw[show off+j=off+j/2*2 by omega,c0]
  simpa[Rf.cells]using hr.symm
 ·rw[e]at hr
  rw[show off+j=off+j/2*2+1 by omega,c1]
  simpa[Rf.cells]using hr.symm
theorem Vt(a:Option Addr)(c:Nat)(l:List Rf)(w:World)(h:yU w a l)(hl:l.length≤900)(ha:a=none→l=[]):
  Calls Tryz.prog 127 #[.slice a l.length c] w fun e w'=>∃v',e= .returned v'∧w'.ownsRow w.heap.size 65 2 v' l.length (xM l)∧Below w.heap.size w w':=by
 have q22: ∀(w:World) (a:Option Addr) (n c n' c':Nat),(binOp .eql 34 (.slice a n c) (.slice none n' c')).run Tryz.prog w= .ok (.bool a.isNone) w:=fun w a n c n' c'=>Lib.run_eql_slice_nil w _ _ a n c n' c' Tryz.underlying34
 cases a with
 |none=>
  have e:=ha rfl
  subst e
  have HO:Hid (w.ownsRow w.heap.size 65 2 (.slice none 0 0) ([]:List Rf).length (xM [])):=World.ownsRow_nil _ _ _ _
  clear h ha hl
  go_enter Tryz.func127,Tryz.ntmps127
  go_wp2
  go_ret
  exact⟨_,rfl,HO.out,Below.refl _ _⟩
 |some x=>
  have sP:=zB w (.cells #[] 65)
  have hh: ∀i,i<l.length→∃b off,x=⟨b,off,none⟩∧∀k (hk:k<l.length),S7 (w.alloc (.cells #[] 65)) b (off+k*2) l[k]:=fun i hi=>by
   obtain⟨b,off,e,_,hc⟩:=(h.below sP) i hi
   exact⟨b,off,Option.some.inj e,hc⟩
  obtain⟨i0,sN,sW,xQ,pS⟩:=info_parts Tryz.info65
  have o0:(w.alloc (.cells #[] 65)).ownsRow w.heap.size 65 2 (.slice (some ⟨w.heap.size,0,none⟩) 0 0) 0 []:=World.ownsRow_made w #[] 0 (Nat.le_refl _) (by unfold maxLen;omega) rfl
  obtain⟨v',w',hr,p1,p2,_⟩:=run_append_own (P:=Tryz.prog) _ w.heap.size 34 34 65 i0 _ 2 24 Tryz.underlying34 sN sW xQ pS rfl (by omega) _ 0 [] o0 x l.length c (xM l) (va l) (Ue hh) (Xp l) (by unfold maxLen;omega) (by omega) sP.size
  have HF:Hid (w'.ownsRow w.heap.size 65 2 v' l.length (xM l)∧Below w.heap.size w w'):=by
   refine⟨by simpa using p1,?_⟩
   exact sP.trans ⟨p2.os,p2.tape,p2.output,p2.size,fun k hk=>p2.block k (by have:=sP.size;omega) (fun e=>by simp[Value.ownBlock]at e;omega)⟩
  obtain⟨g',m',c',rfl⟩:=uY p1
  clear p1 p2 hh h o0 ha sP
  go_enter Tryz.func127,Tryz.ntmps127
  go_wp2_with (at_builtin;refine tE (by rfl) (.tmp 5) (.tmp 6) (by rfl) _ _ (by rfl) (by rfl) hr ?_)
  go_ret
  exact⟨_,rfl,HF.out.1,HF.out.2⟩
def PC(x y:Up):Int:=Lib.compareBytes x.name.data.toList y.name.data.toList
theorem ltU(x y:Up):ltOf PC x y=Op.bytesLess x.name.toList y.name.toList:=by
 unfold ltOf PC
 rw[nD,ByteArray.toList_eq,ByteArray.toList_eq]
theorem zG9:Sort.SWO (ltOf PC) where
 irrefl x:=by rw[ltU];exact vq _
 trans x y z h1 h2:=by rw[ltU]at *;exact tL _ _ _ h1 h2
 ntrans x y z h1 h2:=by rw[ltU]at *;exact fH h1 h2
theorem Hp[Inhabited Up](d:Array Up):(Sort.flatK Up.cells 3 d).toList=tU d.toList:=by
 apply List.ext_getElem?
 intro t
 by_cases h:t<d.size*3
 ·have h1:=Sort.get_flatK Up.cells 3 d t h
  have hk:t/3<d.toList.length:=by rw[Array.length_toList];omega
  have h2:=cg d.toList (t/3) (t%3) hk (Nat.mod_lt _ (by decide))
  rw[show t/3*3+t%3=t by omega]at h2
  rw[h2,Array.getElem?_toList,Array.getElem?_eq_getElem (by rw[Sort.size_flatK];exact h)]
  rw[getElem!_pos (Sort.flatK Up.cells 3 d) t (by rw[Sort.size_flatK];exact h)]at h1
  rw[h1]
  have jB:t/3<d.size:=by omega
  rw[getElem!_pos d (t/3) jB]
  have hm:t%3<(Up.cells d[t/3]).length:=Nat.mod_lt _ (by decide)
  rw[getElem!_pos (Up.cells d[t/3]) (t%3) hm]
  have e:d.toList[t/3]=d[t/3]:=Array.getElem_toList ..
  rw[e,List.getElem?_eq_getElem hm]
 ·rw[List.getElem?_eq_none (by rw[Array.length_toList,Sort.size_flatK];omega),List.getElem?_eq_none (by rw[sf,Array.length_toList];omega)]
theorem Mc(x y:Up)(W:World):Calls Tryz.prog 114 #[x.val,y.val] W fun e w'=>e= .returned (.int .i64 (PC x y))∧∃q os',w'=Sort.grow (W.drewN q) os':=by
 have Yx:=fun W'=>Tryz.strings_Compare x.name y.name W'
 unfold PC
 generalize Lib.compareBytes x.name.data.toList y.name.data.toList=r at Yx⊢
 go_enter Tryz.func114,Tryz.ntmps114
 go_wp2_with (go_at_call 115;refine(Yx _).mono ?_;rintro e w' ⟨rfl,rfl⟩)
 go_ret
 exact⟨rfl,0,_,by rw[Sort.alloc_eq_grow,Sort.alloc_eq_grow,Sort.grow_grow];rfl⟩
theorem Ra(base g cap:Nat)(l:List Up)(w:World)(yj:w.ownsRow base 40 3 (.slice (some ⟨g,0,none⟩) l.length cap) l.length (tU l))(h12:l.length≤12):
  Calls Tryz.prog 113 #[.slice (some ⟨g,0,none⟩) l.length cap,.func (.func 114) #[] #[]] w fun e w'=>e= .returned (.tuple #[])∧∃d:List Up,d.Perm l∧d.Pairwise (fun x y=>¬tT y.name x.name)∧
   w'.ownsRow base 40 3 (.slice (some ⟨g,0,none⟩) l.length cap) l.length (tU d)∧w.grownBy w' (some g):=by
 have:Inhabited Up:=⟨⟨{data:=#[]},0,0⟩⟩
 obtain⟨cur,q1,q2,q3,q4,q5,q6⟩: ∃cur,base≤g∧w.heap[g]? =some (.cells cur 40 (0,0))∧l.length≤cap∧cap≤maxLen∧cur.size=cap*3∧cur.toList.take (l.length*3)=tU l:=by
  rcases yj.2 with⟨e,_⟩|⟨g',ux,cur,e,h⟩
  ·cases e
  ·cases e;exact⟨cur,h⟩
 have eg: ∀args w,(callFunc 114 args).run Tryz.prog w= .ok (.enter 114 args) w:=enters_of Tryz.func114 (by kernel_rfl) rfl
 have hH:Sort.HoldsK Up.cells 3 w g 0 l.toArray:=by
  intro j hj
  rw[Sort.size_flatK]at hj
  have j8:j<l.length*3:=by simpa using hj
  refine⟨?_,zF q2⟩
  rw[cell_of_row w _ _ _ _ _ q2,Nat.zero_add]
  have h1:(Sort.flatK Up.cells 3 l.toArray).toList=tU l:=Hp l.toArray
  have h2:cur[j]? =(tU l)[j]?:=by rw[←q6,List.getElem?_take,if_pos j8];simp
  rw[h2,←h1,Array.getElem?_toList,Array.getElem?_eq_getElem (by rw[Sort.size_flatK];exact hj),getElem!_pos _ j (by rw[Sort.size_flatK];exact hj)]
  rfl
 have Yx:=AnyQ.slices_SortFunc_small_sorted Tryz.sortU 3 Tryz.isAgg40 Tryz.sizeOf40 Up.cells (fun _=>rfl) (fun x v hv=>by
   simp only[Up.cells,List.mem_cons,List.not_mem_nil,or_false]at hv
   rcases hv with rfl|rfl|rfl<;>rfl) PC 114 #[] zG9 g 0 cap l.toArray w eg (fun _ _ _ _ x y=>Mc x y _) hH (zG q2) (by simpa using h12) Ww
 have NT:Calls Tryz.prog 113 #[.slice (some ⟨g,0,none⟩) l.length cap,.func (.func 114) #[] #[]] w _:=Yx
 refine NT.mono ?_
 rintro e w' ⟨he,d',n,os,hp,hs,rfl⟩
 have qv:=ZR (d:=l.toArray) hp
 have Uh:d'.size=l.length:=by simpa using hp.1
 obtain⟨sw,r1,r2,r3⟩:=jS w n g (Sort.flatK Up.cells 3 d') cur 40 os q2 (by rw[Sort.size_flatK,Uh,q5];exact Nat.mul_le_mul_right _ q3)
 refine⟨he,d'.toList,by simpa using qv,?_,⟨by rw[sf,Array.length_toList,Uh],.inr ⟨g,cap,sw,rfl,q1,r1,q3,q4,by rw[r2,q5],?_⟩⟩,jd w n g _ os⟩
 ·rw[List.pairwise_iff_getElem]
  intro i j hi hj nZ
  rw[Array.length_toList]at hi hj
  have:=hs i j (Nat.zero_le _) nZ (by simpa[←Uh]using hj)
  rw[ltU,getElem!_pos d' i hi,getElem!_pos d' j hj]at this
  intro q
  rw[Array.getElem_toList,Array.getElem_toList]at q
  unfold tT at q
  rw[this]at q
  cases q
 ·rw[←Hp,←r3,Sort.size_flatK,Uh]
theorem de{w:World}{x:Addr}{m:List Up}(h: ∀i,i<m.length→∃b off,x=⟨b,off,none⟩∧∀k (hk:k<m.length),S9 w b (off+k*3) m[k]): ∀j u,(tU m)[j]? =some u→w.cell? (x.add j)=some u:=by
 intro j u hj
 have zN:j<m.length*3:=by
  rcases Nat.lt_or_ge j (m.length*3)with q|q
  ·exact q
  ·rw[List.getElem?_eq_none (by rw[sf];exact q)]at hj;cases hj
 obtain⟨b,off,rfl,hc⟩:=h (j/3) (by omega)
 have vd:(⟨b,off,none⟩:Addr).add j=⟨b,off+j,none⟩:=by unfold Addr.add;split<;>simp_all
 rw[vd]
 have hk:j/3<m.length:=by omega
 have hr:=cg m (j/3) (j%3) hk (Nat.mod_lt _ (by decide))
 rw[show j/3*3+j%3=j by omega,hj]at hr
 obtain⟨c0,c1,c2⟩:=hc (j/3) hk
 have:j%3=0∨j%3=1∨j%3=2:=by omega
 rcases this with e|e|e
 ·rw[e]at hr
  rw[show off+j=off+j/3*3 by omega,c0]
  simpa[Up.cells]using hr.symm
 ·rw[e]at hr
  rw[show off+j=off+j/3*3+1 by omega,c1]
  simpa[Up.cells]using hr.symm
 ·rw[e]at hr
  rw[show off+j=off+j/3*3+2 by omega,c2]
  simpa[Up.cells]using hr.symm
theorem UG(a:Option Addr)(c:Nat)(l:List Up)(w:World)(h:zx w a l)(hl:l.length≤900)(ha:a=none→l=[]):
  Calls Tryz.prog 112 #[.slice a l.length c] w fun e w'=>∃v',e= .returned v'∧w'.ownsRow w.heap.size 40 3 v' l.length (tU l)∧Below w.heap.size w w':=by
 have q22: ∀(w:World) (a:Option Addr) (n c n' c':Nat),(binOp .eql 26 (.slice a n c) (.slice none n' c')).run Tryz.prog w= .ok (.bool a.isNone) w:=fun w a n c n' c'=>Lib.run_eql_slice_nil w _ _ a n c n' c' Tryz.underlying26
 cases a with
 |none=>
  have e:=ha rfl
  subst e
  have HO:Hid (w.ownsRow w.heap.size 40 3 (.slice none 0 0) ([]:List Up).length (tU [])):=World.ownsRow_nil _ _ _ _
  clear h ha hl
  go_enter Tryz.func112,Tryz.ntmps112
  go_wp2
  go_ret
  exact⟨_,rfl,HO.out,Below.refl _ _⟩
 |some x=>
  have sP:=zB w (.cells #[] 40)
  have hh: ∀i,i<l.length→∃b off,x=⟨b,off,none⟩∧∀k (hk:k<l.length),S9 (w.alloc (.cells #[] 40)) b (off+k*3) l[k]:=fun i hi=>by
   obtain⟨b,off,e,_,hc⟩:=(h.below sP) i hi
   exact⟨b,off,Option.some.inj e,hc⟩
  obtain⟨i0,sN,sW,xQ,pS⟩:=info_parts Tryz.info40
  have o0:(w.alloc (.cells #[] 40)).ownsRow w.heap.size 40 3 (.slice (some ⟨w.heap.size,0,none⟩) 0 0) 0 []:=World.ownsRow_made w #[] 0 (Nat.le_refl _) (by unfold maxLen;omega) rfl
  obtain⟨v',w',hr,p1,p2,_⟩:=run_append_own (P:=Tryz.prog) _ w.heap.size 26 26 40 i0 _ 3 32 Tryz.underlying26 sN sW xQ pS rfl (by omega) _ 0 [] o0 x l.length c (tU l) (sf l) (de hh) (XG l) (by unfold maxLen;omega) (by omega) sP.size
  have HF:Hid (w'.ownsRow w.heap.size 40 3 v' l.length (tU l)∧Below w.heap.size w w'):=by
   refine⟨by simpa using p1,?_⟩
   exact sP.trans ⟨p2.os,p2.tape,p2.output,p2.size,fun k hk=>p2.block k (by have:=sP.size;omega) (fun e=>by simp[Value.ownBlock]at e;omega)⟩
  obtain⟨g',m',c',rfl⟩:=uY p1
  clear p1 p2 hh h o0 ha sP
  go_enter Tryz.func112,Tryz.ntmps112
  go_wp2_with (at_builtin;refine tE (by rfl) (.tmp 5) (.tmp 6) (by rfl) _ _ (by rfl) (by rfl) hr ?_)
  go_ret
  exact⟨_,rfl,HF.out.1,HF.out.2⟩
theorem Sh(w:World)(base:Nat)(ty:TypeId)(v:Value)(n:Nat)(xs:List Value)(yj:w.ownsRow base 65 2 v n xs)(vb:Nat)(ys:Array Value)(hv:w.heap[vb]? =some (.cells ys 65))(fF:ys.size=2)
  (h2: ∀v∈ys.toList,v.oneCell'=true) (hn:n≤1000) (xq:base≤w.heap.size):
  ∃v' w',(Builtin.append_ #[34,34] ty #[v,.slice (some ⟨vb,0,none⟩) 1 1]).run Tryz.prog w= .ok v' w'∧w'.ownsRow base 65 2 v' (n+1) (xs++ys.toList)∧w.grownBy w' v.ownBlock∧∀k,v'.ownBlock=some k→v.ownBlock=some k∨w.heap.size≤k:=by
 obtain⟨i0,sN,sW,xQ,pS⟩:=info_parts Tryz.info65
 have hl:ys.toList.length=1*2:=by rw[Array.length_toList,fF]
 have tA:=World.news_of_block hv
 obtain⟨v',w',hr,q1,q2,_⟩:=run_append_own (P:=Tryz.prog) w base 34 ty 65 i0 _ 2 24 Tryz.underlying34 sN sW xQ pS rfl (by omega) v n xs yj ⟨vb,0,none⟩ 1 1 ys.toList hl tA h2 (by unfold maxLen;omega) (by omega) xq
 refine⟨v',w',hr,q1,q2,?_⟩
 rcases yj.2 with⟨rfl,rfl⟩|⟨g,cap,cur,rfl,hbg,hg,SK,qt,mz,htake⟩
 ·obtain⟨v2,w2,qZ,p1,_,_⟩:=run_append_own (P:=Tryz.prog) w w.heap.size 34 ty 65 i0 _ 2 24 Tryz.underlying34 sN sW xQ pS rfl (by omega) _ 0 [] (World.ownsRow_nil _ _ _ _) ⟨vb,0,none⟩ 1 1 ys.toList hl tA h2 (by unfold maxLen;omega) (by omega) (Nat.le_refl _)
  rw[hr]at qZ
  cases qZ
  exact fun k hk=>.inr (p1.lt k hk).1
 ·by_cases hroom:n+1≤cap
  ·have qZ:=run_append_room (P:=Tryz.prog) w 34 ty 65 i0 Tryz.underlying34 sN g n cap cur hg ⟨vb,0,none⟩ 1 1 ys.toList (by rw[xQ];exact hl) tA h2 hroom (by rw[xQ,hl];omega)
   rw[hr]at qZ
   cases qZ
   exact fun k hk=>.inl hk
  ·have qZ:=run_append_grow (P:=Tryz.prog) w 34 ty 65 i0 _ Tryz.underlying34 sN sW ⟨g,0,none⟩ n cap xs (by rw[xQ];exact yj.1) (yj.cells (g:=g) rfl) ⟨vb,0,none⟩ 1 1 ys.toList (by rw[xQ];exact hl) tA (by omega) (by omega) (by rw[pS];exact growslice_fits (by omega) (by omega))
   rw[hr]at qZ
   cases qZ
   exact fun k hk=>.inr (by simp[Value.ownBlock]at hk;omega)
structure ut(base:Nat)(w:World)(p:Nat)(v:Value)(l:List Rf)(x1 x2:Value):Prop where
 blk:w.heap[p]? =some (.cells #[v,x1,x2] 116)
 le:base≤p
 own:w.ownsRow base 65 2 v l.length (xM l)
 ne:v.ownBlock≠some p
theorem ut.lt{base:Nat}{w:World}{p:Nat}{v:Value}{l:List Rf}{x1 x2:Value}(h:ut base w p v l x1 x2):p<w.heap.size:=zG h.blk
theorem ut.below{base:Nat}{w w':World}{p:Nat}{v:Value}{l:List Rf}{x1 x2:Value}(h:ut base w p v l x1 x2)(hb:Below w.heap.size w w'):ut base w' p v l x1 x2:=
 ⟨(hb.block p h.lt).trans h.blk,h.le,yi h.own (fun g hg=>hb.block g (h.own.lt g hg).2),h.ne⟩
theorem ut.next{base:Nat}{w w1 w2:World}{p:Nat}{v v':Value}{l l':List Rf}{x1 x2:Value}(h:ut base w p v l x1 x2)(hb:Below w.heap.size w w1)(hg:w1.grownBy w2 v.ownBlock)(ho:w2.ownsRow base 65 2 v' l'.length (xM l'))(hk:v'.ownBlock≠some p):
  ut base (w2.setCell ⟨p,0,none⟩ v') p v' l' x1 x2∧Below base w (w2.setCell ⟨p,0,none⟩ v'):=by
 have h1:=h.below hb
 have qv:=h.lt
 have hle:=h.le
 have EW:w2.heap[p]? =some (.cells #[v,x1,x2] 116):=(hg.block p h1.lt (fun e=>h.ne e.symm)).trans h1.blk
 have Yc: ∀k,k≠p→(w2.setCell ⟨p,0,none⟩ v').heap[k]? =w2.heap[k]?:=fun k hk=>heap_setCell_other w2 ⟨p,0,none⟩ k v' hk
 have gB:(w2.setCell ⟨p,0,none⟩ v').heap.size=w2.heap.size:=World.size_setCell _ _ _
 have ZQ:=hb.size
 have mx:=hg.size
 refine⟨⟨?_,h.le,?_,hk⟩,?_⟩
 ·have:=heap_setCell_same w2 p 0 #[v,x1,x2] 116 v' EW
  simpa using this
 ·exact yi ho (fun g e=>Yc g (fun q=>hk (by rw[←q];exact e)))
 ·refine⟨hg.os.trans hb.os,hg.tape.trans hb.tape,hg.output.trans hb.output,by omega,fun k jB=>?_⟩
  rw[Yc k (by omega),hg.block k (by omega) (fun e=>by have:=(h.own.lt k e.symm).1;omega)]
  exact hb.block k (by omega)
theorem ut.turned{base:Nat}{w w2:World}{p:Nat}{v:Value}{l l':List Rf}{x1 x2:Value}(h:ut base w p v l x1 x2)(hg:w.grownBy w2 v.ownBlock)(ho:w2.ownsRow base 65 2 v l'.length (xM l')):
  ut base w2 p v l' x1 x2∧Below base w w2:=by
 have qv:=h.lt
 have hle:=h.le
 refine⟨⟨(hg.block p h.lt (fun e=>h.ne e.symm)).trans h.blk,h.le,ho,h.ne⟩,⟨hg.os,hg.tape,hg.output,hg.size,fun k hk=>hg.block k (by omega) (fun e=>by have:=(h.own.lt k e.symm).1;omega)⟩⟩
theorem bH(base p:Nat)(v:Value)(l:List Rf)(x1 x2:Value)(nm:ByteArray)(id:Int)(w:World)(hB:ut base w p v l x1 x2)(hS:te l)(hl:l.length≤11):
  Calls Tryz.prog 129 #[.pointer (some ⟨p,0,none⟩),.string nm,.int .i64 id] w fun e w'=>e= .returned (.tuple #[])∧(∃v',ut base w' p v' (yE l nm id) x1 x2)∧Below base w w':=by
 have Uk: ∀(fn:Fn) (first cap:Array Value) (w:World),(Instr.makeFunc fn first cap).run Tryz.prog w= .ok (.func fn first cap) w:=fun _ _ _ _=>rfl
 have HS:Hid (te l):=hS
 clear hS
 have hA:=zB w (.cells #[.string nm] 9)
 have pF:=heap_alloc_new w (.cells #[.string nm] 9)
 have BA:=hB.below hA
 have Ky:base≤w.heap.size:=Nat.le_of_lt (Nat.lt_of_le_of_lt hB.le hB.lt)
 have SF:v.ownBlock≠some w.heap.size:=fun e=>by have:=(hB.own.lt _ e).2;omega
 have hpn:p≠w.heap.size:=Nat.ne_of_lt hB.lt
 have Cx:=hA.mono Ky
 obtain⟨c0,c1,c2⟩:=zQ BA.blk
 have eO:=zG pF
 have zAY:=Uw base v l nm w.heap.size _ BA.own (zJ pF) eO SF (by omega)
 go_enter Tryz.func129,Tryz.ntmps129
 go_wp2_with fail
 refine zAY.mono ?_
 clear zAY
 rintro e W1 ⟨v1,rfl,o1,g1,k1⟩
 generalize w.alloc (.cells #[.string nm] 9)=W0 at *
 obtain⟨B,gN⟩: ∃B,B=w.heap.size:=⟨_,rfl⟩
 rw[←gN]at pF SF hpn eO
 rw[←gN]
 clear gN hB hA
 obtain⟨a1,m1,Sl,rfl⟩:=uY o1
 have xa:(Value.slice a1 m1 Sl).ownBlock≠some p:=by rw[k1];exact BA.ne
 have zA6:(Value.slice a1 m1 Sl).ownBlock≠some B:=by rw[k1];exact SF
 have NX:=BA.next (Below.refl _ _) g1 o1 xa
 have qu:W1.heap[p]? =some (.cells #[v,x1,x2] 116):=(g1.block p BA.lt (fun e=>BA.ne e.symm)).trans BA.blk
 have mi:=(g1.block B eO (fun e=>SF e.symm)).trans pF
 have z0:=(zQ qu).1
 have zf:=zF (o:=0) qu
 have Qx:(W1.setCell ⟨p,0,none⟩ (.slice a1 m1 Sl)).heap[B]? =some (.cells #[.string nm] 9):=by
  rw[heap_setCell_other W1 ⟨p,0,none⟩ B _ (fun e=>hpn e.symm)];exact mi
 have qM:=Cx.trans (NX.2)
 have fW:Hid ((xP l nm).length≤11):=by unfold Hid;have:(xP l nm).length≤l.length:=List.length_filter_le _ _;omega
 obtain⟨B1,-⟩:=NX
 clear BA g1 o1 k1 c0 c1 c2 pF eO Cx SF qu mi
 by_cases hz:id=0
 ·have HC:Hid (yE l nm id=xP l nm):=if_pos hz
  rw[hz]
  clear hz
  have HF:Hid ((∃v',ut base (W1.setCell ⟨p,0,none⟩ (.slice a1 m1 Sl)) p v' (yE l nm id) x1 x2)∧Below base w (W1.setCell ⟨p,0,none⟩ (.slice a1 m1 Sl))):=⟨⟨_,by rw[HC.out];exact B1⟩,qM⟩
  clear B1 qM Qx
  go_wp2
  refine bodyPost_ret (results_none rfl _ _ _) rfl ?_
  exact⟨rfl,HF.out.1,HF.out.2⟩
 have z1:(id==0)=false:=by simpa using hz
 have HC:Hid (yE l nm id=kT ⟨nm,id⟩ (xP l nm)):=if_neg hz
 clear hz
 go_wp2_with fail
 generalize W1.setCell ⟨p,0,none⟩ (.slice a1 m1 Sl)=W2 at *
 clear z0 zf z1
 have xF:=(Below.refl W2.heap.size W2).drew
 have BD:=B1.below xF
 have jD:=zA5 xF Qx
 have A0:=qM.trans (xF.mono (Nat.le_of_lt (Nat.lt_of_le_of_lt B1.le B1.lt)))
 clear B1 Qx qM xF
 refine zS (fun W=>W.heap[p]? =some (.cells #[.slice a1 m1 Sl,x1,x2] 116)∧W.cell? ⟨B,0,none⟩=some (.string nm)) (fun k=>k==12) (by kernel_rfl) ⟨BD.blk,zJ jD⟩ (fun hS=>?_)
 generalize W2.drew=W3 at *
 refine zAA 0 ?_ rfl ?_ ?_;rotate_left
 ·intro w zD;obtain⟨z0,z1,z2⟩:=zQ zD.1;have z:=zD.2;clear zD;go_simp;rfl
 try simp only[tn]
 refine zAA 1 ?_ rfl ?_ ?_;rotate_left
 ·intro w zD;obtain⟨z0,z1,z2⟩:=zQ zD.1;have z:=zD.2;clear zD;go_simp;rfl
 try simp only[tn]
 refine zAA 2 ?_ rfl ?_ ?_;rotate_left
 ·intro w zD;obtain⟨z0,z1,z2⟩:=zQ zD.1;have z:=zD.2;clear zD;go_simp;rfl
 try simp only[tn]
 refine zAA 3 ?_ rfl ?_ ?_;rotate_left
 ·intro w zD;obtain⟨z0,z1,z2⟩:=zQ zD.1;have z:=zD.2;clear zD;go_simp;rfl
 try simp only[tn]
 refine zAA 4 ?_ rfl ?_ ?_;rotate_left
 ·intro w zD;obtain⟨z0,z1,z2⟩:=zQ zD.1;have z:=zD.2;clear zD;go_simp;rfl
 try simp only[tn]
 refine zAA 5 ?_ rfl ?_ ?_;rotate_left
 ·intro w zD;obtain⟨z0,z1,z2⟩:=zQ zD.1;have z:=zD.2;clear zD;go_simp;rfl
 try simp only[tn]
 refine zAA 6 ?_ rfl ?_ ?_;rotate_left
 ·intro w zD;obtain⟨z0,z1,z2⟩:=zQ zD.1;have z:=zD.2;clear zD;go_simp;rfl
 try simp only[tn]
 refine zAA 7 ?_ rfl ?_ ?_;rotate_left
 ·intro w zD;obtain⟨z0,z1,z2⟩:=zQ zD.1;have z:=zD.2;clear zD;go_simp;rfl
 try simp only[tn]
 refine zAC 8 rfl fun K hK=>?_
 go_simp
 obtain⟨W4,Np⟩: ∃W4,W4=W3.alloc (.cells #[.string nm,.int .i64 id] 65):=⟨_,rfl⟩
 have xR:Below W3.heap.size W3 W4:=by rw[Np];exact zB _ _
 have Sq:W4.heap[W3.heap.size]? =some (.cells #[.string nm,.int .i64 id] 65):=by rw[Np];exact heap_alloc_new W3 _
 rw[←Np]
 clear Np
 have mg:W4.heap[p]? =some (.cells #[.slice a1 m1 Sl,x1,x2] 116)∧W4.cell? ⟨B,0,none⟩=some (.string nm):=⟨(xR.block _ (zG hS.1)).trans hS.1,(xR.cell (p:=⟨B,0,none⟩) (zG jD)).trans hS.2⟩
 refine hK _ _ (fun _=>mg) ?_
 clear hK K hS
 try simp only[tn]
 refine zAC 9 rfl fun K hK=>?_
 have B4:=BD.below xR
 obtain⟨v5,W5,Lo,Y4,Rx,hk5⟩:=Sh W4 base 34 _ (xP l nm).length (xM (xP l nm)) B4.own W3.heap.size _ Sq rfl (by intro u hu;simp only[List.mem_cons,List.not_mem_nil,or_false]at hu;rcases hu with rfl|rfl<;>rfl) (by have:=fW.out;omega) (Nat.le_of_lt (Nat.lt_of_le_of_lt B4.le B4.lt))
 obtain⟨g5,m5,c5,rfl⟩:=uY Y4
 refine sT (by rfl) (.tmp 21) (.tmp 25) (by rfl) _ _ (by rfl) (by rfl) Lo ?_
 have El:=(Rx.block _ B4.lt (fun e=>B4.ne e.symm)).trans B4.blk
 have Y8:W5.heap[p]? =some (.cells #[.slice a1 m1 Sl,x1,x2] 116)∧W5.cell? ⟨B,0,none⟩=some (.string nm):=⟨El,(World.cell?_of_block (a:=⟨B,0,none⟩) (Rx.block B (Nat.lt_of_lt_of_le (zG jD) xR.size) (fun e=>zA6 e.symm))).trans mg.2⟩
 refine hK _ _ (fun _=>Y8) ?_
 clear hK K mg Lo
 try simp only[tn]
 refine zAC 10 rfl fun K hK=>?_
 go_simp
 refine hK _ _ (fun _=>Y8) ?_
 clear hK K
 try simp only[tn]
 refine zAC 11 rfl fun K hK=>?_
 go_simp
 refine hK _ _ (fun _=>Y8) ?_
 clear hK K
 try simp only[tn]
 clear Y8
 have zc:=(zQ El).1
 have zf:=zF (o:=0) El
 refine zAC 12 rfl fun K hK=>?_
 go_simp
 refine hK _ _ (fun h=>by cases h) ?_
 clear hK K
 try simp only[tn]
 refine zAE ?_
 have NX:=BD.next (l':=xP l nm++[⟨nm,id⟩]) xR Rx (by rw[List.length_append,sj];exact Y4) (fun e=>by
  rcases hk5 p e with q|q
  ·exact B4.ne q
  ·have:=B4.lt;omega)
 have My:=A0.trans NX.2
 obtain⟨B6,-⟩:=NX
 clear Rx Y4 hk5 El Sq xR BD jD A0 zf zc B4 hpn zA6
 generalize W5.setCell ⟨p,0,none⟩ (.slice g5 m5 c5)=W6 at *
 have Bt:Hid ((xP l nm++[(⟨nm,id⟩:Rf)]).length≤12):=by unfold Hid;rw[List.length_append];have:=fW.out;simp only[List.length_singleton];omega
 have HLp:Hid (0<(xP l nm++[(⟨nm,id⟩:Rf)]).length):=by unfold Hid;rw[List.length_append];simp
 obtain⟨L,hL⟩: ∃L,L=xP l nm++[(⟨nm,id⟩:Rf)]:=⟨_,rfl⟩
 rw[←hL]at B6 Bt HLp
 have HL:Hid (L=xP l nm++[(⟨nm,id⟩:Rf)]):=hL
 clear hL fW
 obtain⟨g,cap,hv6⟩: ∃g cap,(Value.slice g5 m5 c5)= .slice (some ⟨g,0,none⟩) L.length cap:=by
  rcases B6.own.2 with⟨_,e⟩|⟨g,cap,_,e,_⟩
  ·have:=HLp.out;omega
  ·exact⟨g,cap,e⟩
 cases hv6
 have Jt:=Qi base g c5 L W6 B6.own Bt.out
 obtain⟨c0,c1,c2⟩:=zQ B6.blk
 go_wp2_with fail
 refine Jt.mono ?_
 clear Jt
 rintro e W7 ⟨rfl,d,hp,hs,o7,g7⟩
 have hd:d=kT ⟨nm,id⟩ (xP l nm):=Mm (m6 HS.out nm) (fun r hr=>(mZ.1 hr).2) (by rw[←HL.out];exact hp) hs
 have Uh:d.length=L.length:=hp.length_eq
 have TN:=B6.turned (l':=d) g7 (by rw[Uh];exact o7)
 have HF:Hid ((∃v',ut base W7 p v' (yE l nm id) x1 x2)∧Below base w W7):=⟨⟨_,by rw[HC.out,←hd];exact TN.1⟩,My.trans TN.2⟩
 clear TN hd Uh o7 g7 hp hs B6 My c0 c1 c2
 go_wp2
 go_end0
 exact⟨rfl,HF.out.1,HF.out.2⟩
theorem bq(p:Nat)(v:Value)(ao:Option Addr)(co:Nat)(o:List Ob)(force:Bool)(u:Up)(w:World)(hP:w.heap[p]? =some (.cells #[v,.slice ao o.length co,.bool force] 116))(ho:zP w ao o)(hroom:rT w ao o)(jF:o.length≤9223372036854775807):
  Calls Tryz.prog 128 #[.pointer (some ⟨p,0,none⟩),u.val] w fun e w'=>e= .returned (.int .i64 (rB o force u))∧Below w.heap.size w w':=by
 have hA:=zB w (.cells #[.string u.name,.int .i64 u.old,.int .i64 u.new] 40)
 have pF:=heap_alloc_new w (.cells #[.string u.name,.int .i64 u.old,.int .i64 u.new] 40)
 have hPA:=zA5 hA hP
 obtain⟨y0,y1,y2⟩:=zQ pF
 have HM:Hid (∀old,old=(if u.old=0 then u.new else u.old)→rB o force u=if yZ o old u.new≠0 then yZ o old u.new else if xT o old u.new||force then 0 else 4):=by
  intro old e;rw[e];rfl
 have FK:=ho.below hA
 have KI:=hroom.below hA
 have main: ∀(old:Int) (b:Bool),(u.old==0)=b→old=(if u.old=0 then u.new else u.old)→old=(if b=true then u.new else u.old)→Calls Tryz.prog 128 #[.pointer (some ⟨p,0,none⟩),u.val] w fun e w'=>e= .returned (.int .i64 (rB o force u))∧Below w.heap.size w w':=by
  intro old b hb hold SN
  have HM1:=HM.out old hold
  have CO:Hid (rB o force u=if yZ o old u.new≠0 then yZ o old u.new else if xT o old u.new||force then 0 else 4):=HM1
  clear HM HM1 hold hP ho hroom
  cases b with
  |true=>
   have e:old=u.new:=SN
   subst e
   clear SN
   go_enter Tryz.func128,Tryz.ntmps128
   go_wp2_with fail
   generalize w.alloc (.cells #[.string u.name,.int .i64 u.old,.int .i64 u.new] 40)=W at *
   obtain⟨B,gN⟩: ∃B,B=w.heap.size:=⟨_,rfl⟩
   have xF:=(Below.refl W.heap.size W).drew
   have hPD:=zA5 xF hPA
   have jD:=zA5 xF pF
   have Hc:=FK.below xF
   have Jg:=KI.below xF
   have nf:=bt hA xF
   rw[←gN]at jD
   rw[←gN]
   clear gN xF hPA pF FK KI hA y0 y1 y2
   refine zS (fun W=>W.heap[p]? =some (.cells #[v,.slice ao o.length co,.bool force] 116)∧W.heap[B]? =some (.cells #[.string u.name,.int .i64 u.old,.int .i64 u.new] 40)) (fun _=>false) (by kernel_rfl) ⟨hPD,jD⟩ (fun hS=>?_)
   generalize W.drew=W0 at *
   refine zAA 0 ?_ rfl ?_ ?_;rotate_left
   ·intro w zD;obtain⟨z0,z1,z2⟩:=zQ zD.1;obtain⟨z3,z4,z5⟩:=zQ zD.2;clear zD;go_simp;rfl
   try simp only[tn]
   refine zAA 1 ?_ rfl ?_ ?_;rotate_left
   ·intro w zD;obtain⟨z0,z1,z2⟩:=zQ zD.1;obtain⟨z3,z4,z5⟩:=zQ zD.2;clear zD;go_simp;rfl
   try simp only[tn]
   refine zAA 2 ?_ rfl ?_ ?_;rotate_left
   ·intro w zD;obtain⟨z0,z1,z2⟩:=zQ zD.1;obtain⟨z3,z4,z5⟩:=zQ zD.2;clear zD;go_simp;rfl
   try simp only[tn]
   refine zAA 3 ?_ rfl ?_ ?_;rotate_left
   ·intro w zD;obtain⟨z0,z1,z2⟩:=zQ zD.1;obtain⟨z3,z4,z5⟩:=zQ zD.2;clear zD;go_simp;rfl
   try simp only[tn]
   refine zAA 4 ?_ rfl ?_ ?_;rotate_left
   ·intro w zD;obtain⟨z0,z1,z2⟩:=zQ zD.1;obtain⟨z3,z4,z5⟩:=zQ zD.2;clear zD;go_simp;rfl
   try simp only[tn]
   refine zAA 5 ?_ rfl ?_ ?_;rotate_left
   ·intro w zD;obtain⟨z0,z1,z2⟩:=zQ zD.1;obtain⟨z3,z4,z5⟩:=zQ zD.2;clear zD;go_simp;rfl
   try simp only[tn]
   refine zAA 6 ?_ rfl ?_ ?_;rotate_left
   ·intro w zD;obtain⟨z0,z1,z2⟩:=zQ zD.1;obtain⟨z3,z4,z5⟩:=zQ zD.2;clear zD;go_simp;rfl
   try simp only[tn]
   refine zAC 7 rfl fun K hK=>?_
   go_simp
   refine(cE ao co o u.new u.new W0 Hc Jg jF).mono ?_
   rintro e W1 ⟨rfl,fE⟩
   have zT:=bt nf fE
   have ue:W1.heap[p]? =some (.cells #[v,.slice ao o.length co,.bool force] 116)∧W1.heap[B]? =some (.cells #[.string u.name,.int .i64 u.old,.int .i64 u.new] 40):=⟨(fE.block _ (zG hS.1)).trans hS.1,(fE.block _ (zG hS.2)).trans hS.2⟩
   clear fE hS nf Hc Jg
   refine hK _ _ (fun _=>ue) ?_
   clear hK K
   try simp only[tn]
   refine zAA 8 ?_ rfl ?_ ?_;rotate_left
   ·intro w zD;go_simp;rfl
   try simp only[tn]
   refine zAA 9 ?_ rfl ?_ ?_;rotate_left
   ·intro w zD;go_simp;rfl
   try simp only[tn]
   refine zAA 10 ?_ rfl ?_ ?_;rotate_left
   ·intro w zD;go_simp;rfl
   try simp only[tn]
   refine zAA 11 ?_ rfl ?_ ?_;rotate_left
   ·intro w zD;go_simp;rfl
   try simp only[tn]
   refine zAA 12 ?_ rfl ?_ ?_;rotate_left
   ·intro w zD;go_simp;rfl
   try simp only[tn]
   refine zAE ?_
   obtain⟨z0,z1,z2⟩:=zQ ue.1
   clear ue hPD jD
   by_cases k1:yZ o u.new u.new=0
   case neg=>
    have HR:Hid (rB o force u=yZ o u.new u.new):=by unfold Hid;rw[CO.out,if_pos k1]
    have q1:(yZ o u.new u.new==0)=false:=by simpa using k1
    clear k1
    go_wp2
    go_ret
    exact⟨zE HR.out.symm,zT⟩
   have NU:Hid (rB o force u=if xT o u.new u.new||force then 0 else 4):=by unfold Hid;rw[CO.out,if_neg (fun e=>e k1)]
   rw[k1]
   clear k1 CO
   cases k2:xT o u.new u.new with
   |true=>
    have HR:Hid (rB o force u=0):=by unfold Hid;rw[NU.out,k2];rfl
    clear k2
    go_wp2
    go_ret
    exact⟨zE HR.out.symm,zT⟩
   |false=>
    cases force with
    |true=>
     have HR:Hid (rB o true u=0):=by unfold Hid;rw[NU.out,k2];rfl
     clear k2
     go_wp2
     go_ret
     exact⟨zE HR.out.symm,zT⟩
    |false=>
     have HR:Hid (rB o false u=4):=by unfold Hid;rw[NU.out,k2];rfl
     clear k2
     go_wp2
     go_ret
     exact⟨zE HR.out.symm,zT⟩
  |false=>
   have e:old=u.old:=SN
   subst e
   clear SN
   go_enter Tryz.func128,Tryz.ntmps128
   go_wp2_with fail
   generalize w.alloc (.cells #[.string u.name,.int .i64 u.old,.int .i64 u.new] 40)=W at *
   obtain⟨B,gN⟩: ∃B,B=w.heap.size:=⟨_,rfl⟩
   have xF:=(Below.refl W.heap.size W).drew
   have hPD:=zA5 xF hPA
   have jD:=zA5 xF pF
   have Hc:=FK.below xF
   have Jg:=KI.below xF
   have nf:=bt hA xF
   rw[←gN]at jD
   rw[←gN]
   clear gN xF hPA pF FK KI hA y0 y1 y2
   refine zS (fun W=>W.heap[p]? =some (.cells #[v,.slice ao o.length co,.bool force] 116)∧W.heap[B]? =some (.cells #[.string u.name,.int .i64 u.old,.int .i64 u.new] 40)) (fun _=>false) (by kernel_rfl) ⟨hPD,jD⟩ (fun hS=>?_)
   generalize W.drew=W0 at *
   refine zAA 0 ?_ rfl ?_ ?_;rotate_left
   ·intro w zD;obtain⟨z0,z1,z2⟩:=zQ zD.1;obtain⟨z3,z4,z5⟩:=zQ zD.2;clear zD;go_simp;rfl
   try simp only[tn]
   refine zAA 1 ?_ rfl ?_ ?_;rotate_left
   ·intro w zD;obtain⟨z0,z1,z2⟩:=zQ zD.1;obtain⟨z3,z4,z5⟩:=zQ zD.2;clear zD;go_simp;rfl
   try simp only[tn]
   refine zAA 2 ?_ rfl ?_ ?_;rotate_left
   ·intro w zD;obtain⟨z0,z1,z2⟩:=zQ zD.1;obtain⟨z3,z4,z5⟩:=zQ zD.2;clear zD;go_simp;rfl
   try simp only[tn]
   refine zAA 3 ?_ rfl ?_ ?_;rotate_left
   ·intro w zD;obtain⟨z0,z1,z2⟩:=zQ zD.1;obtain⟨z3,z4,z5⟩:=zQ zD.2;clear zD;go_simp;rfl
   try simp only[tn]
   refine zAA 4 ?_ rfl ?_ ?_;rotate_left
   ·intro w zD;obtain⟨z0,z1,z2⟩:=zQ zD.1;obtain⟨z3,z4,z5⟩:=zQ zD.2;clear zD;go_simp;rfl
   try simp only[tn]
   refine zAA 5 ?_ rfl ?_ ?_;rotate_left
   ·intro w zD;obtain⟨z0,z1,z2⟩:=zQ zD.1;obtain⟨z3,z4,z5⟩:=zQ zD.2;clear zD;go_simp;rfl
   try simp only[tn]
   refine zAA 6 ?_ rfl ?_ ?_;rotate_left
   ·intro w zD;obtain⟨z0,z1,z2⟩:=zQ zD.1;obtain⟨z3,z4,z5⟩:=zQ zD.2;clear zD;go_simp;rfl
   try simp only[tn]
   refine zAC 7 rfl fun K hK=>?_
   go_simp
   refine(cE ao co o u.old u.new W0 Hc Jg jF).mono ?_
   rintro e W1 ⟨rfl,fE⟩
   have zT:=bt nf fE
   have ue:W1.heap[p]? =some (.cells #[v,.slice ao o.length co,.bool force] 116)∧W1.heap[B]? =some (.cells #[.string u.name,.int .i64 u.old,.int .i64 u.new] 40):=⟨(fE.block _ (zG hS.1)).trans hS.1,(fE.block _ (zG hS.2)).trans hS.2⟩
   clear fE hS nf Hc Jg
   refine hK _ _ (fun _=>ue) ?_
   clear hK K
   try simp only[tn]
   refine zAA 8 ?_ rfl ?_ ?_;rotate_left
   ·intro w zD;go_simp;rfl
   try simp only[tn]
   refine zAA 9 ?_ rfl ?_ ?_;rotate_left
   ·intro w zD;go_simp;rfl
   try simp only[tn]
   refine zAA 10 ?_ rfl ?_ ?_;rotate_left
   ·intro w zD;go_simp;rfl
   try simp only[tn]
   refine zAA 11 ?_ rfl ?_ ?_;rotate_left
   ·intro w zD;go_simp;rfl
   try simp only[tn]
   refine zAA 12 ?_ rfl ?_ ?_;rotate_left
   ·intro w zD;go_simp;rfl
   try simp only[tn]
   refine zAE ?_
   obtain⟨z0,z1,z2⟩:=zQ ue.1
   clear ue hPD jD
   by_cases k1:yZ o u.old u.new=0
   case neg=>
    have HR:Hid (rB o force u=yZ o u.old u.new):=by unfold Hid;rw[CO.out,if_pos k1]
    have q1:(yZ o u.old u.new==0)=false:=by simpa using k1
    clear k1
    go_wp2
    go_ret
    exact⟨zE HR.out.symm,zT⟩
   have NU:Hid (rB o force u=if xT o u.old u.new||force then 0 else 4):=by unfold Hid;rw[CO.out,if_neg (fun e=>e k1)]
   rw[k1]
   clear k1 CO
   cases k2:xT o u.old u.new with
   |true=>
    have HR:Hid (rB o force u=0):=by unfold Hid;rw[NU.out,k2];rfl
    clear k2
    go_wp2
    go_ret
    exact⟨zE HR.out.symm,zT⟩
   |false=>
    cases force with
    |true=>
     have HR:Hid (rB o true u=0):=by unfold Hid;rw[NU.out,k2];rfl
     clear k2
     go_wp2
     go_ret
     exact⟨zE HR.out.symm,zT⟩
    |false=>
     have HR:Hid (rB o false u=4):=by unfold Hid;rw[NU.out,k2];rfl
     clear k2
     go_wp2
     go_ret
     exact⟨zE HR.out.symm,zT⟩
 cases hb:(u.old==0)with
 |true=>exact main u.new true hb (by rw[if_pos (by simpa using hb)]) rfl
 |false=>exact main u.old false hb (by rw[if_neg (by simpa using hb)]) rfl
theorem Tc(base p:Nat)(v:Value)(l:List Rf)(ao:Option Addr)(co:Nat)(o:List Ob)(force:Bool)(u:Up)(w:World)(hg:xr w)(hB:ut base w p v l (.slice ao o.length co) (.bool force))(hS:te l)(hl:l.length≤11)(ho:zP w ao o)(hroom:rT w ao o)(jF:o.length≤9223372036854775807):
  Calls Tryz.prog 72 #[.pointer (some ⟨p,0,none⟩),u.val] w fun e w'=>e= .returned (.int .i64 (xo o force l u))∧(xo o force l u=0→∃v',ut base w' p v' (yE l u.name u.new) (.slice ao o.length co) (.bool force))∧Below base w w':=by
 have hA:=zB w (.cells #[.string u.name,.int .i64 u.old,.int .i64 u.new] 40)
 have pF:=heap_alloc_new w (.cells #[.string u.name,.int .i64 u.old,.int .i64 u.new] 40)
 have Ky:base≤w.heap.size:=Nat.le_of_lt (Nat.lt_of_le_of_lt hB.le hB.lt)
 have BA:=hB.below hA
 have CI:=hg.below hA
 have FK:=ho.below hA
 have KI:=hroom.below hA
 have Cx:=hA.mono Ky
 have HS:Hid (te l):=hS
 have HF:Hid (xo o force l u=if jm l u.name≠u.old then 4 else if u.new=0 then 0 else rB o force u):=rfl
 obtain⟨a,c,hv,hh⟩:=qJ BA.own
 subst hv
 clear hS hB ho hroom hg
 go_enter Tryz.func72,Tryz.ntmps72
 go_wp2_with fail
 generalize w.alloc (.cells #[.string u.name,.int .i64 u.old,.int .i64 u.new] 40)=W at *
 obtain⟨B,gN⟩: ∃B,B=w.heap.size:=⟨_,rfl⟩
 have xF:=(Below.refl W.heap.size W).drew
 have BD:=BA.below xF
 have jD:=zA5 xF pF
 have Hc:=FK.below xF
 have Jg:=KI.below xF
 have Js:=CI.below xF
 have Hx:=hh.below xF
 have nf:=Cx.trans (xF.mono (Nat.le_of_lt (Nat.lt_of_le_of_lt BA.le BA.lt)))
 rw[←gN]at jD
 rw[←gN]
 clear gN xF BA pF FK KI hA Cx CI hh Ky
 refine zS (fun W=>W.heap[p]? =some (.cells #[.slice a l.length c,.slice ao o.length co,.bool force] 116)∧W.heap[B]? =some (.cells #[.string u.name,.int .i64 u.old,.int .i64 u.new] 40)) (fun _=>false) (by kernel_rfl) ⟨BD.blk,jD⟩ (fun hS=>?_)
 generalize W.drew=W0 at *
 refine zAA 0 ?_ rfl ?_ ?_;rotate_left
 ·intro w zD;obtain⟨z0,z1,z2⟩:=zQ zD.1;obtain⟨z3,z4,z5⟩:=zQ zD.2;clear zD;go_simp;rfl
 try simp only[tn]
 refine zAA 1 ?_ rfl ?_ ?_;rotate_left
 ·intro w zD;obtain⟨z0,z1,z2⟩:=zQ zD.1;obtain⟨z3,z4,z5⟩:=zQ zD.2;clear zD;go_simp;rfl
 try simp only[tn]
 refine zAA 2 ?_ rfl ?_ ?_;rotate_left
 ·intro w zD;obtain⟨z0,z1,z2⟩:=zQ zD.1;obtain⟨z3,z4,z5⟩:=zQ zD.2;clear zD;go_simp;rfl
 try simp only[tn]
 refine zAA 3 ?_ rfl ?_ ?_;rotate_left
 ·intro w zD;obtain⟨z0,z1,z2⟩:=zQ zD.1;obtain⟨z3,z4,z5⟩:=zQ zD.2;clear zD;go_simp;rfl
 try simp only[tn]
 refine zAA 4 ?_ rfl ?_ ?_;rotate_left
 ·intro w zD;obtain⟨z0,z1,z2⟩:=zQ zD.1;obtain⟨z3,z4,z5⟩:=zQ zD.2;clear zD;go_simp;rfl
 try simp only[tn]
 refine zAA 5 ?_ rfl ?_ ?_;rotate_left
 ·intro w zD;obtain⟨z0,z1,z2⟩:=zQ zD.1;obtain⟨z3,z4,z5⟩:=zQ zD.2;clear zD;go_simp;rfl
 try simp only[tn]
 refine zAC 6 rfl fun K hK=>?_
 go_simp
 refine(Kj a c l u.name W0 Js Hx (by omega)).mono ?_
 rintro e W1 ⟨rfl,fE⟩
 have B1:=BD.below fE
 have mi:=zA5 fE jD
 have ue:W1.heap[p]? =some (.cells #[.slice a l.length c,.slice ao o.length co,.bool force] 116)∧W1.heap[B]? =some (.cells #[.string u.name,.int .i64 u.old,.int .i64 u.new] 40):=⟨B1.blk,mi⟩
 have bO:=Hc.below fE
 have bg:=Jg.below fE
 have kJ:=nf.trans (fE.mono (Nat.le_of_lt (Nat.lt_of_le_of_lt BD.le BD.lt)))
 clear fE hS nf Hc Jg BD jD Js Hx
 refine hK _ _ (fun _=>ue) ?_
 clear hK K
 try simp only[tn]
 refine zAA 7 ?_ rfl ?_ ?_;rotate_left
 ·intro w zD;go_simp;rfl
 try simp only[tn]
 refine zAA 8 ?_ rfl ?_ ?_;rotate_left
 ·intro w zD;go_simp;rfl
 try simp only[tn]
 refine zAA 9 ?_ rfl ?_ ?_;rotate_left
 ·intro w zD;go_simp;rfl
 try simp only[tn]
 refine zAA 10 ?_ rfl ?_ ?_;rotate_left
 ·intro w zD;go_simp;rfl
 try simp only[tn]
 refine zAA 11 ?_ rfl ?_ ?_;rotate_left
 ·intro w zD;go_simp;rfl
 try simp only[tn]
 refine zAE ?_
 clear ue
 obtain⟨y0,y1,y2⟩:=zQ mi
 by_cases k1:jm l u.name=u.old
 case neg=>
  have HR:Hid (xo o force l u=4):=by unfold Hid;rw[HF.out,if_pos k1]
  have q1:(jm l u.name != u.old)=true:=by simpa using k1
  clear k1
  go_wp2
  go_ret
  exact⟨zE HR.out.symm,(fun e=>by rw[HR.out]at e;cases e),kJ⟩
 have HF1:Hid (xo o force l u=if u.new=0 then 0 else rB o force u):=by unfold Hid;rw[HF.out,if_neg (fun e=>e k1)]
 rw[k1]
 clear k1 HF
 by_cases k2:u.new=0
 ·have HR:Hid (xo o force l u=0):=by unfold Hid;rw[HF1.out,if_pos k2]
  have q1:(u.new != 0)=false:=by simp[k2]
  have H5:=bH base p _ l _ _ u.name u.new W1 B1 HS.out hl
  clear k2
  go_wp2_with fail
  refine H5.mono ?_
  clear H5
  rintro e W2 ⟨rfl,Zc,zZ⟩
  have gV:=kJ.trans zZ
  clear zZ kJ B1 mi y0 y1 y2 bO bg
  go_wp2
  go_ret
  exact⟨zE HR.out.symm,fun _=>Zc,gV⟩
 have HF2:Hid (xo o force l u=rB o force u):=by unfold Hid;rw[HF1.out,if_neg k2]
 have q1:(u.new != 0)=true:=by simpa using k2
 have hmb:=bq p _ ao co o force u W1 B1.blk bO bg jF
 clear k2 HF1
 go_wp2_with fail
 refine hmb.mono ?_
 clear hmb
 rintro e W2 ⟨rfl,zZ⟩
 have B2:=B1.below zZ
 have Qx:=zA5 zZ mi
 have gV:=kJ.trans (zZ.mono (Nat.le_of_lt (Nat.lt_of_le_of_lt B1.le B1.lt)))
 clear zZ B1 mi kJ y0 y1 y2 bO bg
 obtain⟨y0,y1,y2⟩:=zQ Qx
 by_cases k3:rB o force u=0
 case neg=>
  have q3:(rB o force u != 0)=true:=by simpa using k3
  have HN:Hid (rB o force u≠0):=k3
  clear k3
  go_wp2
  go_ret
  exact⟨zE HF2.out.symm,(fun e=>absurd (HF2.out.symm.trans e) HN.out),gV⟩
 have HR:Hid (xo o force l u=0):=HF2.out.trans k3
 rw[k3]
 clear k3 HF2
 have H5:=bH base p _ l _ _ u.name u.new W2 B2 HS.out hl
 go_wp2_with fail
 refine H5.mono ?_
 clear H5
 rintro e W3 ⟨rfl,Zc,yT⟩
 have N8:=gV.trans yT
 clear yT gV B2 Qx y0 y1 y2
 go_wp2
 go_ret
 exact⟨zE HR.out.symm,fun _=>Zc,N8⟩
theorem DT{o:List Ob}{force:Bool}{L0 L:List Rf}{m:List Up}{k:Nat}(hk:k<m.length)(H:uN o force L0 m=uN o force L (m.drop k)∧yK L0 m=yK L (m.drop k))(h:xo o force L m[k]≠0):uN o force L0 m=xo o force L m[k]:=by
 rw[H.1,List.drop_eq_getElem_cons hk,uN,if_pos h]
theorem JC{o:List Ob}{force:Bool}{L0 L:List Rf}{m:List Up}{k:Nat}(hk:k<m.length)(H:uN o force L0 m=uN o force L (m.drop k)∧yK L0 m=yK L (m.drop k))(h:xo o force L m[k]=0):
  uN o force L0 m=uN o force (yE L m[k].name m[k].new) (m.drop (k+1))∧yK L0 m=yK (yE L m[k].name m[k].new) (m.drop (k+1)):=by
 rw[H.1,H.2,List.drop_eq_getElem_cons hk,uN,yK,if_neg (fun e=>e h)]
 exact⟨rfl,rfl⟩
theorem Gs{o:List Ob}{force:Bool}{L0 L:List Rf}{m:List Up}{k:Nat}(hk: ¬k<m.length)(H:uN o force L0 m=uN o force L (m.drop k)∧yK L0 m=yK L (m.drop k)):uN o force L0 m=0∧yK L0 m=L:=by
 rw[H.1,H.2,List.drop_of_length_le (by omega)];exact⟨rfl,rfl⟩
theorem VZ(a:Option Addr)(c:Nat)(us:List Up)(L0:List Rf)(p:Nat)(v0:Value)(ao:Option Addr)(co:Nat)(o:List Ob)(force:Bool)(w0 w:World)(hg:xr w0)(h:zx w0 a us)(ho:zP w0 ao o)(hroom:rT w0 ao o)(jF:o.length≤9223372036854775807)(hB:Below w0.heap.size w0 w)(B0:ut w0.heap.size w p v0 L0 (.slice ao o.length co) (.bool force))(tw:te L0)
  (hl:L0.length+us.length≤12):
  Calls Tryz.prog 71 #[.slice a us.length c,.func (.func 72) #[.pointer (some ⟨p,0,none⟩)] #[]] w fun e w'=>e= .returned (.int .i64 (uN o force L0 us))∧(uN o force L0 us=0→∃v',ut w0.heap.size w' p v' (yK L0 us) (.slice ao o.length co) (.bool force))∧Below w0.heap.size w0 w':=by
 have CV:us.length≤9223372036854775807:=by omega
 go_enter Tryz.func71,Tryz.ntmps71
 go_wp2
 go_loopw [10] (fun i wr=>∃(k:Nat) (v:Value) (L:List Rf),i= .int .i64 k∧k≤us.length∧Hid (te L)∧L.length≤L0.length+k∧ut w0.heap.size wr p v L (.slice ao o.length co) (.bool force)∧Below w0.heap.size w0 wr∧Hid (uN o force L0 us=uN o force L (us.drop k)∧yK L0 us=yK L (us.drop k))) (fun i _=>us.length-(intOf i).toNat)
 case atStart=>exact⟨0,v0,L0,rfl,Nat.zero_le _,tw,by omega,B0,hB,rfl,rfl⟩
 case round=>
  clear B0 tw
  obtain⟨k,v,L,rfl,hk,HL,hLk,BH,vH,H⟩:=hrel
  by_cases zN:k<us.length
  ·obtain⟨b,off,rfl,hb,hc⟩:=(h.below vH) k zN
   obtain⟨y0,y1,y2⟩:=hc k zN
   clear hc
   have hA:=zB wr (.cells #[.string us[k].name,.int .i64 us[k].old,.int .i64 us[k].new] 40)
   have mq:=bt vH hA
   have CS:=Tc w0.heap.size p v L ao co o force us[k] _ (hg.below mq) (BH.below hA) HL.out (by omega) (ho.below mq) (hroom.below mq) jF
   go_wp2_with fail
   refine CS.mono ?_
   clear CS
   rintro e w1 ⟨rfl,Zc,zM⟩
   have zT:=mq.trans zM
   have Lb:Hid ((yE L us[k].name us[k].new).length≤L0.length+(k+1)):=by have:=uJ L us[k].name us[k].new;unfold Hid;omega
   have HSl:Hid (te (yE L us[k].name us[k].new)):=XX HL.out _ _
   clear zM hA y0 y1 y2 vH BH mq
   by_cases hz:xo o force L us[k]=0
   ·have HN:Hid (_∧_):=JC zN H.out hz
    obtain⟨v',B1⟩:=Zc hz
    rw[hz]
    clear hz
    go_wp2
    go_roundw
    case rel=>exact⟨k+1,v',_,by go_num,by omega,HSl,Lb.out,B1,zT,HN⟩
    case measure=>simp[intOf];omega
   ·have HR:Hid (uN o force L0 us=xo o force L us[k]):=DT zN H.out hz
    have HZ:Hid (¬xo o force L us[k]=0):=hz
    have CW:(xo o force L us[k] != 0)=true:=by simpa using hz
    clear hz Zc
    go_wp2
    go_ret
    exact⟨zE HR.out.symm,fun e=>absurd (HR.out.symm.trans e) HZ.out,zT⟩
  ·have HR:Hid (uN o force L0 us=0∧yK L0 us=L):=Gs zN H.out
   go_wp2
   go_ret
   exact⟨zE HR.out.1.symm,fun _=>⟨v,by rw[HR.out.2];exact BH⟩,vH⟩
theorem Vv{w:World}{l:List Rf}(h:yU w none l):l=[]:=by
 cases l with
 |nil=>rfl
 |cons x l=>obtain⟨b,off,e,_⟩:=h 0 (by simp);cases e
theorem Yp(a:Option Addr)(c:Nat)(l:List Rf)(x1:Value)(force:Bool)(hx1: ∃g n c,x1= .slice g n c)(w:World)(h:yU w a l)(hl:l.length≤900):
  Calls Tryz.prog 70 #[.slice a l.length c,x1,.bool force] w fun e w'=>∃p v,e= .returned (.pointer (some ⟨p,0,none⟩))∧ut w.heap.size w' p v l x1 (.bool force)∧Below w.heap.size w w':=by
 obtain⟨g1,n1,c1,rfl⟩:=hx1
 go_enter Tryz.func70,Tryz.ntmps70
 go_wp2_with fail
 refine(Vt a c l w h hl (fun e=>by subst e;exact Vv h)).mono ?_
 rintro e w1 ⟨v',rfl,o1,zM⟩
 obtain⟨a1,m1,Sl,rfl⟩:=uY o1
 have hA:=zB w1 (.cells #[.slice a1 m1 Sl,.slice g1 n1 c1,.bool force] 116)
 have HF:Hid (ut w.heap.size (w1.alloc (.cells #[.slice a1 m1 Sl,.slice g1 n1 c1,.bool force] 116)) w1.heap.size (.slice a1 m1 Sl) l (.slice g1 n1 c1) (.bool force)∧Below w.heap.size w (w1.alloc (.cells #[.slice a1 m1 Sl,.slice g1 n1 c1,.bool force] 116))):=
  ⟨⟨heap_alloc_new w1 _,zM.size,yi o1 (fun g hg=>hA.block g (o1.lt g hg).2),fun e=>by have:=(o1.lt _ e).2;omega⟩,(bt zM hA)⟩
 clear o1 zM hA h
 go_wp2
 go_ret
 exact⟨_,_,rfl,HF.out.1,HF.out.2⟩
def vO(l:List Rf)(o:List Ob)(us:List Up)(force:Bool)(w:World)(e:Ending)(w':World):Prop:=
 Below w.heap.size w w'∧((xI l o us force≠0∧e= .returned (.tuple #[.slice none 0 0,.int .i64 (xI l o us force)]))∨
  (xI l o us force=0∧∃a' c',e= .returned (.tuple #[.slice a' (yK l us).length c',.int .i64 0])∧yU w' a' (yK l us)∧(yK l us).length≤c'∧w'.ownsRow w.heap.size 65 2 (.slice a' (yK l us).length c') (yK l us).length (xM (yK l us))))
theorem vO.bad{l:List Rf}{o:List Ob}{us:List Up}{force:Bool}{w w':World}{r:Int}(hr:xI l o us force=r)(h0:r≠0)(hb:Below w.heap.size w w'):vO l o us force w (.returned (.tuple #[.slice none 0 0,.int .i64 r])) w':=
 ⟨hb,.inl ⟨by rw[hr];exact h0,by rw[hr]⟩⟩
theorem fD{w:World}{z z':Nat}{e:TypeId}{size:Nat}{v:Value}{n:Nat}{xs:List Value}(h:w.ownsRow z e size v n xs)(hz:z'≤z):w.ownsRow z' e size v n xs:=by
 refine⟨h.1,?_⟩
 rcases h.2 with q|⟨g,cap,cur,q1,q2,q3⟩
 ·exact .inl q
 ·exact .inr ⟨g,cap,cur,q1,Nat.le_trans hz q2,q3⟩
theorem XW{w:World}{base:Nat}{v:Value}{xs:List Rf}(h:w.ownsRow base 65 2 v xs.length (xM xs)): ∃a c,v= .slice a xs.length c∧yU w a xs∧xs.length≤c:=by
 obtain⟨a,c,hv,hh⟩:=qJ h
 refine⟨a,c,hv,hh,?_⟩
 rcases h.2 with⟨e,e2⟩|⟨g,cap,cur,e,_,_,h3,_⟩
 ·omega
 ·rw[hv]at e;cases e;exact h3
theorem az(a:Option Addr)(c:Nat)(l:List Rf)(ao:Option Addr)(co:Nat)(o:List Ob)(au:Option Addr)(cu:Nat)(us:List Up)(force:Bool)(w:World)(hg:xr w)(h:yU w a l)(hl:l.length≤9223372036854775807)(ho:zP w ao o)(hroom:rT w ao o)(jF:o.length≤9223372036854775807)(hu:zx w au us)(hul:us.length≤9223372036854775807):
  Calls Tryz.prog 24 #[.slice a l.length c,.slice ao o.length co,.slice au us.length cu,.bool force] w (vO l o us force w):=by
 have Uk: ∀(fn:Fn) (first cap:Array Value) (w:World),(Instr.makeFunc fn first cap).run Tryz.prog w= .ok (.func fn first cap) w:=fun _ _ _ _=>rfl
 have HE:Hid (xI l o us force=if yG l o≠0 then yG l o else if yd us≠0 then yd us else if uN o force l us≠0 then uN o force l us else yG (yK l us) o):=rfl
 go_enter Tryz.func24,Tryz.ntmps24
 go_wp2_with fail
 refine(qi a c l ao co o w hg h hl ho jF).mono ?_
 rintro e w1 ⟨rfl,zM⟩
 by_cases k1:yG l o=0
 case neg=>
  have HR:Hid (xI l o us force=yG l o):=by unfold Hid;rw[HE.out,if_pos k1]
  have HF:Hid (vO l o us force w (.returned (.tuple #[.slice none 0 0,.int .i64 (yG l o)])) w1):=vO.bad HR.out k1 zM
  have z1:(yG l o != 0)=true:=by simpa using k1
  clear k1
  go_wp2
  refine bodyPost_ret (v:=.tuple #[.slice none 0 0,.int .i64 (yG l o)]) (by simp[results,Tryz.results24,go_sem]) rfl ?_
  exact HF.out
 have qP:Hid (xI l o us force=if yd us≠0 then yd us else if uN o force l us≠0 then uN o force l us else yG (yK l us) o):=by unfold Hid;rw[HE.out,if_neg (fun e=>e k1)]
 have h8:l.length≤8:=(xc.1 k1).2.1
 have HS:Hid (te l):=ZE k1
 rw[k1]
 clear k1 HE
 go_wp2_with fail
 refine(m8 au cu us w1 (hg.below zM) (hu.below zM) hul).mono ?_
 rintro e w2 ⟨rfl,zZ⟩
 have zj:=bt zM zZ
 clear zM zZ
 by_cases k2:yd us=0
 case neg=>
  have HR:Hid (xI l o us force=yd us):=by unfold Hid;rw[qP.out,if_pos k2]
  have HF:Hid (vO l o us force w (.returned (.tuple #[.slice none 0 0,.int .i64 (yd us)])) w2):=vO.bad HR.out k2 zj
  have z1:(yd us != 0)=true:=by simpa using k2
  clear k2
  go_wp2
  refine bodyPost_ret (v:=.tuple #[.slice none 0 0,.int .i64 (yd us)]) (by simp[results,Tryz.results24,go_sem]) rfl ?_
  exact HF.out
 have nb:Hid (xI l o us force=if uN o force l us≠0 then uN o force l us else yG (yK l us) o):=by unfold Hid;rw[qP.out,if_neg (fun e=>e k2)]
 have h4:us.length≤4:=(ve.1 k2).2.1
 rw[k2]
 clear k2 qP
 go_wp2_with fail
 refine(Yp a c l (.slice ao o.length co) force ⟨_,_,_,rfl⟩ w2 (h.below zj) (by omega)).mono ?_
 rintro e w3 ⟨p,v,rfl,B3,yT⟩
 have hef:=VZ au cu us l p v ao co o force w2 w3 (hg.below zj) (hu.below zj) (ho.below zj) (hroom.below zj) jF yT B3 HS.out (by omega)
 clear B3 yT
 go_wp2_with fail
 refine hef.mono ?_
 clear hef
 rintro e w4 ⟨rfl,Zc,xR⟩
 have xZ:=bt zj xR
 clear xR
 by_cases k3:uN o force l us=0
 case neg=>
  have HR:Hid (xI l o us force=uN o force l us):=by unfold Hid;rw[nb.out,if_pos k3]
  have HF:Hid (vO l o us force w (.returned (.tuple #[.slice none 0 0,.int .i64 (uN o force l us)])) w4):=vO.bad HR.out k3 xZ
  have z1:(uN o force l us != 0)=true:=by simpa using k3
  clear k3 Zc zj
  go_wp2
  refine bodyPost_ret (v:=.tuple #[.slice none 0 0,.int .i64 (uN o force l us)]) (by simp[results,Tryz.results24,go_sem]) rfl ?_
  exact HF.out
 have Fv:Hid (xI l o us force=yG (yK l us) o):=by unfold Hid;rw[nb.out,if_neg (fun e=>e k3)]
 obtain⟨v4,B4⟩:=Zc k3
 have hR:(yK l us).length≤9223372036854775807:=by have:=mJ us l;omega
 rw[k3]
 have CA:Hid (w.heap.size≤w2.heap.size):=zj.size
 clear k3 nb Zc zj
 obtain⟨a4,c4,hv,hh,ZY⟩:=XW B4.own
 subst hv
 obtain⟨y0,y1,y2⟩:=zQ B4.blk
 have Gb:=qi a4 c4 (yK l us) ao co o w4 (hg.below xZ) hh hR (ho.below xZ) jF
 go_wp2_with fail
 refine Gb.mono ?_
 clear Gb
 rintro e w5 ⟨rfl,xu⟩
 have su:=bt xZ xu
 have hh5:=hh.below xu
 have x0:=(xu.cell (p:=⟨p,0,none⟩) B4.lt).trans y0
 have Y4:Hid (w5.ownsRow w.heap.size 65 2 (.slice a4 (yK l us).length c4) (yK l us).length (xM (yK l us))):=fD (yi B4.own (fun g hg=>xu.block g (B4.own.lt g hg).2)) CA.out
 clear xu xZ hh B4 y0 y1 y2
 by_cases k4:yG (yK l us) o=0
 case neg=>
  have HF:Hid (vO l o us force w (.returned (.tuple #[.slice none 0 0,.int .i64 (yG (yK l us) o)])) w5):=vO.bad Fv.out k4 su
  have z1:(yG (yK l us) o != 0)=true:=by simpa using k4
  clear k4
  go_wp2
  refine bodyPost_ret (v:=.tuple #[.slice none 0 0,.int .i64 (yG (yK l us) o)]) (by simp[results,Tryz.results24,go_sem]) rfl ?_
  exact HF.out
 have HF:Hid (vO l o us force w (.returned (.tuple #[.slice a4 (yK l us).length c4,.int .i64 0])) w5):=⟨su,.inr ⟨Fv.out.trans k4,a4,c4,rfl,hh5,ZY,Y4.out⟩⟩
 rw[k4]
 clear k4 Fv hh5
 go_wp2
 refine bodyPost_ret (v:=.tuple #[.slice a4 (yK l us).length c4,.int .i64 0]) (by simp[results,Tryz.results24,go_sem]) rfl ?_
 exact HF.out
theorem dm: ∀i,i<100→(Lib.decDigits i).length≤2:=by decide +kernel
theorem Zd{u:Up}(h:py u):(Lib.join (vU u) [32]).length≤100:=by
 have h1:=pb h.name
 have h2:=dm u.old.toNat (by have:=h.o1;omega)
 have h3:=dm u.new.toNat (by have:=h.n1;omega)
 have h4:u.name.data.toList.length=u.name.size:=by rw[Array.length_toList];rfl
 simp[Lib.join,vU]
 have h5:u.name.data.size=u.name.size:=rfl
 omega
theorem ar{u:Up}(h:py u):(tG u).size≤101:=by
 have:=Zd h
 unfold tG
 rw[ByteArray.size_append]
 have e:(⟨(Lib.join (vU u) [32]).toArray⟩:ByteArray).size=(Lib.join (vU u) [32]).length:=by simp[ByteArray.size]
 rw[e]
 show _+1≤101
 omega
theorem Z2(u:Up)(hR:py u)(b:Nat)(w:World)(hb:w.heap[b]? =some (.cells #[.string u.name,.string ⟨(Lib.decDigits u.old.toNat).toArray⟩,.string ⟨(Lib.decDigits u.new.toNat).toArray⟩] 9)):
  Calls Tryz.prog 116 #[.slice (some ⟨b,0,none⟩) 3 3] w fun e w'=>e= .returned (.string (tG u))∧Below w.heap.size w w':=by
 obtain⟨c0,c1,c2⟩:=zQ hb
 have hw:=Zd hR
 have hj:=Tryz.strings_Join b 0 3 [u.name,⟨(Lib.decDigits u.old.toNat).toArray⟩,⟨(Lib.decDigits u.new.toNat).toArray⟩] ⟨#[32]⟩ w (fun j x hx=>by
   match j,hx with
   |0,hx=>cases hx;exact c0
   |1,hx=>cases hx;exact c1
   |2,hx=>cases hx;exact c2
   |j+3,hx=>simp at hx) (zG hb) (by simp) (by simp) (by
   have e:([u.name,⟨(Lib.decDigits u.old.toNat).toArray⟩,⟨(Lib.decDigits u.new.toNat).toArray⟩].map (·.data.toList))=vU u:=by simp[vU]
   rw[e];show(Lib.join (vU u) [32]).length≤_;omega)
 have e:([u.name,⟨(Lib.decDigits u.old.toNat).toArray⟩,⟨(Lib.decDigits u.new.toNat).toArray⟩].map (·.data.toList))=vU u:=by simp[vU]
 rw[e]at hj
 have j8:Calls Tryz.prog 178 #[.slice (some ⟨b,0,none⟩) 3 3,.string ⟨#[32]⟩] w fun e w'=>e= .returned (.string ⟨(Lib.join (vU u) [32]).toArray⟩)∧Below w.heap.size w w':=hj
 have HS:Hid (tG u=(⟨(Lib.join (vU u) [32]).toArray⟩:ByteArray)++(⟨#[59]⟩:ByteArray)):=rfl
 have gB:(⟨(Lib.join (vU u) [32]).toArray⟩:ByteArray).size≤1000:=by
  have:(⟨(Lib.join (vU u) [32]).toArray⟩:ByteArray).size=(Lib.join (vU u) [32]).length:=by simp[ByteArray.size]
  omega
 generalize (⟨(Lib.join (vU u) [32]).toArray⟩:ByteArray)=J at *
 have eJ:(J.size:Int)+1≤9223372036854775807:=by omega
 clear hj e c0 c1 c2 hb hw
 go_enter Tryz.func116,Tryz.ntmps116
 go_wp2_with fail
 refine j8.mono ?_
 clear j8
 rintro e w1 ⟨rfl,zM⟩
 go_wp2
 go_ret
 exact⟨by rw[HS.out];rfl,zM⟩
theorem qh: ∀(us:List Up) (t:ByteArray) (u:Up),uU t (us++[u])=uU t us++tG u
 |[],_,_=>rfl
 |_::us,_,u=>qh us _ u
theorem sS: ∀(us:List Up) (t:ByteArray),(∀u∈us,py u)→(uU t us).size≤t.size+us.length*101
 |[],t,_=>by simp[uU]
 |u::us,t,h=>by
  have h1:=sS us (t++tG u) (fun v hv=>h v (by simp[hv]))
  have h2:=ar (h u (by simp))
  rw[ByteArray.size_append]at h1
  rw[uU,List.length_cons]
  omega
theorem LH(a:Option Addr)(c:Nat)(us:List Up)(w:World)(hg:xr w)(h:zx w a us)(hl:us.length≤9223372036854775807):
  Calls Tryz.prog 65 #[.slice a us.length c] w fun e w'=>e= .returned (.tuple #[.string (tQ us),.int .i64 (yd us)])∧Below w.heap.size w w':=by
 go_enter Tryz.func65,Tryz.ntmps65
 go_wp2_with fail
 refine(m8 a c us w hg h hl).mono ?_
 rintro e w1 ⟨rfl,zM⟩
 by_cases k1:yd us=0
 case neg=>
  have HR:Hid (tQ us=⟨#[]⟩):=if_neg k1
  have z1:(yd us != 0)=true:=by simpa using k1
  clear k1
  go_wp2
  refine bodyPost_ret (v:=.tuple #[.string ⟨#[]⟩,.int .i64 (yd us)]) (by simp[results,Tryz.results65,go_sem]) rfl ?_
  exact⟨by rw[HR.out],zM⟩
 obtain⟨c1,c2,c3,c4⟩:=ve.1 k1
 have HT:Hid (tQ us=dG us):=if_pos k1
 have HZ:Hid (yd us=0):=k1
 rw[k1]
 clear k1
 have rg:=UG a c us w1 (h.below zM) (by omega) (fun e=>by
  subst e
  cases us with
  |nil=>rfl
  |cons x l=>obtain⟨b,off,e,_⟩:=h 0 (by simp);cases e)
 go_wp2_with fail
 refine rg.mono ?_
 clear rg
 rintro e w2 ⟨v',rfl,o2,zZ⟩
 have zj:=bt zM zZ
 obtain⟨g,cap,rfl,bT⟩: ∃g cap,v'= .slice (some ⟨g,0,none⟩) us.length cap∧w1.heap.size≤g:=by
  rcases o2.2 with⟨_,e⟩|⟨g,cap,cur,e,e2,_⟩
  ·omega
  ·exact⟨g,cap,e,e2⟩
 have Jt:=Ra w1.heap.size g cap us w2 o2 (by omega)
 clear o2
 go_wp2_with fail
 refine Jt.mono ?_
 clear Jt
 rintro e w3 ⟨rfl,d,hp,hs,o3,g3⟩
 have xL:Below w.heap.size w w3:=zj.trans ⟨g3.os,g3.tape,g3.output,g3.size,fun k hk=>g3.block k (by have:=zj.size;omega) (fun e=>by cases e;have:=zM.size;omega)⟩
 have hd:=Q7 c4 hp hs
 have Uh:d.length=us.length:=hp.length_eq
 rw[←Uh]at o3
 obtain⟨a3,cc3,Ch,DZ,-⟩:=pZ o3
 have HA:Hid (a3=some ⟨g,0,none⟩):=by cases Ch;rfl
 have BK:Hid (∀u∈d,py u):=fun u hu=>c3 u (hp.mem_iff.1 hu)
 have HDT:Hid (uU ⟨#[]⟩ d=tQ us):=by unfold Hid;rw[HT.out,dG,hd]
 rw[HA.out]at DZ
 rw[←Uh]
 have hd4:d.length≤4:=by omega
 clear o3 g3 hp hs hd zj zM zZ bT Ch HT HA h hl c1 c2 c3 c4
 go_wp2
 go_loopw [6,20] (fun t i wr=>∃(k:Nat) (s:ByteArray),t= .string s∧i= .int .i64 k∧k≤d.length∧Hid (s=uU ⟨#[]⟩ (d.take k))∧Below w3.heap.size w3 wr) (fun _ i _=>d.length-(intOf i).toNat)
 case atStart=>exact⟨0,_,rfl,rfl,Nat.zero_le _,rfl,Below.refl _ _⟩
 case round=>
  obtain⟨k,s,rfl,rfl,hk,KH,vH⟩:=hrel
  have qM:=bt xL vH
  by_cases zN:k<d.length
  ·obtain⟨b,off,e,hb,hc⟩:=(DZ.below vH) k zN
   cases e
   obtain⟨y0,y1,y2⟩:=hc k zN
   rw[Nat.zero_add]at y0 y1 y2
   clear hc hb
   have RU:=BK.out d[k] (List.getElem_mem zN)
   have HSn:Hid (s++tG d[k]=uU ⟨#[]⟩ (d.take (k+1))):=by unfold Hid;rw[List.take_succ_eq_append_getElem zN,qh,KH.out]
   have gB:s.size≤1000:=by
    have:=sS (d.take k) ⟨#[]⟩ (fun u hu=>BK.out u (List.mem_of_mem_take hu))
    rw[←KH.out]at this
    rw[List.length_take]at this
    have e0:(⟨#[]⟩:ByteArray).size=0:=rfl
    omega
   have mx:=ar RU
   have eJ: ¬9223372036854775807<s.size+(tG d[k]).size:=by omega
   have hA:=zB wr (.cells #[.string d[k].name,.int .i64 d[k].old,.int .i64 d[k].new] 40)
   have pF:=heap_alloc_new wr (.cells #[.string d[k].name,.int .i64 d[k].old,.int .i64 d[k].new] 40)
   have mq:=bt vH hA
   obtain⟨x,hx⟩: ∃x,x=d[k]:=⟨_,rfl⟩
   rw[←hx]at y0 y1 y2 RU HSn mx eJ hA pF mq
   clear hx
   go_wp2_with fail
   generalize wr.alloc (.cells #[.string x.name,.int .i64 x.old,.int .i64 x.new] 40)=W at *
   obtain⟨B,gN⟩: ∃B,B=wr.heap.size:=⟨_,rfl⟩
   have xF:=(Below.refl W.heap.size W).drew
   have jD:=zA5 xF pF
   have nf:=bt mq xF
   rw[←gN]at jD
   rw[←gN]
   clear gN xF pF mq hA y0 y1 y2 qM vH
   have i1:=fun W=>Tryz.strconv_Itoa_small x.old.toNat (by have:=RU.o1;omega) W
   have i2:=fun W=>Tryz.strconv_Itoa_small x.new.toNat (by have:=RU.n1;omega) W
   rw[Int.toNat_of_nonneg RU.o0]at i1
   rw[Int.toNat_of_nonneg RU.n0]at i2
   have se:=fun b w=>Z2 x RU b w
   generalize (⟨(Lib.decDigits x.old.toNat).toArray⟩:ByteArray)=D1 at *
   generalize (⟨(Lib.decDigits x.new.toNat).toArray⟩:ByteArray)=D2 at *
   generalize tG x=sx at *
   refine zS (fun W=>W.heap[B]? =some (.cells #[.string x.name,.int .i64 x.old,.int .i64 x.new] 40)) (fun _=>false) (by kernel_rfl) jD (fun hS=>?_)
   generalize W.drew=W0 at *
   refine zAA 0 ?_ rfl ?_ ?_;rotate_left
   ·intro w zD;obtain⟨z3,z4,z5⟩:=zQ zD;clear zD;go_simp;rfl
   try simp only[tn]
   refine zAA 1 ?_ rfl ?_ ?_;rotate_left
   ·intro w zD;obtain⟨z3,z4,z5⟩:=zQ zD;clear zD;go_simp;rfl
   try simp only[tn]
   refine zAA 2 ?_ rfl ?_ ?_;rotate_left
   ·intro w zD;obtain⟨z3,z4,z5⟩:=zQ zD;clear zD;go_simp;rfl
   try simp only[tn]
   refine zAA 3 ?_ rfl ?_ ?_;rotate_left
   ·intro w zD;obtain⟨z3,z4,z5⟩:=zQ zD;clear zD;go_simp;rfl
   try simp only[tn]
   refine zAA 4 ?_ rfl ?_ ?_;rotate_left
   ·intro w zD;obtain⟨z3,z4,z5⟩:=zQ zD;clear zD;go_simp;rfl
   try simp only[tn]
   refine zAA 6 ?_ rfl ?_ ?_;rotate_left
   ·intro w zD;obtain⟨z3,z4,z5⟩:=zQ zD;clear zD;go_simp;rfl
   try simp only[tn]
   refine zAA 7 ?_ rfl ?_ ?_;rotate_left
   ·intro w zD;obtain⟨z3,z4,z5⟩:=zQ zD;clear zD;go_simp;rfl
   try simp only[tn]
   refine zAC 5 rfl fun K hK=>?_
   go_simp
   refine(i1 W0).mono ?_
   rintro e W1 ⟨rfl,rfl⟩
   refine hK _ _ (fun _=>hS) ?_
   clear hK K
   try simp only[tn]
   refine zAC 8 rfl fun K hK=>?_
   go_simp
   refine(i2 W1).mono ?_
   rintro e W2 ⟨rfl,rfl⟩
   refine hK _ _ (fun _=>hS) ?_
   clear hK K
   try simp only[tn]
   refine zAC 9 rfl fun K hK=>?_
   go_simp
   obtain⟨W3,Dl⟩: ∃W3,W3=W2.alloc (.cells #[.string x.name,.string D1,.string D2] 9):=⟨_,rfl⟩
   have yT:Below W2.heap.size W2 W3:=by rw[Dl];exact zB _ _
   have Ch:W3.heap[W2.heap.size]? =some (.cells #[.string x.name,.string D1,.string D2] 9):=by rw[Dl];exact heap_alloc_new W2 _
   rw[←Dl]
   clear Dl
   have tV:=zA5 yT hS
   have B5:=bt nf yT
   refine hK _ _ (fun _=>tV) ?_
   clear hK K hS nf
   try simp only[tn]
   refine zAC 10 rfl fun K hK=>?_
   go_simp
   refine(se _ W3 Ch).mono ?_
   rintro e W4 ⟨rfl,xR⟩
   have mg:=zA5 xR tV
   have zH8:=bt B5 xR
   refine hK _ _ (fun _=>mg) ?_
   clear hK K tV B5 xR Ch yT
   try simp only[tn]
   refine zAC 11 rfl fun K hK=>?_
   go_simp
   refine hK _ _ (fun _=>mg) ?_
   clear hK K
   try simp only[tn]
   refine zAC 12 rfl fun K hK=>?_
   go_simp
   refine hK _ _ (fun _=>mg) ?_
   clear hK K
   try simp only[tn]
   refine zAE ?_
   clear mg jD
   go_wp2
   go_roundw
   case rel=>exact⟨k+1,_,rfl,by go_num,by omega,HSn,zH8⟩
   case measure=>simp[intOf];omega
  ·have HF:Hid (s=tQ us):=by
    unfold Hid
    rw[KH.out,List.take_of_length_le (by omega),HDT.out]
   go_wp2
   refine bodyPost_ret (v:=.tuple #[.string s,.int .i64 0]) (by simp[results,Tryz.results65,go_sem]) rfl ?_
   exact⟨by rw[HF.out,HZ.out],qM⟩
def fV(x y:Rf):Bool:=x.name.toList==y.name.toList&&x.id==y.id
theorem AB(x y:Rf)(w:World):(binOp .neq 65 x.val y.val).run Tryz.prog w= .ok (.bool (!fV x y)) w:=by
 have u3:=Tryz.underlying3
 have a3:=Tryz.isAgg3
 have z3:=Tryz.sizeOf3
 have u9:=Tryz.underlying9
 have a9:=Tryz.isAgg9
 have z9:=Tryz.sizeOf9
 have hS:Tryz.prog.underlying 65=some (.struct (Tryz.prog.fieldsOf 65)):=by kernel_rfl
 have hp:Tryz.prog.stoodInHeld 65=false:=by kernel_rfl
 rw[run_neq_struct,show(10000:Nat)=9999+1 from rfl,run_equalIn_agg w 9999 65 _ _ hS hp]
 simp only[Program.fieldsOf,Tryz.underlying65]
 go_simp
 unfold fV
 by_cases h1:x.name.toList=y.name.toList<;>by_cases h2:x.id=y.id<;>simp[h1,h2]
theorem Qv(a:Option Addr)(c:Nat)(l:List Rf)(nm:ByteArray)(w:World)(h:yU w a l)(hl:l.length≤9223372036854775807):
  Calls Tryz.prog 57 #[.slice a l.length c,.string nm] w fun e w'=>e= .returned (.int .i64 (xV (yt nm) l))∧Below w.heap.size w w':=by
 go_enter Tryz.func57,Tryz.ntmps57
 go_wp2
 go_loopw [5] (fun i wr=>∃k:Nat,i= .int .i64 k∧k≤l.length∧Below w.heap.size w wr∧Hid (∀j (hj:j<l.length),j<k→(yt nm) l[j]=false)) (fun i _=>l.length-(intOf i).toNat)
 case atStart=>exact⟨0,rfl,Nat.zero_le _,Below.refl _ _,fun j _ h=>absurd h (Nat.not_lt_zero j)⟩
 case round=>
  obtain⟨k,rfl,hk,hB,H⟩:=hrel
  by_cases zN:k<l.length
  ·have vg:(k:Int)<(l.length:Int):=by omega
   obtain⟨b,off,rfl,hb,hc⟩:=(h.below hB) k zN
   obtain⟨x0,x1⟩:=hc k zN
   clear hc
   cases hq:yt nm l[k]with
   |true=>
    have HR:Hid (xV (yt nm) l=k):=qC zN H.out hq
    have z:(l[k].name.toList==nm.toList)=true:=hq
    clear hq
    go_wp2
    go_ret
    exact⟨zE HR.out.symm,hB⟩
   |false=>
    have HN:Hid (∀j (hj:j<l.length),j<k+1→(yt nm) l[j]=false):=fun j hj hjk=>by
     rcases Nat.lt_or_ge j k with h1|h1
     ·exact H.out j hj h1
     ·have:j=k:=by omega
      subst this
      exact hq
    have z:(l[k].name.toList==nm.toList)=false:=hq
    clear hq
    go_wp2
    go_roundw
    case rel=>exact⟨k+1,by go_num,by omega,hB,HN⟩
    case measure=>simp[intOf];omega
  ·have HR:Hid (xV (yt nm) l= -1):=sr (fun j hj=>H.out j hj (by omega))
   go_wp2
   go_ret
   exact⟨zE HR.out.symm,hB⟩
theorem Vs{l:List Rf}{nm:ByteArray}{i:Nat}(hi:i<l.length)(h:xV (yt nm) l=i):um l nm=l[i].id:=by
 rcases ug (yt nm) l with⟨h1,_⟩|⟨j,h1,hj,h2,h3⟩
 ·omega
 ·have:j=i:=by omega
  subst this
  unfold um
  have:l.find? (yt nm)=some l[j]:=by
   rw[List.find?_eq_some_iff_getElem]
   exact⟨h2,j,hj,rfl,fun t ht=>by simpa using h3 t (by omega) ht⟩
  rw[this]
  rfl
theorem Nd(a:Option Addr)(c:Nat)(l:List Rf)(nm:ByteArray)(w:World)(h:yU w a l)(hl:l.length≤9223372036854775807):
  Calls Tryz.prog 15 #[.slice a l.length c,.string nm] w fun e w'=>e= .returned (.int .i64 (um l nm))∧Below w.heap.size w w':=by
 go_enter Tryz.func15,Tryz.ntmps15
 go_wp2_with fail
 refine(Qv a c l nm w h hl).mono ?_
 rintro e w1 ⟨rfl,zM⟩
 rcases ug (yt nm) l with⟨h1,h2⟩|⟨i,h1,hi,-,-⟩
 ·have HR:Hid (um l nm=0):=ZH (fun r hr=>mL.1 (h2 r hr))
  rw[h1]
  clear h1 h2
  go_wp2
  go_ret
  exact⟨zE HR.out.symm,zM⟩
 ·have HR:Hid (um l nm=l[i].id):=Vs hi h1
  rw[h1]
  obtain⟨b,off,rfl,hb,hc⟩:=(h.below zM) i hi
  obtain⟨x0,x1⟩:=hc i hi
  have Y5:(i:Int)<(l.length:Int):=by omega
  clear hc h1
  go_wp2
  go_ret
  exact⟨zE HR.out.symm,zM⟩
def zr(m:List Ob)(us:List Up):Int:=if 12<m.length then 2 else if yL m≠0 then yL m else yd us
theorem sL{m:List Ob}{us:List Up}:zr m us=0↔m.length≤12∧yL m=0∧yd us=0:=by
 unfold zr
 constructor
 ·intro h
  split at h
  ·omega
  split at h
  ·rename_i c;exact absurd h c
  rename_i c
  exact⟨by omega,Classical.byContradiction c,h⟩
 ·rintro⟨h1,h2,h3⟩
  rw[if_neg (by omega),if_neg (fun e=>e h2),h3]
def xX(s:List Ob)(l:List Rf)(m:List Ob)(us:List Up)(f:Bool):Int:=
 if zr m us≠0 then zr m us else if xD s m≠0 then xD s m else xI l (zH s m) us f
theorem e9{s:List Ob}{l:List Rf}{m:List Ob}{us:List Up}{f:Bool}:xX s l m us f=0↔zr m us=0∧xD s m=0∧xI l (zH s m) us f=0:=by
 unfold xX
 constructor
 ·intro h
  split at h
  ·rename_i c;exact absurd h c
  rename_i c1
  split at h
  ·rename_i c;exact absurd h c
  rename_i c2
  exact⟨Classical.byContradiction c1,Classical.byContradiction c2,h⟩
 ·rintro⟨h1,h2,h3⟩
  rw[if_neg (fun e=>e h1),if_neg (fun e=>e h2),h3]
abbrev uw(am:Option Addr)(nm cm:Nat)(au:Option Addr)(nu cu:Nat)(f:Bool):Value:=.agg #[.slice am nm cm,.slice au nu cu,.bool f]
theorem sM(am:Option Addr)(cm:Nat)(m:List Ob)(au:Option Addr)(cu:Nat)(us:List Up)(f:Bool)(w:World)(hg:xr w)(hm:zP w am m)(hml:m.length≤9223372036854775807)(hu:zx w au us)(hul:us.length≤9223372036854775807):
  Calls Tryz.prog 79 #[uw am m.length cm au us.length cu f] w fun e w'=>e= .returned (.int .i64 (zr m us))∧Below w.heap.size w w':=by
 have hA:=zB w (.cells #[.slice am m.length cm,.slice au us.length cu,.bool f] 28)
 have pF:=heap_alloc_new w (.cells #[.slice am m.length cm,.slice au us.length cu,.bool f] 28)
 obtain⟨y0,y1,y2⟩:=zQ pF
 by_cases h12:12<m.length
 ·have HR:Hid (2=zr m us):=by unfold Hid zr;rw[if_pos h12]
  have z1:(12:Int)<(m.length:Int):=by omega
  clear h12
  go_enter Tryz.func79,Tryz.ntmps79
  go_wp2
  go_ret
  exact⟨zE HR.out,hA⟩
 have HP:Hid (zr m us=if yL m≠0 then yL m else yd us):=by unfold Hid zr;rw[if_neg h12]
 have z1: ¬(12:Int)<(m.length:Int):=by omega
 have CI:=hg.below hA
 have hmA:=hm.below hA
 have huA:=hu.below hA
 go_enter Tryz.func79,Tryz.ntmps79
 go_wp2
 generalize w.alloc (.cells #[.slice am m.length cm,.slice au us.length cu,.bool f] 28)=W at *
 obtain⟨B,gN⟩: ∃B,B=w.heap.size:=⟨_,rfl⟩
 rw[←gN]at y0 y1 y2 pF
 rw[←gN]
 have eO:=zG pF
 clear gN pF
 go_loopw [13] (fun i wr=>∃k:Nat,i= .int .i64 k∧k≤m.length∧Below W.heap.size W wr∧Hid (yL m=yL (m.drop k))) (fun i _=>m.length-(intOf i).toNat)
 case atStart=>exact⟨0,rfl,Nat.zero_le _,Below.refl _ _,rfl⟩
 case round=>
  obtain⟨k,rfl,hk,vH,H⟩:=hrel
  have qM:=bt hA vH
  by_cases zN:k<m.length
  ·obtain⟨b,off,rfl,hb,hc⟩:=(hmA.below vH) k zN
   obtain⟨sa,sc,x0,x1,x2,x3,x4,x5⟩:=hc k zN
   clear hc
   have tu:=zB wr (.cells #[.int .i64 m[k].id,.int .i64 m[k].kind,.slice sa m[k].links.length sc,.string m[k].text] 58)
   have nL:=mS m[k].id m[k].kind sa sc m[k].links m[k].text _ (x4.below tu) x5
   go_wp2_with fail
   refine nL.mono ?_
   clear nL
   rintro e w1 ⟨rfl,zM⟩
   have zT:=((bt vH tu)).trans (zM.mono (by have:=vH.size;have:=tu.size;omega))
   have kJ:=bt hA zT
   clear zM tu x0 x1 x2 x3 x4 vH qM
   by_cases hz:m[k].err=0
   ·have HN:Hid (yL m=yL (m.drop (k+1))):=SW zN H.out hz
    rw[show xC m[k].id m[k].kind m[k].links m[k].text.size=0 from hz]
    clear hz
    go_wp2
    go_roundw
    case rel=>exact⟨k+1,by go_num,by omega,zT,HN⟩
    case measure=>simp[intOf];omega
   ·have HR:Hid (zr m us=m[k].err):=by
     have e:=Pc zN H.out hz
     unfold Hid
     rw[HP.out,e,if_pos hz]
    have CW:(xC m[k].id m[k].kind m[k].links m[k].text.size != 0)=true:=by simpa using hz
    clear hz
    go_wp2
    go_ret
    exact⟨zE HR.out.symm,kJ⟩
  ·have HE:Hid (zr m us=yd us):=by
    have e:=Nb zN H.out
    unfold Hid
    rw[HP.out,if_neg (fun q=>q e)]
   have x1:=(vH.cell (p:=⟨B,1,none⟩) eO).trans y1
   have huc:=m8 au cu us wr (CI.below vH) (huA.below vH) hul
   go_wp2_with fail
   refine huc.mono ?_
   clear huc
   rintro e w1 ⟨rfl,zM⟩
   have kJ:=bt qM zM
   clear zM qM x1
   go_wp2
   go_ret
   exact⟨zE HE.out.symm,kJ⟩
abbrev rF(aS:Option Addr)(ns cs:Nat)(al:Option Addr)(nl cl:Nat)(g ph:Int)(a1:Option Addr)(n1 c1:Nat)(a2:Option Addr)(n2 c2:Nat)(f:Bool):Value:=.agg #[.slice aS ns cs,.slice al nl cl,.int .i64 g,.int .i64 ph,.slice a1 n1 c1,.slice a2 n2 c2,.bool f]
def sV(s:List Ob)(l:List Rf)(m:List Ob)(us:List Up)(f:Bool)(w:World)(e:Ending)(w':World):Prop:=
 Below w.heap.size w w'∧((xX s l m us f≠0∧e= .returned (.tuple #[.slice none 0 0,.slice none 0 0,.int .i64 (xX s l m us f)]))∨
  (xX s l m us f=0∧∃a c a' c',e= .returned (.tuple #[.slice a (zH s m).length c,.slice a' (yK l us).length c',.int .i64 0])∧zP w' a (zH s m)∧rT w' a (zH s m)∧yU w' a' (yK l us)))
theorem sV.bad{s:List Ob}{l:List Rf}{m:List Ob}{us:List Up}{f:Bool}{w w':World}{r:Int}(hr:xX s l m us f=r)(h0:r≠0)(hb:Below w.heap.size w w'):sV s l m us f w (.returned (.tuple #[.slice none 0 0,.slice none 0 0,.int .i64 r])) w':=
 ⟨hb,.inl ⟨by rw[hr];exact h0,by rw[hr]⟩⟩
theorem Kn(aS:Option Addr)(cs:Nat)(s:List Ob)(al:Option Addr)(cl:Nat)(l:List Rf)(g ph:Int)(a1:Option Addr)(n1 c1:Nat)(a2:Option Addr)(n2 c2:Nat)(f0:Bool)(am:Option Addr)(cm:Nat)(m:List Ob)(au:Option Addr)(cu:Nat)(us:List Up)(f:Bool)(w:World)(hg:xr w)
  (hs:zP w aS s) (Le:s.length≤9223372036854775807) (hl:yU w al l) (M7:l.length≤9223372036854775807) (hm:zP w am m) (hml:m.length≤9223372036854775807) (hu:zx w au us) (hul:us.length≤9223372036854775807):
  Calls Tryz.prog 208 #[rF aS s.length cs al l.length cl g ph a1 n1 c1 a2 n2 c2 f0,uw am m.length cm au us.length cu f] w (sV s l m us f w):=by
 have HE:Hid (xX s l m us f=if zr m us≠0 then zr m us else if xD s m≠0 then xD s m else xI l (zH s m) us f):=rfl
 have hB:=zV w (.cells #[.slice aS s.length cs,.slice al l.length cl,.int .i64 g,.int .i64 ph,.slice a1 n1 c1,.slice a2 n2 c2,.bool f0] 36) (.cells #[.slice am m.length cm,.slice au us.length cu,.bool f] 28)
 have tu:=zB (w.alloc (.cells #[.slice aS s.length cs,.slice al l.length cl,.int .i64 g,.int .i64 ph,.slice a1 n1 c1,.slice a2 n2 c2,.bool f0] 36)) (.cells #[.slice am m.length cm,.slice au us.length cu,.bool f] 28)
 have xy:((w.alloc (.cells #[.slice aS s.length cs,.slice al l.length cl,.int .i64 g,.int .i64 ph,.slice a1 n1 c1,.slice a2 n2 c2,.bool f0] 36)).alloc (.cells #[.slice am m.length cm,.slice au us.length cu,.bool f] 28)).heap[w.heap.size+1]? =some (.cells #[.slice am m.length cm,.slice au us.length cu,.bool f] 28):=by
  have:=heap_alloc_new (w.alloc (.cells #[.slice aS s.length cs,.slice al l.length cl,.int .i64 g,.int .i64 ph,.slice a1 n1 c1,.slice a2 n2 c2,.bool f0] 36)) (.cells #[.slice am m.length cm,.slice au us.length cu,.bool f] 28)
  rwa[show(w.alloc (.cells #[.slice aS s.length cs,.slice al l.length cl,.int .i64 g,.int .i64 ph,.slice a1 n1 c1,.slice a2 n2 c2,.bool f0] 36)).heap.size=w.heap.size+1 by simp]at this
 have xa:((w.alloc (.cells #[.slice aS s.length cs,.slice al l.length cl,.int .i64 g,.int .i64 ph,.slice a1 n1 c1,.slice a2 n2 c2,.bool f0] 36)).alloc (.cells #[.slice am m.length cm,.slice au us.length cu,.bool f] 28)).heap[w.heap.size]? =some (.cells #[.slice aS s.length cs,.slice al l.length cl,.int .i64 g,.int .i64 ph,.slice a1 n1 c1,.slice a2 n2 c2,.bool f0] 36):=(tu.block _ (by simp)).trans (heap_alloc_new w _)
 obtain⟨y0,y1,y2⟩:=zQ xy
 have Vl:=sM am cm m au cu us f _ (hg.below hB) (hm.below hB) hml (hu.below hB) hul
 clear tu
 go_enter Tryz.func208,Tryz.ntmps208
 go_wp2_with fail
 refine Vl.mono ?_
 clear Vl
 rintro e w1 ⟨rfl,zM⟩
 have zT:=bt hB zM
 have mf:=zA5 zM xy
 have n8:=zA5 zM xa
 clear zM hB xy xa y0 y1 y2
 by_cases k1:zr m us=0
 case neg=>
  have HR:Hid (xX s l m us f=zr m us):=by unfold Hid;rw[HE.out,if_pos k1]
  have HF:Hid (sV s l m us f w (.returned (.tuple #[.slice none 0 0,.slice none 0 0,.int .i64 (zr m us)])) w1):=sV.bad HR.out k1 zT
  have z1:(zr m us != 0)=true:=by simpa using k1
  clear k1 mf n8
  go_wp2
  refine bodyPost_ret (v:=.tuple #[.slice none 0 0,.slice none 0 0,.int .i64 (zr m us)]) (by simp[results,Tryz.results208,go_sem]) rfl ?_
  exact HF.out
 have qP:Hid (xX s l m us f=if xD s m≠0 then xD s m else xI l (zH s m) us f):=by unfold Hid;rw[HE.out,if_neg (fun e=>e k1)]
 rw[k1]
 clear k1 HE
 have r0:w1.cell? ⟨w.heap.size,0,none⟩=some (.slice aS s.length cs):=by rw[cell_of_row w1 _ _ _ _ _ n8];rfl
 obtain⟨y0,y1,y2⟩:=zQ mf
 have BI:=KJ aS cs s am cm m w1 (hs.below zT) Le (hm.below zT) hml
 go_wp2_with fail
 refine BI.mono ?_
 clear BI
 rintro e w2 ⟨zZ,xK⟩
 have zj:=bt zT zZ
 have dC:=zA5 zZ mf
 have dg:=zA5 zZ n8
 clear zZ zT mf n8 r0 y0 y1 y2
 rcases xK with⟨yM,rfl⟩|⟨hz,a3,c3,rfl,tV,hlc3,Pb⟩
 ·have HR:Hid (xX s l m us f=xD s m):=by unfold Hid;rw[qP.out,if_pos yM]
  have HF:Hid (sV s l m us f w (.returned (.tuple #[.slice none 0 0,.slice none 0 0,.int .i64 (xD s m)])) w2):=sV.bad HR.out yM zj
  have z1:(xD s m != 0)=true:=by simpa using yM
  clear yM dC dg
  go_wp2
  refine bodyPost_ret (v:=.tuple #[.slice none 0 0,.slice none 0 0,.int .i64 (xD s m)]) (by simp[results,Tryz.results208,go_sem]) rfl ?_
  exact HF.out
 have nb:Hid (xX s l m us f=xI l (zH s m) us f):=by unfold Hid;rw[qP.out,if_neg (fun e=>e hz)]
 have LJ:(zH s m).length≤9223372036854775807:=by have:=(yF (pH hz).2.2.2.2).1;omega
 clear hz qP hlc3
 obtain⟨A,hA⟩: ∃A,A=zH s m:=⟨_,rfl⟩
 have HA:Hid (A=zH s m):=hA
 rw[←hA]at tV Pb LJ nb
 rw[←hA]
 clear hA
 have r1:w2.cell? ⟨w.heap.size,1,none⟩=some (.slice al l.length cl):=by rw[cell_of_row w2 _ _ _ _ _ dg];rfl
 obtain⟨y0,y1,y2⟩:=zQ dC
 have DL:=az al cl l a3 c3 A au cu us f w2 (hg.below zj) (hl.below zj) M7 tV Pb LJ (hu.below zj) hul
 go_wp2_with fail
 refine DL.mono ?_
 clear DL
 rintro e w3 ⟨yT,xK⟩
 have xL:=bt zj yT
 have mg:=tV.below yT
 have hR4:=Pb.below yT
 clear yT zj dC dg r1 y0 y1 y2 tV Pb
 rcases xK with⟨yM,rfl⟩|⟨hz,a5,c5,rfl,LS,-⟩
 ·have HF:Hid (sV s l m us f w (.returned (.tuple #[.slice none 0 0, .slice none 0 0, .int .i64 (xI l A us f)])) w3):=sV.bad nb.out yM xL
  have z1:(xI l A us f != 0)=true:=by simpa using yM
  clear yM
  go_wp2
  refine bodyPost_ret (v:=.tuple #[.slice none 0 0,.slice none 0 0,.int .i64 (xI l A us f)]) (by simp[results,Tryz.results208,go_sem]) rfl ?_
  exact HF.out
 ·have HF:Hid (sV s l m us f w (.returned (.tuple #[.slice a3 A.length c3,.slice a5 (yK l us).length c5,.int .i64 0])) w3):=
   ⟨xL,.inr ⟨nb.out.trans hz,a3,c3,a5,c5,by rw[←HA.out],by rw[←HA.out];exact mg,by rw[←HA.out];exact hR4,LS⟩⟩
  clear hz mg hR4 LS
  go_wp2
  refine bodyPost_ret (v:=.tuple #[.slice a3 A.length c3,.slice a5 (yK l us).length c5,.int .i64 0]) (by simp[results,Tryz.results208,go_sem]) rfl ?_
  exact HF.out
def Off(w:World)(q:Nat)(v:Value)(ai:Option Addr)(ids:List Int):Prop:=yD w ai ids∧∀b off,ai=some ⟨b,off,none⟩→0<ids.length→b≠q∧v.ownBlock≠some b
theorem Off.below{w w':World}{q:Nat}{v:Value}{ai:Option Addr}{ids:List Int}(h:Off w q v ai ids)(hb:Below w.heap.size w w'):Off w' q v ai ids:=⟨h.1.below hb,h.2⟩
def Ft(W:World)(R:Nat):Prop:=∀off n,W.cell? ⟨R,off,none⟩=some (.int .i64 n)→n=0
theorem Ft.ne{W:World}{R:Nat}(h:Ft W R){b off:Nat}{n:Int}(hc:W.cell? ⟨b,off,none⟩=some (.int .i64 n))(hn:n≠0):b≠R:=fun e=>hn (h off n (by rw[←e];exact hc))
structure But(R:Nat)(W W':World):Prop where
 size:W'.heap.size=W.heap.size
 cell: ∀b off,b≠R→W'.cell? ⟨b,off,none⟩=W.cell? ⟨b,off,none⟩
theorem But.refl(R:Nat)(W:World):But R W W:=⟨rfl,fun _ _ _=>rfl⟩
theorem But.set{R:Nat}{W W':World}(h:But R W W')(off:Nat)(v:Value):But R W (W'.setCell ⟨R,off,none⟩ v):=
 ⟨(World.size_setCell _ _ _).trans h.size,fun b o hb=>(X3 (fun e=>hb (congrArg Addr.block e).symm)).trans (h.cell b o hb)⟩
abbrev pU:Obj:=.cells #[.slice none 0 0,.slice none 0 0,.bool false] 28
section
open Go.ChangeShapes Go.WideShapes Go.ChangeAt Go.RowKit Go.Joins Go.Deep
set_option maxRecDepth 100000 in
theorem aT{H:Type}{enc:TypeId×Value→H}{W:World}{n:Nat}{cs:List Value}{x:DataW H×List MemPlace}
  (hl:cs.length=4) (h:DataW.trod enc Tryz.prog W 0 (fun _=>true) true n 58 cs=some x):
  ∃(o:Ob) (sa:Option Addr) (sc:Nat),cs=[.int .i64 o.id,.int .i64 o.kind,.slice sa o.links.length sc,.string o.text]∧yD W sa o.links∧o.links.length≤maxLen∧o.links.length≤sc:=by
 obtain⟨y0,y1,y2,y3,k,_,_,h0,h1,h2,h3⟩:=trod_struct4 Tryz.underlying58 h
 match cs,hl with
 |[v0,v1,v2,v3],_=>
  have g0:DataW.trod enc Tryz.prog W 0 (fun _=>true) true k 3 [v0]=some y0:=h0
  have g1:DataW.trod enc Tryz.prog W 0 (fun _=>true) true k 3 [v1]=some y1:=h1
  have g2:DataW.trod enc Tryz.prog W 0 (fun _=>true) true k 45 [v2]=some y2:=h2
  have g3:DataW.trod enc Tryz.prog W 0 (fun _=>true) true k 9 [v3]=some y3:=h3
  obtain⟨id,e0,_,_⟩:=DataW.trod_int Tryz.underlying3 g0
  obtain⟨kind,e1,_,_⟩:=DataW.trod_int Tryz.underlying3 g1
  obtain⟨t,e3,_,ht⟩:=DataW.trod_string Tryz.underlying9 g3
  simp only[List.cons.injEq,and_true]at e0 e1 e3
  subst e0 e1 e3
  rcases open_ints Tryz.underlying45 Tryz.underlying3 Tryz.cells3 g2 with⟨e2,_⟩|⟨a,len,cap,zs,e2,_,hl,hm,hz,_,xf,_⟩
  ·simp only[List.cons.injEq,and_true]at e2
   subst e2
   exact⟨⟨id,kind,[],t⟩,none,0,rfl,fun i hi=>by simp at hi,by simp,Nat.le_refl _⟩
  ·simp only[List.cons.injEq,and_true]at e2
   subst e2
   simp only[if_true]at hz
   have hlen:(zs.take len).length=len:=by rw[List.length_take];omega
   refine⟨⟨id,kind,zs.take len,t⟩,some a,cap,by simp only[hlen],fun i hi=>?_,by show(zs.take len).length≤maxLen;omega,by show(zs.take len).length≤cap;omega⟩
   have Y5:i<(zs.take len).length:=hi
   obtain⟨b,off,rfl,hc⟩:=ints_at xf (by omega)
   refine⟨b,off,rfl,sF (a:=⟨b,off+0,none⟩) (hc 0 (by omega)),fun j hj=>?_⟩
   have j8:j<(zs.take len).length:=hj
   rw[hc j (by omega)]
   simp only[List.getD_eq_getElem?_getD,List.getElem?_take,if_pos (show j<len by omega)]
end
section
open Go.ChangeShapes Go.WideShapes Go.ChangeAt Go.RowKit Go.Joins Go.Deep
end
section
open Go.ChangeShapes Go.WideShapes Go.ChangeAt Go.RowKit Go.Joins Go.Deep
theorem Tryz.cells40:Tryz.prog.cellsOf 40=3:=by kernel_rfl
set_option maxRecDepth 100000 in
theorem Ya{H:Type}{enc:TypeId×Value→H}{W:World}{n:Nat}{cs:List Value}{x:DataW H×List MemPlace}
  (hl:cs.length=3) (h:DataW.trod enc Tryz.prog W 0 (fun _=>true) true n 40 cs=some x): ∃r:Up,cs=[.string r.name,.int .i64 r.old,.int .i64 r.new]:=by
 obtain⟨y0,y1,y2,k,_,_,h0,h1,h2⟩:=trod_struct3 Tryz.underlying40 h
 match cs,hl with
 |[v0,v1,v2],_=>
  have g0:DataW.trod enc Tryz.prog W 0 (fun _=>true) true k 9 [v0]=some y0:=h0
  have g1:DataW.trod enc Tryz.prog W 0 (fun _=>true) true k 3 [v1]=some y1:=h1
  have g2:DataW.trod enc Tryz.prog W 0 (fun _=>true) true k 3 [v2]=some y2:=h2
  obtain⟨t,e0,_,_⟩:=DataW.trod_string Tryz.underlying9 g0
  obtain⟨o,e1,_,_⟩:=DataW.trod_int Tryz.underlying3 g1
  obtain⟨n,e2,_,_⟩:=DataW.trod_int Tryz.underlying3 g2
  simp only[List.cons.injEq,and_true]at e0 e1 e2
  subst e0 e1 e2
  exact⟨⟨t,o,n⟩,rfl⟩
set_option maxRecDepth 100000 in
theorem YO{H:Type}{enc:TypeId×Value→H}{W:World}{a0:Option Addr}{Xi kB fuel:Nat}{x:DataW H×List MemPlace}
  (Pt:DataW.trod enc Tryz.prog W 0 (fun _=>true) true fuel 26 [.slice a0 Xi kB]=some x):
  ∃(l:List Up),Xi=l.length∧zx W a0 l∧l.length≤kB∧kB≤maxLen∧(l.length=0∨∃elems spare,x.1= .slice elems spare∧elems.length=l.length):=by
 rcases open_slice Tryz.underlying26 Pt with⟨e,_⟩|⟨a,len,cap,m,n,D,Pl,e,_,hl,hm,RP,hxx,hx⟩
 ·simp only[List.cons.injEq,and_true,Value.slice.injEq]at e
  obtain⟨rfl,rfl,rfl⟩:=e
  exact⟨[],rfl,fun i hi=>by simp at hi,by simp,by simp,.inl rfl⟩
 ·simp only[List.cons.injEq,and_true,Value.slice.injEq]at e
  obtain⟨rfl,rfl,rfl⟩:=e
  simp only[if_true]at RP
  have each: ∀i,i<Xi→∃q:Up,∀j,j<3→W.cell? ((a.add (i*3)).add j)=[Value.string q.name,.int .i64 q.old,.int .i64 q.new][j]?:=fun i hi=>by
   obtain⟨cs',h1,h2⟩:=hx i (by omega)
   rw[Tryz.cells40]at h1
   obtain⟨_,hlen,xf⟩:=World.cells?_some h1
   obtain⟨q,rfl⟩:=Ya hlen h2
   exact⟨q,fun j hj=>xf j hj⟩
  have:Inhabited Up:=⟨⟨{data:=#[]},0,0⟩⟩
  obtain⟨q,hq⟩:=choose_lt each
  refine⟨(List.range Xi).map fun i=>q i,by simp,fun i hi=>?_,by simpa using hl,hm,.inr ⟨_,_,congrArg Prod.fst hxx,by simp⟩⟩
  have bJ:0<Xi:=by simp at hi;omega
  obtain⟨b,off,spot⟩:=a
  have XM:spot=none:=by
   have:=hq 0 bJ 0 (by omega)
   simp[Addr.add]at this
   simpa[Addr.add]using World.cell?_spot this
  subst XM
  have vd: ∀i j,((⟨b,off,none⟩:Addr).add (i*3)).add j=⟨b,off+i*3+j,none⟩:=fun i j=>by rw[add_plain,add_plain]
  refine⟨b,off,rfl,?_,fun k hk=>?_⟩
  ·have:=hq 0 bJ 0 (by omega)
   rw[vd]at this
   exact sF (a:=⟨b,off+0*3+0,none⟩) (this.trans rfl)
  ·have jB:k<Xi:=by simpa using hk
   have c0:=hq k jB 0 (by omega)
   have c1:=hq k jB 1 (by omega)
   have c2:=hq k jB 2 (by omega)
   rw[vd]at c0 c1 c2
   simp only[List.getElem_map,List.getElem_range]
   exact⟨c0,c1,c2⟩
end
section
open Go.ChangeShapes Go.WideShapes Go.ChangeAt Go.RowKit Go.Joins Go.Deep
set_option maxRecDepth 100000 in
theorem Yg{H:Type}{enc:TypeId×Value→H}{W:World}{v:Value}{fuel:Nat}{x:DataW H×List MemPlace}
  (Pt:DataW.trod enc Tryz.prog W 0 (fun _=>true) true fuel 25 [v]=some x):
  ∃(a:Option Addr) (c:Nat) (l:List Ob),v= .slice a l.length c∧zP W a l∧l.length≤maxLen∧l.length≤c∧(a=none→c=0)∧rT W a l:=by
 rcases open_slice Tryz.underlying25 Pt with⟨e,_⟩|⟨a,len,cap,m,n,D,Pl,e,_,hl,hm,RP,_,hx⟩
 ·simp only[List.cons.injEq,and_true]at e
  rw[e]
  exact⟨none,0,[],rfl,fun i hi=>by simp at hi,by simp,by simp,fun _=>rfl,fun _ _ e=>by cases e⟩
 ·simp only[List.cons.injEq,and_true]at e
  rw[e]
  simp only[if_true]at RP
  have each: ∀i,i<len→∃q:Ob×Option Addr×Nat,(∀j,j<4→W.cell? ((a.add (i*4)).add j)=[Value.int .i64 q.1.id,.int .i64 q.1.kind,.slice q.2.1 q.1.links.length q.2.2,.string q.1.text][j]?)∧yD W q.2.1 q.1.links∧q.1.links.length≤maxLen∧q.1.links.length≤q.2.2:=fun i hi=>by
   obtain⟨cs',h1,h2⟩:=hx i (by omega)
   rw[Tryz.cells58]at h1
   obtain⟨_,hlen,xf⟩:=World.cells?_some h1
   obtain⟨o,sa,sc,rfl,hh,LT,hsc⟩:=aT hlen h2
   exact⟨(o,sa,sc),fun j hj=>xf j hj,hh,LT,hsc⟩
  have:Inhabited (Ob×Option Addr×Nat):=⟨(⟨0,0,[],{data:=#[]}⟩,none,0)⟩
  obtain⟨q,hq⟩:=choose_lt each
  refine⟨some a,cap,(List.range len).map fun i=>(q i).1,by simp,fun i hi=>?_,by simp;omega,by simpa using hl,(fun e=>by cases e),?room⟩
  case room=>
   intro b off e k hk
   cases e
   have jB:k<len:=by simpa using hk
   obtain⟨hc,hh,LT,hsc⟩:=hq k jB
   have c2:=hc 2 (by omega)
   have zB4:((⟨b,off,none⟩:Addr).add (k*4)).add 2=⟨b,off+k*4+2,none⟩:=by rw[add_plain,add_plain]
   rw[zB4]at c2
   refine⟨sF (a:=⟨b,off+k*4+2,none⟩) (c2.trans rfl),fun sa n sc TC=>?_⟩
   rw[c2]at TC
   simp only[List.getElem?_cons_succ,List.getElem?_cons_zero,Option.some.injEq,Value.slice.injEq]at TC
   omega
  have bJ:0<len:=by simp at hi;omega
  obtain⟨b,off,spot⟩:=a
  have XM:spot=none:=by
   have:=(hq 0 bJ).1 0 (by omega)
   simp[Addr.add]at this
   simpa[Addr.add]using World.cell?_spot this
  subst XM
  have vd: ∀i j,((⟨b,off,none⟩:Addr).add (i*4)).add j=⟨b,off+i*4+j,none⟩:=fun i j=>by rw[add_plain,add_plain]
  refine⟨b,off,rfl,?_,fun k hk=>?_⟩
  ·have:=(hq 0 bJ).1 0 (by omega)
   rw[vd]at this
   exact sF (a:=⟨b,off+0*4+0,none⟩) (this.trans rfl)
  ·have jB:k<len:=by simpa using hk
   obtain⟨hc,hh,LT,_⟩:=hq k jB
   simp only[List.getElem_map,List.getElem_range]
   have c0:=hc 0 (by omega)
   have c1:=hc 1 (by omega)
   have c2:=hc 2 (by omega)
   have c3:=hc 3 (by omega)
   rw[vd]at c0 c1 c2 c3
   exact⟨(q k).2.1,(q k).2.2,c0,c1,c2,c3,hh,by unfold maxLen at LT;omega⟩
end
theorem zI{w:World}{q:Nat}{x0 x1 x2 x3 x4 x5 x6:Value}{t:TypeId}(h:w.heap[q]? =some (.cells #[x0,x1,x2,x3,x4,x5,x6] t)):w.cell? ⟨q,0,none⟩=some x0∧w.cell? ⟨q,1,none⟩=some x1∧w.cell? ⟨q,2,none⟩=some x2∧w.cell? ⟨q,3,none⟩=some x3∧w.cell? ⟨q,4,none⟩=some x4∧w.cell? ⟨q,5,none⟩=some x5∧w.cell? ⟨q,6,none⟩=some x6:=by
 refine⟨?_,?_,?_,?_,?_,?_,?_⟩<;>rw[cell_of_row w _ _ _ _ _ h]<;>rfl
end Go.Proofs.YtehmlpkapjdhkaaGreatDoor
