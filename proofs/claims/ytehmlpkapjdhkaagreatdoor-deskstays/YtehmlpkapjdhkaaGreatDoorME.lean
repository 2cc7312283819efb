import Derived.Test.YtehmlpkapjdhkaaGreatDoorMA
import Derived.Test.YtehmlpkapjdhkaaGreatDoorMD
import Derived.Deep.Slices
import Derived.SizedLaws
import Derived.Test.YtehmlpkapjdhkaaGreatDoorMH
import Derived.Carry
import Derived.Test.YtehmlpkapjdhkaaGreatDoorMR
import Derived.Test.YtehmlpkapjdhkaaGreatDoorMU
import Derived.Test.YtehmlpkapjdhkaaGreatDoorMP
namespace Go.Proofs.YtehmlpkapjdhkaaGreatDoor
section
open Go.ChangeShapes Go.WideShapes Go.ChangeAt Go.RowKit Go.Joins Go.Deep
set_option maxRecDepth 100000 in
theorem cells_object2 {H : Type} {enc : TypeId × Value → H} {W : World} {n : Nat} {cs : List Value} {x : DataW H × List MemPlace}
    (hl : cs.length = 4) (h : DataW.trod enc Tryz.prog W 0 (fun _=>true) true n 58 cs = some x) :
    ∃ (o : Ob) (sa : Option Addr) (sc : Nat),cs = [.int .i64 o.id,.int .i64 o.kind,.slice sa o.links.length sc,.string o.text] ∧ Holds W sa o.links ∧ o.links.length ≤ maxLen ∧ o.links.length ≤ sc:=by
  obtain ⟨y0,y1,y2,y3,k,_,_,h0,h1,h2,h3⟩:=trod_struct4 Tryz.underlying58 h
  match cs,hl with
  | [v0,v1,v2,v3],_ =>
    have g0 : DataW.trod enc Tryz.prog W 0 (fun _=>true) true k 3 [v0] = some y0:=h0
    have g1 : DataW.trod enc Tryz.prog W 0 (fun _=>true) true k 3 [v1] = some y1:=h1
    have g2 : DataW.trod enc Tryz.prog W 0 (fun _=>true) true k 45 [v2] = some y2:=h2
    have g3 : DataW.trod enc Tryz.prog W 0 (fun _=>true) true k 9 [v3] = some y3:=h3
    obtain ⟨id,e0,_,_⟩:=DataW.trod_int Tryz.underlying3 g0
    obtain ⟨kind,e1,_,_⟩:=DataW.trod_int Tryz.underlying3 g1
    obtain ⟨t,e3,_,ht⟩:=DataW.trod_string Tryz.underlying9 g3
    simp only [List.cons.injEq,and_true] at e0 e1 e3
    subst e0 e1 e3
    rcases open_ints Tryz.underlying45 Tryz.underlying3 Tryz.cells3 g2 with ⟨e2,_⟩ | ⟨a,len,cap,zs,e2,_,hl,hm,hz,_,hcell,_⟩
    · simp only [List.cons.injEq,and_true] at e2
      subst e2
      exact ⟨⟨id,kind,[],t⟩,none,0,rfl,fun i hi=>by simp at hi,by simp,Nat.le_refl _⟩
    · simp only [List.cons.injEq,and_true] at e2
      subst e2
      simp only [if_true] at hz
      have hlen : (zs.take len).length = len:=by rw [List.length_take];omega
      refine ⟨⟨id,kind,zs.take len,t⟩,some a,cap,by simp only [hlen],fun i hi=>?_,by show (zs.take len).length ≤ maxLen;omega,by show (zs.take len).length ≤ cap;omega⟩
      have hi' : i < (zs.take len).length:=hi
      obtain ⟨b,off,rfl,hc⟩:=ints_at hcell (by omega)
      refine ⟨b,off,rfl,lt_of_cell (a:=⟨b,off + 0,none⟩) (hc 0 (by omega)),fun j hj=>?_⟩
      have hj' : j < (zs.take len).length:=hj
      rw [hc j (by omega)]
      simp only [List.getD_eq_getElem?_getD,List.getElem?_take,if_pos (show j < len by omega)]
end

section
open Go.ChangeShapes Go.WideShapes Go.ChangeAt Go.RowKit Go.Joins Go.Deep
theorem Tryz.cells65 : Tryz.prog.cellsOf 65 = 2:=by kernel_rfl
set_option maxRecDepth 100000 in
theorem cells_ref {H : Type} {enc : TypeId × Value → H} {W : World} {n : Nat} {cs : List Value} {x : DataW H × List MemPlace}
    (hl : cs.length = 2) (h : DataW.trod enc Tryz.prog W 0 (fun _=>true) true n 65 cs = some x) : ∃ r : Rf,cs = [.string r.name,.int .i64 r.id]:=by
  obtain ⟨y0,y1,k,_,_,h0,h1⟩:=trod_struct2 Tryz.underlying65 h
  match cs,hl with
  | [v0,v1],_ =>
    have g0 : DataW.trod enc Tryz.prog W 0 (fun _=>true) true k 9 [v0] = some y0:=h0
    have g1 : DataW.trod enc Tryz.prog W 0 (fun _=>true) true k 3 [v1] = some y1:=h1
    obtain ⟨t,e0,_,_⟩:=DataW.trod_string Tryz.underlying9 g0
    obtain ⟨id,e1,_,_⟩:=DataW.trod_int Tryz.underlying3 g1
    simp only [List.cons.injEq,and_true] at e0 e1
    subst e0 e1
    exact ⟨⟨t,id⟩,rfl⟩
end

section
open Go.ChangeShapes Go.WideShapes Go.ChangeAt Go.RowKit Go.Joins Go.Deep
theorem Tryz.cells40 : Tryz.prog.cellsOf 40 = 3:=by kernel_rfl
set_option maxRecDepth 100000 in
theorem cells_update {H : Type} {enc : TypeId × Value → H} {W : World} {n : Nat} {cs : List Value} {x : DataW H × List MemPlace}
    (hl : cs.length = 3) (h : DataW.trod enc Tryz.prog W 0 (fun _=>true) true n 40 cs = some x) : ∃ r : Up,cs = [.string r.name,.int .i64 r.old,.int .i64 r.new]:=by
  obtain ⟨y0,y1,y2,k,_,_,h0,h1,h2⟩:=trod_struct3 Tryz.underlying40 h
  match cs,hl with
  | [v0,v1,v2],_ =>
    have g0 : DataW.trod enc Tryz.prog W 0 (fun _=>true) true k 9 [v0] = some y0:=h0
    have g1 : DataW.trod enc Tryz.prog W 0 (fun _=>true) true k 3 [v1] = some y1:=h1
    have g2 : DataW.trod enc Tryz.prog W 0 (fun _=>true) true k 3 [v2] = some y2:=h2
    obtain ⟨t,e0,_,_⟩:=DataW.trod_string Tryz.underlying9 g0
    obtain ⟨o,e1,_,_⟩:=DataW.trod_int Tryz.underlying3 g1
    obtain ⟨n,e2,_,_⟩:=DataW.trod_int Tryz.underlying3 g2
    simp only [List.cons.injEq,and_true] at e0 e1 e2
    subst e0 e1 e2
    exact ⟨⟨t,o,n⟩,rfl⟩
set_option maxRecDepth 100000 in
theorem read_updates {H : Type} {enc : TypeId × Value → H} {W : World} {a0 : Option Addr} {len0 cap0 fuel : Nat} {x : DataW H × List MemPlace}
    (hf' : DataW.trod enc Tryz.prog W 0 (fun _=>true) true fuel 26 [.slice a0 len0 cap0] = some x) :
    ∃ (l : List Up),len0 = l.length ∧ HoldsU W a0 l ∧ l.length ≤ cap0 ∧ cap0 ≤ maxLen ∧ (l.length = 0 ∨ ∃ elems spare,x.1 = .slice elems spare ∧ elems.length = l.length):=by
  rcases open_slice Tryz.underlying26 hf' with ⟨e,_⟩ | ⟨a,len,cap,m,n,D,Pl,e,_,hl,hm,hmm,hxx,hx⟩
  · simp only [List.cons.injEq,and_true,Value.slice.injEq] at e
    obtain ⟨rfl,rfl,rfl⟩:=e
    exact ⟨[],rfl,fun i hi=>by simp at hi,by simp,by simp,.inl rfl⟩
  · simp only [List.cons.injEq,and_true,Value.slice.injEq] at e
    obtain ⟨rfl,rfl,rfl⟩:=e
    simp only [if_true] at hmm
    have each : ∀ i,i < len0 → ∃ q : Up,∀ j,j < 3 → W.cell? ((a.add (i * 3)).add j) = [Value.string q.name,.int .i64 q.old,.int .i64 q.new][j]?:=fun i hi=>by
      obtain ⟨cs',h1,h2⟩:=hx i (by omega)
      rw [Tryz.cells40] at h1
      obtain ⟨_,hlen,hcell⟩:=World.cells?_some h1
      obtain ⟨q,rfl⟩:=cells_update hlen h2
      exact ⟨q,fun j hj=>hcell j hj⟩
    have : Inhabited Up:=⟨⟨{ data:=#[] },0,0⟩⟩
    obtain ⟨q,hq⟩:=choose_lt each
    refine ⟨(List.range len0).map fun i=>q i,by simp,fun i hi=>?_,by simpa using hl,hm,.inr ⟨_,_,congrArg Prod.fst hxx,by simp⟩⟩
    have hpos : 0 < len0:=by simp at hi;omega
    obtain ⟨b,off,spot⟩:=a
    have hsp : spot = none:=by
      have:=hq 0 hpos 0 (by omega)
      simp [Addr.add] at this
      simpa [Addr.add] using World.cell?_spot this
    subst hsp
    have hadd : ∀ i j,((⟨b,off,none⟩ : Addr).add (i * 3)).add j = ⟨b,off + i * 3 + j,none⟩:=fun i j=>by rw [add_plain,add_plain]
    refine ⟨b,off,rfl,?_,fun k hk=>?_⟩
    · have:=hq 0 hpos 0 (by omega)
      rw [hadd] at this
      exact lt_of_cell (a:=⟨b,off + 0 * 3 + 0,none⟩) (this.trans rfl)
    · have hk' : k < len0:=by simpa using hk
      have c0:=hq k hk' 0 (by omega)
      have c1:=hq k hk' 1 (by omega)
      have c2:=hq k hk' 2 (by omega)
      rw [hadd] at c0 c1 c2
      simp only [List.getElem_map,List.getElem_range]
      exact ⟨c0,c1,c2⟩
end

section
open Go.ChangeShapes Go.WideShapes Go.ChangeAt Go.RowKit Go.Joins Go.Deep
set_option maxRecDepth 100000 in
theorem read_refs {H : Type} {enc : TypeId × Value → H} {W : World} {v : Value} {fuel : Nat} {x : DataW H × List MemPlace}
    (hf' : DataW.trod enc Tryz.prog W 0 (fun _=>true) true fuel 34 [v] = some x) :
    ∃ (a : Option Addr) (c : Nat) (l : List Rf),v = .slice a l.length c ∧ HoldsR W a l ∧ l.length ≤ c ∧ c ≤ maxLen:=by
  rcases open_slice Tryz.underlying34 hf' with ⟨e,_⟩ | ⟨a,len,cap,m,n,D,Pl,e,_,hl,hm,hmm,_,hx⟩
  · simp only [List.cons.injEq,and_true] at e
    rw [e]
    exact ⟨none,0,[],rfl,fun i hi=>by simp at hi,by simp,by simp⟩
  · simp only [List.cons.injEq,and_true] at e
    rw [e]
    simp only [if_true] at hmm
    have each : ∀ i,i < len → ∃ q : Rf,∀ j,j < 2 → W.cell? ((a.add (i * 2)).add j) = [Value.string q.name,.int .i64 q.id][j]?:=fun i hi=>by
      obtain ⟨cs',h1,h2⟩:=hx i (by omega)
      rw [Tryz.cells65] at h1
      obtain ⟨_,hlen,hcell⟩:=World.cells?_some h1
      obtain ⟨q,rfl⟩:=cells_ref hlen h2
      exact ⟨q,fun j hj=>hcell j hj⟩
    have : Inhabited Rf:=⟨⟨{ data:=#[] },0⟩⟩
    obtain ⟨q,hq⟩:=choose_lt each
    refine ⟨some a,cap,(List.range len).map fun i=>q i,by simp,fun i hi=>?_,by simpa using hl,hm⟩
    have hpos : 0 < len:=by simp at hi;omega
    obtain ⟨b,off,spot⟩:=a
    have hsp : spot = none:=by
      have:=hq 0 hpos 0 (by omega)
      simp [Addr.add] at this
      simpa [Addr.add] using World.cell?_spot this
    subst hsp
    have hadd : ∀ i j,((⟨b,off,none⟩ : Addr).add (i * 2)).add j = ⟨b,off + i * 2 + j,none⟩:=fun i j=>by rw [add_plain,add_plain]
    refine ⟨b,off,rfl,?_,fun k hk=>?_⟩
    · have:=hq 0 hpos 0 (by omega)
      rw [hadd] at this
      exact lt_of_cell (a:=⟨b,off + 0 * 2 + 0,none⟩) (this.trans rfl)
    · have hk' : k < len:=by simpa using hk
      have c0:=hq k hk' 0 (by omega)
      have c1:=hq k hk' 1 (by omega)
      rw [hadd] at c0 c1
      simp only [List.getElem_map,List.getElem_range]
      exact ⟨c0,c1⟩
set_option maxRecDepth 100000 in
theorem read_objects {H : Type} {enc : TypeId × Value → H} {W : World} {v : Value} {fuel : Nat} {x : DataW H × List MemPlace}
    (hf' : DataW.trod enc Tryz.prog W 0 (fun _=>true) true fuel 25 [v] = some x) :
    ∃ (a : Option Addr) (c : Nat) (l : List Ob),v = .slice a l.length c ∧ HoldsS W a l ∧ l.length ≤ maxLen ∧ l.length ≤ c ∧ (a = none → c = 0) ∧ Room W a l:=by
  rcases open_slice Tryz.underlying25 hf' with ⟨e,_⟩ | ⟨a,len,cap,m,n,D,Pl,e,_,hl,hm,hmm,_,hx⟩
  · simp only [List.cons.injEq,and_true] at e
    rw [e]
    exact ⟨none,0,[],rfl,fun i hi=>by simp at hi,by simp,by simp,fun _=>rfl,fun _ _ e=>by cases e⟩
  · simp only [List.cons.injEq,and_true] at e
    rw [e]
    simp only [if_true] at hmm
    have each : ∀ i,i < len → ∃ q : Ob × Option Addr × Nat,(∀ j,j < 4 → W.cell? ((a.add (i * 4)).add j) = [Value.int .i64 q.1.id,.int .i64 q.1.kind,.slice q.2.1 q.1.links.length q.2.2,.string q.1.text][j]?) ∧ Holds W q.2.1 q.1.links ∧ q.1.links.length ≤ maxLen ∧ q.1.links.length ≤ q.2.2:=fun i hi=>by
      obtain ⟨cs',h1,h2⟩:=hx i (by omega)
      rw [Tryz.cells58] at h1
      obtain ⟨_,hlen,hcell⟩:=World.cells?_some h1
      obtain ⟨o,sa,sc,rfl,hh,hm',hsc⟩:=cells_object2 hlen h2
      exact ⟨(o,sa,sc),fun j hj=>hcell j hj,hh,hm',hsc⟩
    have : Inhabited (Ob × Option Addr × Nat):=⟨(⟨0,0,[],{ data:=#[] }⟩,none,0)⟩
    obtain ⟨q,hq⟩:=choose_lt each
    refine ⟨some a,cap,(List.range len).map fun i=>(q i).1,by simp,fun i hi=>?_,by simp;omega,by simpa using hl,(fun e=>by cases e),?room⟩
    case room =>
      intro b off e k hk
      cases e
      have hk' : k < len:=by simpa using hk
      obtain ⟨hc,hh,hm',hsc⟩:=hq k hk'
      have c2:=hc 2 (by omega)
      have hadd2 : ((⟨b,off,none⟩ : Addr).add (k * 4)).add 2 = ⟨b,off + k * 4 + 2,none⟩:=by rw [add_plain,add_plain]
      rw [hadd2] at c2
      refine ⟨lt_of_cell (a:=⟨b,off + k * 4 + 2,none⟩) (c2.trans rfl),fun sa n sc hcc=>?_⟩
      rw [c2] at hcc
      simp only [List.getElem?_cons_succ,List.getElem?_cons_zero,Option.some.injEq,Value.slice.injEq] at hcc
      omega
    have hpos : 0 < len:=by simp at hi;omega
    obtain ⟨b,off,spot⟩:=a
    have hsp : spot = none:=by
      have:=(hq 0 hpos).1 0 (by omega)
      simp [Addr.add] at this
      simpa [Addr.add] using World.cell?_spot this
    subst hsp
    have hadd : ∀ i j,((⟨b,off,none⟩ : Addr).add (i * 4)).add j = ⟨b,off + i * 4 + j,none⟩:=fun i j=>by rw [add_plain,add_plain]
    refine ⟨b,off,rfl,?_,fun k hk=>?_⟩
    · have:=(hq 0 hpos).1 0 (by omega)
      rw [hadd] at this
      exact lt_of_cell (a:=⟨b,off + 0 * 4 + 0,none⟩) (this.trans rfl)
    · have hk' : k < len:=by simpa using hk
      obtain ⟨hc,hh,hm',_⟩:=hq k hk'
      simp only [List.getElem_map,List.getElem_range]
      have c0:=hc 0 (by omega)
      have c1:=hc 1 (by omega)
      have c2:=hc 2 (by omega)
      have c3:=hc 3 (by omega)
      rw [hadd] at c0 c1 c2 c3
      exact ⟨(q k).2.1,(q k).2.2,c0,c1,c2,c3,hh,by unfold maxLen at hm';omega⟩
end
end Go.Proofs.YtehmlpkapjdhkaaGreatDoor
