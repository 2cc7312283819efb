import Derived.Test.YtehmlpkapjdhkaaGreatDoorME2
import Derived.Test.YtehmlpkapjdhkaaGreatDoorML1
namespace Go.Proofs.YtehmlpkapjdhkaaGreatDoor
open Go.ChangeShapes Go.WideShapes Go.ChangeAt Go.RowKit Go.Joins Go.Deep
theorem Tryz.cells36 : Tryz.prog.cellsOf 36 = 7:=by kernel_rfl
set_option maxRecDepth 100000 in
theorem cells_rep {H : Type} {enc : TypeId × Value → H} {W : World} {fuel : Nat} {cs : List Value} {x : DataW H × List MemPlace}
    (hl : cs.length = 7) (h : DataW.trod enc Tryz.prog W 0 (fun _=>true) true fuel 36 cs = some x) : ∃ q : Rq,cs = q.cells ∧ q.H W:=by
  match cs,hl with
  | [v0,v1,v2,v3,v4,v5,v6],_ =>
  obtain ⟨xs,n,_,_,_,hlen,hx⟩:=DataW.trod_struct Tryz.underlying36 h
  match xs,hlen with
  | [x0, x1, x2, x3, x4], _ =>
    have k1 : Tryz.prog.cellsOf 25 = 1:=by kernel_rfl
    have k2 : Tryz.prog.cellsOf 34 = 1:=by kernel_rfl
    have k3 : Tryz.prog.cellsOf 3 = 1:=by kernel_rfl
    have k4 : Tryz.prog.cellsOf 28 = 3:=by kernel_rfl
    have k5 : Tryz.prog.cellsOf 26 = 1:=by kernel_rfl
    have k6 : Tryz.prog.cellsOf 4 = 1:=by kernel_rfl
    have h0 : DataW.trod enc Tryz.prog W 0 (fun _=>true) true n 25 [v0] = some x0:=by simpa [k1] using hx 0 _ rfl
    have h1 : DataW.trod enc Tryz.prog W 0 (fun _=>true) true n 34 [v1] = some x1:=by simpa [k2] using hx 1 _ rfl
    have h2 : DataW.trod enc Tryz.prog W 0 (fun _=>true) true n 3 [v2] = some x2:=by simpa [k3] using hx 2 _ rfl
    have h3 : DataW.trod enc Tryz.prog W 0 (fun _=>true) true n 3 [v3] = some x3:=by simpa [k3] using hx 3 _ rfl
    have h4 : DataW.trod enc Tryz.prog W 0 (fun _=>true) true n 28 [v4,v5,v6] = some x4:=by simpa [k4] using hx 4 _ rfl
    obtain ⟨y0,y1,y2,k,_,_,g0,g1,g2⟩:=trod_struct3 Tryz.underlying28 h4
    have g0' : DataW.trod enc Tryz.prog W 0 (fun _=>true) true k 25 [v4] = some y0:=by simpa [k1] using g0
    have g1' : DataW.trod enc Tryz.prog W 0 (fun _=>true) true k 26 [v5] = some y1:=by simpa [k5] using g1
    have g2' : DataW.trod enc Tryz.prog W 0 (fun _=>true) true k 4 [v6] = some y2:=by simpa [k6] using g2
    obtain ⟨aS,cs,s,rfl,hs,hsl,hsc,_,hroom⟩:=read_objects h0
    obtain ⟨al,cl,l,rfl,hl,hlc,hcm⟩:=read_refs h1
    obtain ⟨g,e2,_,_⟩:=DataW.trod_int Tryz.underlying3 h2
    obtain ⟨ph,e3,_,_⟩:=DataW.trod_int Tryz.underlying3 h3
    obtain ⟨a1,c1,m,rfl,hm,hml,_,_,_⟩:=read_objects g0'
    obtain ⟨a2,n2,c2,e5⟩:=slice_form Tryz.underlying26 g1'
    simp only [List.cons.injEq,and_true] at e5
    subst e5
    obtain ⟨us,rfl,hu,huc,hum,_⟩:=read_updates g1'
    obtain ⟨f0,e6,_⟩:=DataW.trod_bool Tryz.underlying4 g2'
    simp only [List.cons.injEq,and_true] at e2 e3 e6
    subst e2 e3 e6
    have hM : maxLen = 9223372036854775807:=rfl
    have b1 : s.length ≤ 9223372036854775807:=by omega
    have b2 : l.length ≤ 9223372036854775807:=by omega
    have b3 : m.length ≤ 9223372036854775807:=by omega
    have b4 : us.length ≤ 9223372036854775807:=by omega
    exact ⟨⟨⟨s,l,g,ph,m,us,f0⟩,aS,cs,al,cl,a1,c1,a2,c2⟩,rfl,hs,hl,hm,hu,b1,b2,b3,b4⟩
set_option maxRecDepth 100000 in
theorem read_reps {H : Type} {enc : TypeId × Value → H} {W : World} {v : Value} {fuel : Nat} {x : DataW H × List MemPlace}
    (hf' : DataW.trod enc Tryz.prog W 0 (fun _=>true) true fuel 22 [v] = some x) :
    ∃ (a : Option Addr) (c : Nat) (l : List Rq),v = .slice a l.length c ∧ HoldsQ W a l ∧ l.length ≤ c ∧ c ≤ maxLen:=by
  rcases open_slice Tryz.underlying22 hf' with ⟨e,_⟩ | ⟨a,len,cap,m,n,D,Pl,e,_,hl,hm,hmm,_,hx⟩
  · simp only [List.cons.injEq, and_true] at e
    rw [e]
    exact ⟨none,0,[],rfl,fun i hi=>by simp at hi,by simp,by simp⟩
  · simp only [List.cons.injEq, and_true] at e
    rw [e]
    simp only [if_true] at hmm
    have each : ∀ i,i < len → ∃ q : Rq,(∀ j,j < 7 → W.cell? ((a.add (i * 7)).add j) = (q.cells)[j]?) ∧ q.H W:=fun i hi=>by
      obtain ⟨cs',h1,h2⟩:=hx i (by omega)
      rw [Tryz.cells36] at h1
      obtain ⟨_,hlen,hcell⟩:=World.cells?_some h1
      obtain ⟨q,rfl,hH⟩:=cells_rep hlen h2
      exact ⟨q,fun j hj=>hcell j hj,hH⟩
    have : Inhabited Rq:=⟨⟨⟨[],[],0,0,[],[],false⟩,none,0,none,0,none,0,none,0⟩⟩
    obtain ⟨q,hq⟩:=choose_lt each
    refine ⟨some a,cap,(List.range len).map fun i=>q i,by simp,fun i hi=>?_,by simpa using hl,hm⟩
    have hpos : 0 < len:=by simp at hi;omega
    obtain ⟨b,off,spot⟩:=a
    have hsp : spot = none:=by
      have:=(hq 0 hpos).1 0 (by omega)
      simp [Addr.add] at this
      simpa [Addr.add] using World.cell?_spot this
    subst hsp
    have hadd : ∀ i j,((⟨b,off,none⟩ : Addr).add (i * 7)).add j = ⟨b,off + i * 7 + j,none⟩:=fun i j=>by rw [add_plain,add_plain]
    refine ⟨b,off,rfl,?_,fun k hk=>?_⟩
    · have := (hq 0 hpos).1 0 (by omega)
      rw [hadd] at this
      exact lt_of_cell (a:=⟨b,off + 0 * 7 + 0,none⟩) (this.trans rfl)
    · have hk' : k < len := by simpa using hk
      obtain ⟨hc,hH⟩:=hq k hk'
      have c0:=hc 0 (by omega)
      have c1:=hc 1 (by omega)
      have c2:=hc 2 (by omega)
      have c3:=hc 3 (by omega)
      have c4:=hc 4 (by omega)
      have c5:=hc 5 (by omega)
      have c6:=hc 6 (by omega)
      rw [hadd] at c0 c1 c2 c3 c4 c5 c6
      simp only [List.getElem_map,List.getElem_range]
      exact ⟨⟨c0,c1,c2,c3,c4,c5,c6⟩,hH⟩
set_option maxRecDepth 100000 in
theorem open_cluster {H : Type} {enc : TypeId × Value → H} {W : World} {r : Reach} {b0 : Nat} {v : Value} {d : DataW H} {p : List MemPlace}
    (hv : Value.okWide Tryz.prog W r b0 24 v) (h : DataW.Trod enc Tryz.prog W 0 (fun _=>true) true 24 v d p) :
    ∃ (a : Option Addr) (c : Nat) (l : List Rq),v = .agg #[.slice a l.length c] ∧ HoldsQ W a l ∧ l.length ≤ c ∧ c ≤ maxLen:=by
  obtain ⟨cells,rfl,hsz⟩:=okWide_struct Tryz.underlying24 hv
  obtain ⟨v0,rfl⟩ : ∃ v0,cells = #[v0]:=by
    have h1 : cells.size = 1:=hsz.trans (by kernel_rfl)
    exact ⟨cells[0],Array.ext (by simp [h1]) (fun i h2 h3=>by
      have : i = 0:=by omega
      subst this;rfl)⟩
  obtain ⟨fuel,hf⟩:=h
  have hf' : DataW.trod enc Tryz.prog W 0 (fun _=>true) true fuel 24 [v0] = some (d,p):=hf
  obtain ⟨xs,n,_,_,_,hlen,hx⟩:=DataW.trod_struct Tryz.underlying24 hf'
  match xs,hlen with
  | [x0], _ =>
    have k1 : Tryz.prog.cellsOf 22 = 1:=by kernel_rfl
    have h0 : DataW.trod enc Tryz.prog W 0 (fun _=>true) true n 22 [v0] = some x0:=by simpa [k1] using hx 0 _ rfl
    obtain ⟨a,c,l,rfl,h1,h2,h3⟩:=read_reps h0
    exact ⟨a,c,l,rfl,h1,h2,h3⟩
end Go.Proofs.YtehmlpkapjdhkaaGreatDoor
