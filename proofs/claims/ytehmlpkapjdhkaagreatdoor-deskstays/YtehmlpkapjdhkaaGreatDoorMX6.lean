import Derived.Test.YtehmlpkapjdhkaaGreatDoorMX2
import Derived.Test.YtehmlpkapjdhkaaGreatDoorMF
import Derived.RegionIn
import Derived.Test.YtehmlpkapjdhkaaGreatDoorML3
import Derived.Test.YtehmlpkapjdhkaaGreatDoorMK1
import Derived.Test.YtehmlpkapjdhkaaGreatDoorMX1
import Derived.Test.YtehmlpkapjdhkaaGreatDoorML4
namespace Go.Proofs.YtehmlpkapjdhkaaGreatDoor
section
open Go.RowKit Go.Shelf
attribute [local go_sem] Oper.semAt_some
def KeptC (n₀ Bs Bn : Nat) (W W' : World) : Prop:=Below n₀ W W' ∧ W'.heap[Bs]? = W.heap[Bs]? ∧ W'.heap[Bn]? = W.heap[Bn]?
theorem KeptC.trans {n₀ Bs Bn : Nat} {A B C : World} (h : KeptC n₀ Bs Bn A B) (k : KeptC n₀ Bs Bn B C) : KeptC n₀ Bs Bn A C:=⟨h.1.trans k.1,k.2.1.trans h.2.1,k.2.2.trans h.2.2⟩
theorem KeptC.book {n₀ Bs Bn : Nat} {w : World} (hn : n₀ ≤ w.heap.size) (hb : Bs < w.heap.size) (hb' : Bn < w.heap.size) (W : World) (l : Nat) (o o' : Obj) (hl : w.heap.size ≤ l) (h : W.heap[l]? = some o) (h1 : o.isCells = false) (h2 : o.isWalk = false) : KeptC n₀ Bs Bn W (W.putObj l o'):=by
  refine ⟨belowK_b hn W l o o' hl h h1 h2,?_,?_⟩
  · have hlt : l < W.heap.size := heap_lt h
    exact (grownBy_putObj' W l o').block Bs (by omega) (fun e=>by cases e;omega)
  · have hlt : l < W.heap.size := heap_lt h
    exact (grownBy_putObj' W l o').block Bn (by omega) (fun e=>by cases e;omega)
abbrev Chk (n : Nat):={ x : Nat // x * 12 < n }
def Chk.vals {n : Nat} (b off : Nat) (x : Chk n) : Array Value:=#[.slice (some ⟨b,off + x.1 * 12 * 4,none⟩) (min 12 (n - x.1 * 12)) (min 12 (n - x.1 * 12))]
def Iota {n : Nat} (pre : List (Chk n)) : Prop:=pre.map (fun x=>x.1) = List.range pre.length
theorem Iota.next {n : Nat} {pre : List (Chk n)} (h : Iota pre) (hp : pre.length * 12 < n) : Iota (pre ++ [(⟨pre.length,hp⟩ : Chk n)]):=by
  unfold Iota at *
  rw [List.map_append,h,List.length_append,List.length_singleton,List.range_succ];rfl
theorem Iota.last {n : Nat} {pre : List (Chk n)} {x : Chk n} (h : Iota (pre ++ [x])) : Iota pre ∧ x.1 = pre.length:=by
  unfold Iota at *
  rw [List.map_append,List.length_append,List.length_singleton,List.range_succ] at h
  have:=List.append_inj' h rfl
  exact ⟨this.1,by simpa using this.2⟩
set_option maxRecDepth 100000 in
set_option maxHeartbeats 2000000 in
theorem chunk1_in (n : Nat) (hn : 1 ≤ n) (l Bs Bn n₀ b off N cap : Nat) (hN : N ≤ cap) (hcap : N ≤ 1000) (J Jx : List (Chk N) → World → Prop) (hJd : ∀ pre W,J pre W → J pre W.drew)
    (hY : ∀ (pre : List (Chk N)) (x : Chk N) W,J pre W → pre.length < N → YieldAt Fence.wide (n - 1) Tryz.prog l (x.vals b off) W fun e W' =>
      (e = .returned (.bool true) ∧ J (pre ++ [x]) W' ∧ KeptC n₀ Bs Bn W W') ∨ (e = .returned (.bool false) ∧ Jx (pre ++ [x]) W'))
    (W : World) (hn₀ : n₀ ≤ W.heap.size) (hBs : W.cell? ⟨Bs,0,none⟩ = some (.slice (some ⟨b,off,none⟩) N cap)) (hBn : W.cell? ⟨Bn,0,none⟩ = some (.int .i64 12)) (h0 : J [] W) :
    CallsIn Fence.wide n Tryz.prog 187 #[.func (.yield l) #[] #[],.pointer (some ⟨Bs,0,none⟩),.pointer (some ⟨Bn,0,none⟩)] W fun e W'=>(∃ v,e = .returned v) ∧
      ((∃ ys : List (Chk N),(Iota ys ∧ N ≤ ys.length * 12) ∧ J ys W') ∨ (∃ pre : List (Chk N),Iota pre ∧ Jx pre W')):=by
  refine callsIn_of_wp Tryz.func187 rfl trivial ?_ rfl
  simp only [Tryz.ntmps187,List.size_toArray,List.length_cons,List.length_nil,Nat.reduceAdd,Nat.reduceSub,Array.replicate_succ,Array.replicate_zero,List.push_toArray,List.append_toArray,List.nil_append,List.cons_append]
  gi_wp2
  gi_loopw [4] (fun i wr=>∃ (j : Nat) (pre : List (Chk N)),j = pre.length * 12 ∧ pre.length ≤ 1000 ∧ i = .int .i64 (j : Int) ∧ Iota pre ∧ J pre wr ∧ KeptC n₀ Bs Bn W wr)
    (fun i _=>N - (intOf i).toNat)
  case atStart=>exact ⟨0,[],rfl,by simp,rfl,rfl,h0,Below.refl _ _,rfl,rfl⟩
  case round =>
    obtain ⟨j,pre,hj0,hp9,rfl,hpre,hJs,hK⟩:=hrel
    have hj : Hid (j = pre.length * 12):=hj0
    have xs:=(World.cell?_of_block (a:=⟨Bs,0,none⟩) hK.2.1).trans hBs
    have xn:=(World.cell?_of_block (a:=⟨Bn,0,none⟩) hK.2.2).trans hBn
    by_cases hlt : j < N
    · have hlt' : (j : Int) < (N : Int) := by omega
      have hj9 : j ≤ 1000:=by omega
      have hp : pre.length * 12 < N:=by omega
      obtain ⟨fn,tmps,assign,body,hy,hR⟩:=hY pre ⟨pre.length,hp⟩ wr.drew (hJd _ _ hJs) (by omega)
      have hKd : KeptC n₀ Bs Bn W wr.drew:=⟨hK.1.trans ((below_refl_drew wr).mono (Nat.le_trans hn₀ hK.1.size)),hK.2⟩
      simp only [Chk.vals,← hj0] at hy
      have HN : Hid (Iota (pre ++ [(⟨pre.length,hp⟩ : Chk N)])):=hpre.next hp
      have HJ : Hid (j + 12 = (pre ++ [(⟨pre.length,hp⟩ : Chk N)]).length * 12):=by unfold Hid;rw [List.length_append,List.length_singleton];omega
      have HL : Hid ((pre ++ [(⟨pre.length,hp⟩ : Chk N)]).length ≤ 1000):=by unfold Hid;rw [List.length_append,List.length_singleton];omega
      obtain ⟨m,hm⟩ : ∃ m,m = min 12 (N - j):=⟨_,rfl⟩
      rw [← hm] at hy
      have hm1 : Hid (((min 12 ((N - j : Nat) : Int))) = (m : Int)):=by unfold Hid;omega
      have hm2 : j + m ≤ N:=by omega
      have hm4 : 0 < m:=by omega
      have hm3 : ((j : Int) + (m : Int)).toNat - j = m:=by omega
      have ys:=(World.cell?_of_block (a:=⟨Bs,0,none⟩) hKd.2.1).trans hBs
      clear hj0 hm
      gi_wp2
      gi_region
      rw [hm1.out]
      clear hK xs xn hJs
      generalize wr.drew = wd at *
      gi_wp2
      refine hR.mono ?_
      rintro e W3 (⟨rfl,hJ3,hk3⟩ | ⟨rfl,hJx3⟩)
      · have hK3 := hKd.trans hk3
        have yn:=(World.cell?_of_block (a:=⟨Bn,0,none⟩) hK3.2.2).trans hBn
        gi_wp2
        go_roundw
        case rel=>exact ⟨j + 12,_,HJ.out,HL.out,by go_num,HN.out,hJ3,hK3⟩
        case measure=>simp [intOf];omega
      · gi_wp2
        refine bodyPost_ret (results_none rfl _ _ _) rfl ?_
        exact ⟨⟨_,rfl⟩,.inr ⟨_,HN.out,hJx3⟩⟩
    · have hge : ¬ (j : Int) < (N : Int) := by omega
      have HF : Hid (Iota pre ∧ N ≤ pre.length * 12):=⟨hpre,by omega⟩
      clear hpre hlt hj0
      gi_wp2
      go_end0
      exact ⟨⟨_,rfl⟩,.inl ⟨pre,HF.out,hJs⟩⟩
set_option maxRecDepth 100000 in
set_option maxHeartbeats 1000000 in
theorem chunk1_nil (n : Nat) (l Bs Bn : Nat) (a : Option Addr) (cap : Nat) (W : World) (hBs : W.cell? ⟨Bs,0,none⟩ = some (.slice a 0 cap)) :
    CallsIn Fence.wide n Tryz.prog 187 #[.func (.yield l) #[] #[],.pointer (some ⟨Bs,0,none⟩),.pointer (some ⟨Bn,0,none⟩)] W fun e W'=>(∃ v,e = .returned v) ∧ W' = W:=by
  refine callsIn_of_wp Tryz.func187 rfl trivial ?_ rfl
  simp only [Tryz.ntmps187,List.size_toArray,List.length_cons,List.length_nil,Nat.reduceAdd,Nat.reduceSub,Array.replicate_succ,Array.replicate_zero,List.push_toArray,List.append_toArray,List.nil_append,List.cons_append]
  gi_wp2
  gi_loopw [4] (fun i wr=>i = .int .i64 0 ∧ wr = W) (fun _ _=>0)
  case atStart=>exact ⟨rfl,rfl⟩
  case round =>
    obtain ⟨rfl,rfl⟩:=hrel
    gi_wp2
    go_end0
    exact ⟨⟨_,rfl⟩,rfl⟩
theorem chunk_stops (n : Nat) (hn : 1 ≤ n) (Bs Bn n₀ b off N cap : Nat) (a : Option Addr) (ha : 0 < N → a = some ⟨b,off,none⟩) (hN : N ≤ cap) (hcap : N ≤ 1000) (w : World) (hBs : Bs < w.heap.size) (hBn : Bn < w.heap.size) (hn₀ : n₀ ≤ w.heap.size)
    (hcs : w.cell? ⟨Bs,0,none⟩ = some (.slice a N cap)) (hcn : w.cell? ⟨Bn,0,none⟩ = some (.int .i64 12)) :
    SeqStopsK Fence.wide n Tryz.prog 187 #[.pointer (some ⟨Bs,0,none⟩),.pointer (some ⟨Bn,0,none⟩)] (Chk.vals (n:=N) b off) (KeptC n₀ Bs Bn) (fun ys=>Iota ys ∧ N ≤ ys.length * 12) Iota N w:=fun l J Jx W hW hJ _ hY h0=>by
  have hc:=(hW.cell (p:=⟨Bs,0,none⟩) hBs).trans hcs
  have hd:=(hW.cell (p:=⟨Bn,0,none⟩) hBn).trans hcn
  rcases Nat.eq_zero_or_pos N with hz | hp
  · subst hz
    refine (chunk1_nil n l Bs Bn a cap W hc).mono ?_
    rintro e W' ⟨he,rfl⟩
    exact ⟨he,.inl ⟨[],⟨rfl,Nat.zero_le _⟩,h0⟩⟩
  · rw [ha hp] at hc
    exact chunk1_in n hn l Bs Bn n₀ b off N cap hN hcap J Jx (fun pre W h=>hJ pre W _ none h ⟨rfl,rfl,rfl,Nat.le_refl _,fun _ _ _=>rfl⟩ (fun _ e=>by cases e)) hY W (Nat.le_trans hn₀ hW.size) hc hd h0
set_option maxHeartbeats 1000000 in
theorem chunk_in (n : Nat) (a : Option Addr) (len cap : Nat) (w : World) :
    CallsIn Fence.wide n Tryz.prog 131 #[.slice a len cap,.int .i64 12] w fun e w'=>e = .returned (.func (.func 187) #[] #[.pointer (some ⟨w.heap.size,0,none⟩),.pointer (some ⟨w.heap.size + 1,0,none⟩)]) ∧ w' = (w.alloc (.cells #[.slice a len cap] 25)).alloc (.cells #[.int .i64 12] 3):=by
  refine callsIn_of_wp Tryz.func131 rfl trivial ?_ rfl
  simp only [Tryz.ntmps131,List.size_toArray,List.length_cons,List.length_nil,Nat.reduceAdd,Nat.reduceSub,Array.replicate_succ,Array.replicate_zero,List.push_toArray,List.append_toArray,List.nil_append,List.cons_append]
  gi_wp2
  go_ret
  exact ⟨rfl,rfl⟩
end

section
open Go.RowKit Go.Shelf
set_option maxRecDepth 100000
theorem cells_kept {W W' : World} {row : Option Nat} (hg : W.grownBy W' row) (hr : ∀ r,row = some r → ∃ o : Obj,W.heap[r]? = some o ∧ o.isCells = false) {k : Nat} {o : Obj} (hk : W.heap[k]? = some o) (ho : o.isCells = true) : W'.heap[k]? = some o :=
  (hg.block k (heap_lt hk) (fun e=>by
    obtain ⟨o',h1,h2⟩:=hr k e.symm
    rw [hk] at h1;cases h1;rw [ho] at h2;cases h2)).trans hk
theorem Objs.ownF {W W' : World} {z : Nat} {v : Value} {rs : List Pl} {row : Option Nat} (h : Objs W z v rs) (hg : W.grownBy W' row) (hr : ∀ r,row = some r → ∃ o : Obj,W.heap[r]? = some o ∧ o.isCells = false) : Objs W' z v rs:=by
  refine ⟨⟨h.own.1,?_⟩,fun r hr'=>?_⟩
  · rcases h.own.2 with q | ⟨g, cap, cur, q1, q2, q3, q4⟩
    · exact .inl q
    · exact .inr ⟨g,cap,cur,q1,q2,cells_kept hg hr q3 rfl,q4⟩
  · obtain ⟨h1, h2⟩ := h.each r hr'
    refine ⟨h1,fun h0=>?_⟩
    obtain ⟨b,off,e,hzb,hlt,hne,hc⟩:=h2 h0
    have hcell : W'.heap[b]? = W.heap[b]?:=by
      have h3:=hc 0 h0
      obtain ⟨o,ho⟩ : ∃ o,W.heap[b]? = some o:=⟨_,Array.getElem?_eq_getElem hlt⟩
      cases o with
      | cells cs t fz=>rw [ho];exact cells_kept hg hr ho rfl
      | _=>simp [World.cell?,ho] at h3
    exact ⟨b,off,e,hzb,Nat.lt_of_lt_of_le hlt hg.size,hne,fun i hi=>(World.cell?_of_block (a:=⟨b,off + i,none⟩) hcell).trans (hc i hi)⟩
theorem Objs.len {W : World} {z : Nat} {v : Value} {rs : List Pl} (h : Objs W z v rs) : rs.length ≤ 9223372036854775807:=by
  rcases h.own.2 with ⟨_,e⟩ | ⟨g,cap,cur,q1,q2,q3,q4,q5,q6⟩
  · omega
  · unfold maxLen at q5;omega
theorem HoldsS.part {w : World} {b off : Nat} {l : List Ob} (h : HoldsS w (some ⟨b,off,none⟩) l) (k n : Nat) : HoldsS w (some ⟨b,off + k * 4,none⟩) ((l.drop k).take n):=by
  intro i hi
  have hi' : k + i < l.length:=by rw [List.length_take,List.length_drop] at hi;omega
  obtain ⟨b',off',e,hb,hc⟩:=h (k + i) hi'
  cases e
  refine ⟨b,off + k * 4,rfl,hb,fun j hj=>?_⟩
  have hj' : k + j < l.length:=by rw [List.length_take,List.length_drop] at hj;omega
  rw [List.getElem_take,List.getElem_drop]
  have:=hc (k + j) hj'
  rwa [show off + (k + j) * 4 = off + k * 4 + j * 4 by omega] at this
structure Tg (w : World) (z4 z5 z7 z8 zc zd : Nat) (P : World → Prop) (Sz : Nat) (C : List Ob → Prop) (W : World) : Prop where
  b4 : W.heap[z4]? = some (.cells #[.slice none 0 0] 25)
  b5 : W.heap[z5]? = some (.cells #[.int .i64 0] 29)
  b7 : W.heap[z7]? = some (.cells #[.int .i64 0] 29)
  st : ∃ g c L rs zl,Hid (rs.map Pl.x = L) ∧ W.heap[z8]? = some (.cells #[.slice g L.length c] 25) ∧ Objs W zl (.slice g L.length c) rs ∧ C L ∧ z7 < zl
  cm : Dep W zc zd P
  bl : Below w.heap.size w W
  sz : Sz ≤ W.heap.size
theorem Tg.own {w : World} {z4 z5 z7 z8 zc zd : Nat} {P : World → Prop} {Sz : Nat} {C : List Ob → Prop} {W W' : World} {row : Option Nat} (h : Tg w z4 z5 z7 z8 zc zd P Sz C W) (hzd : zd ≤ Sz) (hw : w.heap.size ≤ Sz) (hg : W.grownBy W' row) (hr : ∀ r,row = some r → Sz ≤ r ∧ ∃ o : Obj,W.heap[r]? = some o ∧ o.isCells = false) : Tg w z4 z5 z7 z8 zc zd P Sz C W':=by
  have hr2 : ∀ r,row = some r → ∃ o : Obj,W.heap[r]? = some o ∧ o.isCells = false:=fun r e=>(hr r e).2
  obtain ⟨g,c,L,rs,zl,q0,q1,q2,q3,q4⟩:=h.st
  refine ⟨cells_kept hg hr2 h.b4 rfl,cells_kept hg hr2 h.b5 rfl,cells_kept hg hr2 h.b7 rfl,⟨g,c,L,rs,zl,q0,cells_kept hg hr2 q1 rfl,q2.ownF hg hr2,q3,q4⟩,h.cm.next (Nat.le_trans h.cm.1 hg.size) (fun k _ hk=>?_),?_,Nat.le_trans h.sz hg.size⟩
  · exact hg.block k (Nat.lt_of_lt_of_le hk h.cm.1) (fun e=>by have:=(hr k e.symm).1;omega)
  · refine ⟨hg.os.trans h.bl.os, hg.tape.trans h.bl.tape, hg.output.trans h.bl.output, Nat.le_trans h.bl.size hg.size, fun k hk => (hg.block k (Nat.lt_of_lt_of_le hk h.bl.size) (fun e => ?_)).trans (h.bl.block k hk)⟩
    have:=(hr k e.symm).1;omega
end

section
open Go.RowKit Go.Shelf
attribute [local go_sem] Oper.semAt_some
set_option maxRecDepth 100000
def TogPost (a b : List Ob) (w : World) (e : Ending) (w' : World) : Prop :=
  Below w.heap.size w w' ∧ ((togE a b ≠ 0 ∧ e = .returned (.tuple #[.slice none 0 0,.int .i64 (togE a b)])) ∨
    (togE a b = 0 ∧ ∃ v rs,e = .returned (.tuple #[v,.int .i64 0]) ∧ rs.map Pl.x = takeRes b (missL a b) ∧ Objs w' w.heap.size v rs))
theorem TogPost.bad {a b : List Ob} {w w' : World} {r : Int} (h : togE a b = r) (h0 : r ≠ 0) (hb : Below w.heap.size w w') : TogPost a b w (.returned (.tuple #[.slice none 0 0,.int .i64 r])) w' :=
  ⟨hb,.inl ⟨by rw [h];exact h0,by rw [h]⟩⟩
theorem out2 {W : World} {z z4 z5 : Nat} {x y : Value} (x' y' : Value) (hne : z4 ≠ z5) (h4 : z ≤ z4) (h5 : z ≤ z5) (k4 : W.heap[z4]? = some (.cells #[x] 25)) (k5 : W.heap[z5]? = some (.cells #[y] 29)) :
    ((W.setCell ⟨z4, 0, none⟩ x').setCell ⟨z5, 0, none⟩ y').heap[z4]? = some (.cells #[x'] 25) ∧ ((W.setCell ⟨z4, 0, none⟩ x').setCell ⟨z5, 0, none⟩ y').heap[z5]? = some (.cells #[y'] 29) ∧
      (∀ k,k ≠ z4 → k ≠ z5 → ((W.setCell ⟨z4,0,none⟩ x').setCell ⟨z5,0,none⟩ y').heap[k]? = W.heap[k]?) ∧ Below z W ((W.setCell ⟨z4,0,none⟩ x').setCell ⟨z5,0,none⟩ y') ∧ ((W.setCell ⟨z4,0,none⟩ x').setCell ⟨z5,0,none⟩ y').heap.size = W.heap.size:=by
  have e4:=heap_setCell_same W z4 0 _ 25 x' k4
  have e5:=heap_setCell_same (W.setCell ⟨z4,0,none⟩ x') z5 0 _ 29 y' ((heap_setCell_other W ⟨z4,0,none⟩ z5 x' (fun e=>hne e.symm)).trans k5)
  refine ⟨(heap_setCell_other _ ⟨z5,0,none⟩ z4 y' hne).trans e4,e5,fun k q1 q2=>?_,((Below.refl z W).setCell (p:=⟨z4,0,none⟩) h4 _).setCell (p:=⟨z5,0,none⟩) h5 _,by simp⟩
  rw [heap_setCell_other _ ⟨z5,0,none⟩ k y' q2,heap_setCell_other _ ⟨z4,0,none⟩ k x' q1]
theorem tog_results (tmps : Array Value) (w : World) {z4 z5 : Nat} {x y : Value} (h4 : tmps[4]?.getD undef = .pointer (some ⟨z4,0,none⟩)) (h5 : tmps[5]?.getD undef = .pointer (some ⟨z5,0,none⟩)) (k4 : w.heap[z4]? = some (.cells #[x] 25)) (k5 : w.heap[z5]? = some (.cells #[y] 29)) :
    (results Tryz.f74 tmps).run Tryz.prog w = .ok (.tuple #[x,y]) w:=by
  have y4:=c1_of k4
  have y5:=c1_of k5
  simp [results,Tryz.results74,h4,h5,asAddr,go_sem,y4,y5]
set_option maxHeartbeats 4000000 in
theorem together_any (a1 : Option Addr) (c1 : Nat) (a : List Ob) (a2 : Option Addr) (c2 : Nat) (b : List Ob) (w : World) (h1 : HoldsS w a1 a) (hl1 : a.length ≤ 9223372036854775807) (h2 : HoldsS w a2 b) (hl2 : b.length ≤ 9223372036854775807) :
    Calls Tryz.prog 74 #[.slice a1 a.length c1,.slice a2 b.length c2] w (TogPost a b w):=by
  obtain ⟨PO,HPO⟩ : ∃ P : Ending → World → Prop,Hid (P = TogPost a b w):=⟨_,rfl⟩
  rw [← HPO.out]
  have hA:=below_alloc2 w (.cells #[.slice none 0 0] 25) (.cells #[.int .i64 0] 29)
  obtain ⟨k4,k5⟩:=two_blocks w (.cells #[.slice none 0 0] 25) (.cells #[.int .i64 0] 29)
  have hc:=diffObjects_any a1 c1 a a2 c2 b _ (h1.below hA) hl1 (h2.below hA) hl2
  refine (callsIn_wide (n:=6)).1 ?_
  refine callsIn_of_wp_marks Tryz.func74 rfl trivial ?_ rfl
  simp only [Tryz.ntmps74,List.size_toArray,List.length_cons,List.length_nil,Nat.reduceAdd,Nat.reduceSub,Array.replicate_succ,Array.replicate_zero,List.push_toArray,List.append_toArray,List.nil_append,List.cons_append]
  gi_wp2
  refine ⟨trivial,(callsIn_wide.2 hc).mono ?_⟩
  clear hc
  rintro e w1 ⟨hb1,⟨hne,rfl⟩ | ⟨hz,v,rs,rfl,hrs,O1⟩⟩
  · have hB1 := hA.trans (hb1.mono hA.size)
    have j4:=(hb1.block _ (heap_lt k4)).trans k4
    have j5:=(hb1.block _ (heap_lt k5)).trans k5
    have HF : Hid (∀ w',Below w.heap.size w w' → PO (.returned (.tuple #[.slice none 0 0,.int .i64 (diffE a b)])) w'):=fun w' hb=>by
      rw [HPO.out];exact TogPost.bad (by unfold togE;rw [if_pos hne]) hne hb
    have q1 : (diffE a b != 0) = true:=by simpa using hne
    clear hb1 hA k4 k5 hne
    generalize diffE a b = E at *
    have hA:=below_alloc w1 (.cells #[.int .i64 E] 29)
    have m7:=heap_alloc_new w1 (.cells #[.int .i64 E] 29)
    have m4:=(hA.block _ (heap_lt j4)).trans j4
    have m5:=(hA.block _ (heap_lt j5)).trans j5
    have hB2:=hB1.trans (hA.mono hB1.size)
    have hs7:=heap_lt j5
    clear hA j4 j5 hB1
    gi_wp2
    generalize w1.alloc (.cells #[.int .i64 E] 29) = W2 at *
    obtain ⟨z4,h4⟩ : ∃ z,z = w.heap.size:=⟨_,rfl⟩
    obtain ⟨z5,h5⟩ : ∃ z,z = w.heap.size + 1:=⟨_,rfl⟩
    obtain ⟨z7,h7⟩ : ∃ z,z = w1.heap.size:=⟨_,rfl⟩
    have n45 : z4 ≠ z5:=by omega
    have n47 : z4 ≠ z7:=by omega
    have n57 : z5 ≠ z7:=by omega
    rw [← h5] at m5
    rw [← h4] at m4
    rw [← h7] at m7
    rw [← h5,← h4,← h7]
    have y4:=c1_of m4
    have y5:=c1_of m5
    have y7:=c1_of m7
    have f4 : W2.frozen? ⟨z4,0,none⟩ = false:=by simp [World.frozen?,m4]
    have f5 : W2.frozen? ⟨z5,0,none⟩ = false:=by simp [World.frozen?,m5]
    have d4 : W2.drew.cell? ⟨z4,0,none⟩ = some (.slice none 0 0):=y4
    have d5 : W2.drew.cell? ⟨z5,0,none⟩ = some (.int .i64 0):=y5
    have d7 : W2.drew.cell? ⟨z7,0,none⟩ = some (.int .i64 E):=y7
    have g4 : W2.drew.frozen? ⟨z4,0,none⟩ = false:=f4
    have g5 : W2.drew.frozen? ⟨z5,0,none⟩ = false:=f5
    have n54 : z5 ≠ z4:=fun e=>n45 e.symm
    have n74 : z7 ≠ z4:=fun e=>n47 e.symm
    have n75 : z7 ≠ z5:=fun e=>n57 e.symm
    obtain ⟨o4,o5,_,ob,_⟩:=out2 (W:=W2) (z:=w.heap.size) (.slice none 0 0) (.int .i64 E) n45 (by omega) (by omega) m4 m5
    have HB : Hid (Below w.heap.size w ((W2.setCell ⟨z4,0,none⟩ (.slice none 0 0)).setCell ⟨z5,0,none⟩ (.int .i64 E)).drew):=(hB2.trans (ob.mono (Nat.le_refl _))).drew
    clear ob h4 h5 h7
    gi_region
    gi_wp2
    refine ⟨_,tog_results _ _ rfl rfl o4 o5,?_⟩
    exact HF.out _ HB.out
  · have hB1 := hA.trans (hb1.mono hA.size)
    have j4:=(hb1.block _ (heap_lt k4)).trans k4
    have j5:=(hb1.block _ (heap_lt k5)).trans k5
    obtain ⟨b0,d0,rfl⟩:=objs_slice hrs O1
    have D1:=O1.dep hrs
    have hdcap : (missL a b).length ≤ d0:=by
      obtain ⟨a',c',q,_,q2⟩:=O1.reads
      rw [hrs] at q
      cases q
      have:=congrArg List.length hrs
      rw [List.length_map] at this
      omega
    have HZ : Hid (diffE a b = 0):=hz
    have hsA : ((w.alloc (.cells #[.slice none 0 0] 25)).alloc (.cells #[.int .i64 0] 29)).heap.size = w.heap.size + 2:=by simp
    have hs1:=hb1.size
    rw [hsA] at D1 hs1
    obtain ⟨ha0,hb0,_⟩:=diffE_zero.1 hz
    have hal:=(checkS_zero ha0).1
    have hbl:=(checkS_zero hb0).1
    have hml:=missL_length a b
    clear hb1 hA k4 k5 O1 hrs hsA hz
    obtain ⟨M,hM⟩ : ∃ M,M = missL a b:=⟨_,rfl⟩
    have HM : Hid (M = missL a b):=hM
    rw [← hM] at D1 hdcap hml ⊢
    clear hM
    have hA:=below_alloc w1 (.cells #[.int .i64 0] 29)
    have m7:=heap_alloc_new w1 (.cells #[.int .i64 0] 29)
    have m4:=(hA.block _ (heap_lt j4)).trans j4
    have m5:=(hA.block _ (heap_lt j5)).trans j5
    have D2:=D1.below hA
    have hB2:=hB1.trans (hA.mono hB1.size)
    have hs2 : (w1.alloc (.cells #[.int .i64 0] 29)).heap.size = w1.heap.size + 1:=by simp
    have hw1 : IntKind.i64.wrap ((b.length : Int) + (M.length : Int)) = (b.length : Int) + (M.length : Int):=by rw [IntKind.wrap_i64];omega
    by_cases hL : 40 < b.length + M.length
    · have hq : (40 : Int) < (b.length : Int) + (M.length : Int) := by omega
      have HF : Hid (∀ w',Below w.heap.size w w' → PO (.returned (.tuple #[.slice none 0 0,.int .i64 2])) w'):=fun w' hb=>by
        rw [HPO.out]
        refine TogPost.bad ?_ (by decide) hb
        unfold togE
        rw [if_neg (fun e=>e HZ.out),if_pos (by rw [← HM.out];exact hL)]
      have n45 : w.heap.size ≠ w.heap.size + 1:=by omega
      obtain ⟨o4,o5,_,ob,_⟩:=out2 (z:=w.heap.size) (.slice none 0 0) (.int .i64 2) n45 (Nat.le_refl _) (by omega) m4 m5
      have HB : Hid (Below w.heap.size w _):=hB2.trans (ob.mono (Nat.le_refl _))
      have y4:=c1_of m4
      have y5:=c1_of m5
      have y7:=c1_of m7
      have f4:=f_of (o:=0) m4
      have f5:=f_of (o:=0) m5
      clear ob hs2 D2 D1 hA j4 j5 m4 m5 m7 hL
      gi_wp2
      refine ⟨_,tog_results _ _ rfl rfl o4 o5,?_⟩
      exact HF.out _ HB.out
    · have hq : ¬ (40 : Int) < (b.length : Int) + (M.length : Int) := by omega
      have HL : Hid (b.length + M.length ≤ 40):=Nat.le_of_not_lt hL
      have HB0 : Hid (checkS a = 0 ∧ checkS b = 0):=⟨ha0,hb0⟩
      have y7:=c1_of m7
      have hc:=objects_any a2 c2 b _ (h2.below hB2) (by omega) (fun x hx=>err_links (checkS_err hb0 x hx))
      have hs4:=heap_lt m4
      clear D1 hA j4 j5 hB1 ha0 hb0 hL
      gi_wp2
      generalize w1.alloc (.cells #[.int .i64 0] 29) = W2 at *
      refine ⟨trivial,(callsIn_wide.2 hc).mono ?_⟩
      clear hc y7
      rintro e w3 ⟨v8,rs8,rfl,hrs8,O8,hb3⟩
      obtain ⟨g8,c8,rfl⟩:=objs_slice hrs8 O8
      have i4:=(hb3.block _ (heap_lt m4)).trans m4
      have i5:=(hb3.block _ (heap_lt m5)).trans m5
      have i7:=(hb3.block _ (heap_lt m7)).trans m7
      have D3:=D2.below hb3
      have hB3:=hB2.trans (hb3.mono hB2.size)
      have hs3:=hb3.size
      clear hb3 m4 m5 m7 D2 hB2
      have hA:=below_alloc w3 (.cells #[.slice g8 b.length c8] 25)
      have k8:=heap_alloc_new w3 (.cells #[.slice g8 b.length c8] 25)
      have k4:=(hA.block _ (heap_lt i4)).trans i4
      have k5:=(hA.block _ (heap_lt i5)).trans i5
      have k7:=(hA.block _ (heap_lt i7)).trans i7
      have O9:=O8.below hA
      have D4:=D3.below hA
      have hB4:=hB3.trans (hA.mono hB3.size)
      have hs5 : (w3.alloc (.cells #[.slice g8 b.length c8] 25)).heap.size = w3.heap.size + 1:=by simp
      clear hA i4 i5 i7 D3 hB3 O8
      gi_wp2
      generalize w3.alloc (.cells #[.slice g8 b.length c8] 25) = W4 at *
      refine ⟨trivial,(chunk_in 5 _ _ _ _).mono ?_⟩
      rintro e W6 ⟨rfl,rfl⟩
      have hA:=below_alloc2 W4 (.cells #[.slice b0 M.length d0] 25) (.cells #[.int .i64 12] 3)
      obtain ⟨kBs,kBn⟩:=two_blocks W4 (.cells #[.slice b0 M.length d0] 25) (.cells #[.int .i64 12] 3)
      have l4:=(hA.block _ (heap_lt k4)).trans k4
      have l5:=(hA.block _ (heap_lt k5)).trans k5
      have l7:=(hA.block _ (heap_lt k7)).trans k7
      have l8:=(hA.block _ (heap_lt k8)).trans k8
      have O10:=O9.below hA
      have D5:=D4.below hA
      have hB5:=hB4.trans (hA.mono hB4.size)
      have hs6 : ((W4.alloc (.cells #[.slice b0 M.length d0] 25)).alloc (.cells #[.int .i64 12] 3)).heap.size = w3.heap.size + 3:=by simp [hs5]
      clear hA k4 k5 k7 k8 O9 D4 hB4
      generalize (W4.alloc (.cells #[.slice b0 M.length d0] 25)).alloc (.cells #[.int .i64 12] 3) = W6 at *
      rw [hs5] at kBs kBn ⊢
      obtain ⟨bM,offM,hbM⟩ : ∃ bM offM,0 < M.length → b0 = some ⟨bM,offM,none⟩:=by
        by_cases h0 : 0 < M.length
        · obtain ⟨b', off', e, _⟩ := (D5.here).1 0 h0
          exact ⟨b',off',fun _=>e⟩
        · exact ⟨0,0,fun e=>absurd e h0⟩
      have HbM : Hid (0 < M.length → b0 = some ⟨bM,offM,none⟩):=hbM
      have yBs:=c1_of kBs
      have yBn:=c1_of kBn
      have hSz : Hid (w.heap.size + 2 ≤ w1.heap.size ∧ W2.heap.size = w1.heap.size + 1 ∧ w1.heap.size + 1 ≤ w3.heap.size ∧ W6.heap.size = w3.heap.size + 3):=⟨hs1,hs2,by omega,hs6⟩
      have hT0 : Tg w w.heap.size (w.heap.size + 1) w1.heap.size w3.heap.size (w.heap.size + 2) w1.heap.size (fun W=>HoldsS W b0 M ∧ Room W b0 M) (w3.heap.size + 3) (fun L=>Iota ([] : List (Chk M.length)) → L = takeRes b (M.take (([] : List (Chk M.length)).length * 12))) W6:=by
        exact ⟨l4,l5,l7,⟨g8,c8,b,rs8,W2.heap.size,hrs8,l8,O10,fun _=>rfl,by omega⟩,D5,hB5,by omega⟩
      have hml40 : M.length ≤ 1000:=by omega
      clear hbM l4 l5 l7 l8 O10 D5 hB5 kBs kBn hrs8 hs1 hs2 hs3 hs4 hs5 hs6 hq hw1
      gi_wp2
      refine wpIn_rangeFunc_ownH (F:=Fence.wide) rfl (by omega) (gf:=187) (lb:=#[.pointer (some ⟨w3.heap.size + 1,0,none⟩),.pointer (some ⟨w3.heap.size + 1 + 1,0,none⟩)]) rfl trivial (enters_of Tryz.func187 (by kernel_rfl) rfl)
        (chunk_stops 5 (by omega) (w3.heap.size + 1) (w3.heap.size + 1 + 1) w.heap.size bM offM M.length d0 b0 HbM.out hdcap hml40 W6 (by have:=hSz.out;omega) (by have:=hSz.out;omega) (by have:=hSz.out;omega) yBs yBn) KeptC.trans (KeptC.book (by have:=hSz.out;omega) (by have:=hSz.out;omega) (by have:=hSz.out;omega)) (Below.refl _ _) (fun _=>rfl)
        (fun pre W=>Tg w w.heap.size (w.heap.size + 1) w1.heap.size w3.heap.size (w.heap.size + 2) w1.heap.size (fun W=>HoldsS W b0 M ∧ Room W b0 M) (w3.heap.size + 3) (fun L=>Iota pre → L = takeRes b (M.take (pre.length * 12))) W)
        (fun _ pre _=>¬ Iota pre)
        (fun pre W W' row hs hg hr=>hs.own (by have:=hSz.out;omega) (by have:=hSz.out;omega) hg (fun r e=>⟨by have:=(hr r e).1;have:=hSz.out;omega,(hr r e).2⟩))
        (fun _ _ _ _ _ hs _ _=>hs)
        hT0
        (fun x a' W=>a' = { tmps:=#[.slice a1 a.length c1,.slice a2 b.length c2,undef,undef,.pointer (some ⟨w.heap.size,0,none⟩),.pointer (some ⟨w.heap.size + 1,0,none⟩),.slice b0 M.length d0,.pointer (some ⟨w1.heap.size,0,none⟩),.pointer (some ⟨w3.heap.size,0,none⟩),
          .slice (some ⟨bM,offM + x.1 * 12 * 4,none⟩) (min 12 (M.length - x.1 * 12)) (min 12 (M.length - x.1 * 12)),.tuple #[.slice b0 M.length d0,.int .i64 0],.slice a1 a.length c1,.slice a2 b.length c2,.tuple #[.slice b0 M.length d0,.int .i64 0],.slice b0 M.length d0,.int .i64 0,.int .i64 0,.bool false,undef,
          .slice a2 b.length c2,.int .i64 (b.length : Int),.slice b0 M.length d0,.int .i64 (M.length : Int),.int .i64 ((b.length : Int) + (M.length : Int)),.bool (decide ((40 : Int) < (b.length : Int) + (M.length : Int))),.slice a2 b.length c2,.slice g8 b.length c8,.slice b0 M.length d0,
          .func (.func 187) #[] #[.pointer (some ⟨w3.heap.size + 1,0,none⟩),.pointer (some ⟨w3.heap.size + 1 + 1,0,none⟩)],.slice (some ⟨bM,offM + x.1 * 12 * 4,none⟩) (min 12 (M.length - x.1 * 12)) (min 12 (M.length - x.1 * 12)),undef,undef,undef,undef,undef,undef,undef,undef,undef,undef],defers:=[] })
        (fun _ _ _ _ _ _ hs _ _=>hs) ?assign ?body ?done ?stop
      case assign =>
        rintro lp pre x W K hi hK
        simp only [Chk.vals]
        gi_wp2
        exact hK _ _ (KeepsFrom.refl _ _) ⟨Below.refl _ _,rfl,rfl⟩ hi rfl
      case body =>
        rintro lp pre x a' W hlp ⟨rr,hrr⟩ hI rfl hlt2
        obtain ⟨g,c,L,rs,zl,q0,q1,q2,q3,q4⟩:=hI.st
        have hx:=x.2
        have hb0:=HbM.out (by omega)
        have hHM:=(hI.cm.here).1
        rw [hb0] at hHM
        have hHC:=hHM.part (x.1 * 12) 12
        have hcl : ((M.drop (x.1 * 12)).take 12).length = min 12 (M.length - x.1 * 12):=by rw [List.length_take,List.length_drop]
        have hL9 : L.length ≤ 9223372036854775807:=by rw [← q0.out,List.length_map];exact q2.len
        have hHL : HoldsS W g L:=Objs.list q0.out q2
        have hadd:=add_fresh g c L _ (min 12 (M.length - x.1 * 12)) ((M.drop (x.1 * 12)).take 12) W hHL hL9 hHC (by rw [hcl];omega)
        rw [hcl] at hadd
        have y8:=c1_of q1
        have HC : Hid (Iota (pre ++ [x]) → addE L ((M.drop (x.1 * 12)).take 12) = 0 ∧ takeRes L ((M.drop (x.1 * 12)).take 12) = takeRes b (M.take ((pre ++ [x]).length * 12))):=by
          intro hi
          obtain ⟨h1,h2⟩:=Iota.last hi
          obtain ⟨e1,e2⟩:=union_step HB0.out.1 HB0.out.2 ((diffE_zero.1 HZ.out).2.2) (by rw [← HM.out];exact HL.out) (pre.length * 12) 12 (Nat.le_refl _)
          rw [← HM.out] at e1 e2
          rw [q3 h1,h2]
          refine ⟨e1,?_⟩
          rw [e2,List.length_append,List.length_singleton]
          congr 2;omega
        generalize ((M.drop (x.1 * 12)).take 12) = C at *
        generalize (min 12 (M.length - x.1 * 12)) = nC at *
        clear hHC hHL hcl hHM hL9 q3 hx hb0 hT0
        gi_wp2
        refine ⟨trivial,(CallsIn.inRound lp (callsIn_wide.2 hadd)).mono ?_⟩
        clear hadd
        have hSz':=hSz.out
        have n87 : w3.heap.size ≠ w1.heap.size:=by omega
        have n78 : w1.heap.size ≠ w3.heap.size:=by omega
        rintro e W1 ⟨hb1,⟨hne,rfl⟩ | ⟨hz,a',c',rfl,hH',hcap',hroom',rs',hrs',O'⟩⟩
        · have p4 := (hb1.block _ (heap_lt hI.b4)).trans hI.b4
          have p5:=(hb1.block _ (heap_lt hI.b5)).trans hI.b5
          have p7:=(hb1.block _ (heap_lt hI.b7)).trans hI.b7
          have p8:=(hb1.block _ (heap_lt q1)).trans q1
          have K1 : KeepsOthers W W1:=⟨hb1.size,fun k o hk _=>(hb1.block k (heap_lt hk)).trans hk⟩
          have HNI : Hid (¬ Iota (pre ++ [x])):=fun hi=>hne (HC.out hi).1
          clear HC
          generalize addE L C = E at *
          have x8:=c1_of p8
          have x7:=c1_of p7
          have f8:=f_of (o:=0) p8
          have f7:=f_of (o:=0) p7
          obtain ⟨o8,o7,oth,ob,osz⟩:=out2 (z:=0) (.slice none 0 0) (.int .i64 E) n87 (Nat.zero_le _) (Nat.zero_le _) p8 p7
          have o4:=(oth w.heap.size (by omega) (by omega)).trans p4
          have o5:=(oth (w.heap.size + 1) (by omega) (by omega)).trans p5
          have K2 : KeepsOthers W ((W1.setCell ⟨w3.heap.size,0,none⟩ (.slice none 0 0)).setCell ⟨w1.heap.size,0,none⟩ (.int .i64 E)):=K1.trans ((KeepsOthers.setCell _ _ _).trans (KeepsOthers.setCell _ _ _))
          have hE : (E != 0) = true:=by simpa using hne
          have n45 : w.heap.size ≠ w.heap.size + 1:=by omega
          have n54 : w.heap.size + 1 ≠ w.heap.size:=by omega
          have n47 : w.heap.size ≠ w1.heap.size:=by omega
          have n74 : w1.heap.size ≠ w.heap.size:=by omega
          have n57 : w.heap.size + 1 ≠ w1.heap.size:=by omega
          have n75 : w1.heap.size ≠ w.heap.size + 1:=by omega
          clear p4 p5 p7 p8 hb1 q1 q2 hI K1 ob osz oth y8 hne hSz'
          gi_wp2
          generalize ((W1.setCell ⟨w3.heap.size,0,none⟩ (.slice none 0 0)).setCell ⟨w1.heap.size,0,none⟩ (.int .i64 E)) = W3 at *
          clear x8 x7 f8 f7
          have y4:=c1_of o4
          have y5:=c1_of o5
          have y7:=c1_of o7
          have f4:=f_of (o:=0) o4
          have f5:=f_of (o:=0) o5
          have d4 : W3.drew.cell? ⟨w.heap.size,0,none⟩ = some (.slice none 0 0):=y4
          have d5 : W3.drew.cell? ⟨w.heap.size + 1,0,none⟩ = some (.int .i64 0):=y5
          have d7 : W3.drew.cell? ⟨w1.heap.size,0,none⟩ = some (.int .i64 E):=y7
          have g4 : W3.drew.frozen? ⟨w.heap.size,0,none⟩ = false:=f4
          have g5 : W3.drew.frozen? ⟨w.heap.size + 1,0,none⟩ = false:=f5
          have K3 : KeepsOthers W ((W3.setCell ⟨w.heap.size,0,none⟩ (.slice none 0 0)).setCell ⟨w.heap.size + 1,0,none⟩ (.int .i64 E)):=K2.trans ((KeepsOthers.setCell _ _ _).trans (KeepsOthers.setCell _ _ _))
          gi_region
          gi_wp2
          all_goals exact ⟨⟨K3.size,fun k o _ hk ho=>K3.same k o hk ho⟩,HNI.out⟩
        · have p4 := (hb1.block _ (heap_lt hI.b4)).trans hI.b4
          have p5:=(hb1.block _ (heap_lt hI.b5)).trans hI.b5
          have p7:=(hb1.block _ (heap_lt hI.b7)).trans hI.b7
          have p8:=(hb1.block _ (heap_lt q1)).trans q1
          have K1 : KeepsOthers W W1:=⟨hb1.size,fun k o hk _=>(hb1.block k (heap_lt hk)).trans hk⟩
          have hBl:=hI.bl.trans (hb1.mono hI.bl.size)
          have hDp:=hI.cm.below hb1
          have hszW:=hI.sz
          have HC2 : Hid (Iota (pre ++ [x]) → takeRes L C = takeRes b (M.take ((pre ++ [x]).length * 12))):=fun hi=>(HC.out hi).2
          clear HC hz hroom'
          generalize takeRes L C = L' at *
          have hs1:=hb1.size
          have x8:=c1_of p8
          have x7:=c1_of p7
          have f8:=f_of (o:=0) p8
          have f7:=f_of (o:=0) p7
          obtain ⟨o8,o7,oth,ob,osz⟩:=out2 (z:=w1.heap.size) (.slice a' L'.length c') (.int .i64 0) n87 (by omega) (Nat.le_refl _) p8 p7
          have o4:=(oth w.heap.size (by omega) (by omega)).trans p4
          have o5:=(oth (w.heap.size + 1) (by omega) (by omega)).trans p5
          have K2 : KeepsOthers W ((W1.setCell ⟨w3.heap.size,0,none⟩ (.slice a' L'.length c')).setCell ⟨w1.heap.size,0,none⟩ (.int .i64 0)):=K1.trans ((KeepsOthers.setCell _ _ _).trans (KeepsOthers.setCell _ _ _))
          have O2:=O'.keep (w':=(W1.setCell ⟨w3.heap.size,0,none⟩ (.slice a' L'.length c')).setCell ⟨w1.heap.size,0,none⟩ (.int .i64 0)) (by rw [osz];exact Nat.le_refl _) (fun k hk=>oth k (by omega) (by omega))
          have hDq : Dep ((W1.setCell ⟨w3.heap.size,0,none⟩ (.slice a' L'.length c')).setCell ⟨w1.heap.size,0,none⟩ (.int .i64 0)) (w.heap.size + 2) w1.heap.size (fun W=>HoldsS W b0 M ∧ Room W b0 M):=hDp.next (by rw [osz];exact hDp.1) (fun k a b=>oth k (by omega) (by omega))
          have hKC : KeptC w.heap.size (w3.heap.size + 1) (w3.heap.size + 1 + 1) W ((W1.setCell ⟨w3.heap.size,0,none⟩ (.slice a' L'.length c')).setCell ⟨w1.heap.size,0,none⟩ (.int .i64 0)) :=
            ⟨(hb1.mono (by omega)).trans (ob.mono (by omega)),(oth _ (by omega) (by omega)).trans (hb1.block _ (by omega)),(oth _ (by omega) (by omega)).trans (hb1.block _ (by omega))⟩
          have hT : Hid (Tg w w.heap.size (w.heap.size + 1) w1.heap.size w3.heap.size (w.heap.size + 2) w1.heap.size (fun W=>HoldsS W b0 M ∧ Room W b0 M) (w3.heap.size + 3) (fun L=>Iota (pre ++ [x]) → L = takeRes b (M.take ((pre ++ [x]).length * 12))) ((W1.setCell ⟨w3.heap.size,0,none⟩ (.slice a' L'.length c')).setCell ⟨w1.heap.size,0,none⟩ (.int .i64 0))):=by
            refine ⟨o4,o5,o7,⟨a',c',L',rs',W.heap.size,hrs',o8,O2,HC2.out,by omega⟩,hDq,hBl.trans (ob.mono (by omega)),by rw [osz];omega⟩
          have HK : Hid (_ ∧ _):=⟨K2,hKC⟩
          clear p4 p5 p7 p8 hb1 q1 q2 hI K1 ob osz oth y8 hSz' O2 hDq hKC K2 o4 o5 o7 o8 hBl hDp O' hH' hcap' hrs' HC2 hs1 hszW
          gi_wp2
          exact ⟨HK.out.1.from _,HK.out.2,hT.out⟩
      case done =>
        rintro D ys W hD hS hI hK
        obtain ⟨g,c,L,rs,zl,q0,q1,q2,q3,q4⟩:=hI.st
        have hSz':=hSz.out
        have hL : rs.map Pl.x = takeRes b (missL a b):=by
          rw [q0.out,q3 hS.1,List.take_of_length_le hS.2,HM.out]
        have y8:=c1_of q1
        have y4:=c1_of hI.b4
        have y5:=c1_of hI.b5
        have f4:=f_of (o:=0) hI.b4
        have f5:=f_of (o:=0) hI.b5
        have n45 : w.heap.size ≠ w.heap.size + 1:=by omega
        obtain ⟨o4,o5,oth,ob,osz⟩:=out2 (z:=w.heap.size) (.slice g L.length c) (.int .i64 0) n45 (Nat.le_refl _) (by omega) hI.b4 hI.b5
        have O2:=q2.keep (w':=(W.setCell ⟨w.heap.size,0,none⟩ (.slice g L.length c)).setCell ⟨w.heap.size + 1,0,none⟩ (.int .i64 0)) (by rw [osz];exact Nat.le_refl _) (fun k hk=>oth k (by omega) (by omega))
        have hK2:=(oth D (by omega) (by omega)).trans hK
        have hBl:=hI.bl.trans (ob.mono (Nat.le_refl _))
        have hgp:=grownBy_putObj' ((W.setCell ⟨w.heap.size,0,none⟩ (.slice g L.length c)).setCell ⟨w.heap.size + 1,0,none⟩ (.int .i64 0)) D (.deferred none)
        have r4:=(hgp.block _ (heap_lt o4) (fun e=>by cases e;omega)).trans o4
        have r5:=(hgp.block _ (heap_lt o5) (fun e=>by cases e;omega)).trans o5
        have O3:=O2.ownF hgp (fun r e=>by cases e;exact ⟨_,hK2,rfl⟩)
        have HFin : Hid (PO (.returned (.tuple #[.slice g L.length c,.int .i64 0])) (((W.setCell ⟨w.heap.size,0,none⟩ (.slice g L.length c)).setCell ⟨w.heap.size + 1,0,none⟩ (.int .i64 0)).putObj D (.deferred none))):=by
          unfold Hid
          rw [HPO.out]
          refine ⟨hBl.grown hgp hBl.size (fun k e=>by cases e;omega),.inr ⟨togE_zero.2 ⟨HZ.out,by rw [← HM.out];exact HL.out⟩,_,rs,rfl,hL,O3.from (by omega)⟩⟩
        clear O3 O2 hgp hBl ob oth osz q1 q2 q3 hL hI hS hSz' hT0
        gi_wp2
        refine ⟨by simp,.inl ⟨_,_,rfl,run_takeDeferred hK2,?_⟩⟩
        refine ⟨_,tog_results _ _ rfl rfl r4 r5,?_⟩
        exact HFin.out
      case stop =>
        rintro D c pre W _ hS hI _
        exact absurd hS hI
end
end Go.Proofs.YtehmlpkapjdhkaaGreatDoor
