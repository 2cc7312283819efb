import Derived.Test.YtehmlpkapjdhkaaGreatDoorMD
import Derived.Deep.CutRange
import Derived.Test.YtehmlpkapjdhkaaGreatDoorMF
namespace Go.Proofs.YtehmlpkapjdhkaaGreatDoor
section
open Go.RowKit
theorem holds_take {w : World} {a : Option Addr} {l : List Ob} (h : HoldsS w a l) (n : Nat) : HoldsS w a (l.take n):=by
  intro i hi
  rw [List.length_take] at hi
  obtain ⟨b,off,e,hb,hc⟩:=h i (by omega)
  refine ⟨b,off,e,hb,fun j hj=>?_⟩
  rw [List.length_take] at hj
  rw [List.getElem_take]
  exact hc j (by omega)
end

section
set_option maxRecDepth 100000
open Go.RowKit
theorem app_big (w : World) (base : Nat) (ty : TypeId) (v : Value) (n : Nat) (xs : List Value) (hown : w.ownsRow base 58 4 v n xs) (vb : Nat) (ys : Array Value) (hv : w.heap[vb]? = some (.cells ys 58)) (hys : ys.size = 4)
    (h2 : ∀ v ∈ ys.toList,v.oneCell' = true) (hn : (n + 1) * 56 ≤ 140737488355328) (hbase : base ≤ w.heap.size) :
    ∃ v' w',(Builtin.append_ #[25,25] ty #[v,.slice (some ⟨vb,0,none⟩) 1 1]).run Tryz.prog w = .ok v' w' ∧ w'.ownsRow base 58 4 v' (n + 1) (xs ++ ys.toList) ∧ w.grownBy w' v.ownBlock:=by
  obtain ⟨i0,hi0,hz0,hzs,hzb⟩:=info_parts Tryz.info58
  have hl : ys.toList.length = 1 * 4:=by rw [Array.length_toList,hys]
  have hnews:=World.news_of_block hv
  obtain ⟨v',w',hr,q1,q2,_⟩:=run_append_own (P:=Tryz.prog) w base 25 ty 58 i0 _ 4 56 Tryz.underlying25 hi0 hz0 hzs hzb rfl (by omega) v n xs hown ⟨vb,0,none⟩ 1 1 ys.toList hl hnews h2 (by unfold maxLen;omega) (by omega) hbase
  exact ⟨v',w',hr,q1,q2⟩
end

section
open Go.RowKit
def reachBy (on : Ob → List Int) (l : List Ob) (ids : List Int) : List Int:=l.foldr (fun x S=>stepF on S x) ids
theorem stepF_mem {on : Ob → List Int} {S : List Int} {x : Ob} {i : Int} : i ∈ stepF on S x ↔ i ∈ S ∨ (x.id ∈ S ∧ i ∈ on x):=by
  unfold stepF
  split
  · rename_i h
    rw [List.mem_append]
    constructor
    · rintro (q | q)
      · exact .inr ⟨h,q⟩
      · exact .inl q
    · rintro (q | q)
      · exact .inr q
      · exact .inl q.2
  · rename_i h
    constructor
    · exact .inl
    · rintro (q | q)
      · exact q
      · exact absurd q.1 h
theorem reachBy_cons {on : Ob → List Int} {x : Ob} {l : List Ob} {ids : List Int} {i : Int} : i ∈ reachBy on (x :: l) ids ↔ i ∈ reachBy on l ids ∨ (x.id ∈ reachBy on l ids ∧ i ∈ on x):=stepF_mem
theorem reachBy_sub {on : Ob → List Int} {l : List Ob} {ids : List Int} {i : Int} (h : i ∈ ids) : i ∈ reachBy on l ids:=by
  induction l with
  | nil=>exact h
  | cons x l ih=>exact reachBy_cons.2 (.inl ih)
theorem reachBy_closed {on : Ob → List Int} {l : List Ob} {ids : List Int} (hr : Rises l) (hless : ∀ x ∈ l,∀ y ∈ on x,y < x.id) : ∀ x ∈ l,x.id ∈ reachBy on l ids → ∀ y ∈ on x,y ∈ reachBy on l ids:=by
  induction l with
  | nil=>intro x hx;cases hx
  | cons z l ih =>
    obtain ⟨hz,hr'⟩:=List.pairwise_cons.1 hr
    have ih':=ih hr' (fun x hx=>hless x (by simp [hx]))
    intro x hx hxR y hy
    rcases List.mem_cons.1 hx with rfl | hx
    · rcases reachBy_cons.1 hxR with q | ⟨_,q⟩
      · exact reachBy_cons.2 (.inr ⟨q,hy⟩)
      · have:=hless x (by simp) _ q
        omega
    · rcases reachBy_cons.1 hxR with q | ⟨_,q⟩
      · exact reachBy_cons.2 (.inl (ih' x hx q y hy))
      · have:=hless z (by simp) _ q
        have:=hz x hx
        omega
theorem reachBy_min {on : Ob → List Int} {l : List Ob} {ids : List Int} (T : Int → Prop) (h0 : ∀ i ∈ ids,T i) (hc : ∀ x ∈ l,T x.id → ∀ y ∈ on x,T y) : ∀ i ∈ reachBy on l ids,T i:=by
  induction l with
  | nil=>exact h0
  | cons z l ih =>
    have ih':=ih (fun x hx=>hc x (by simp [hx]))
    intro i hi
    rcases reachBy_cons.1 hi with q | ⟨q,q2⟩
    · exact ih' i q
    · exact hc z (by simp) (ih' _ q) i q2
theorem right_id {l : List Ob} (h : checkS l = 0) : ∀ x ∈ l,1 ≤ x.id ∧ x.id ≤ 99:=fun x hx=>(checkE_zero ((checkS_iff.1 h).2.1 x hx).1).1
theorem right_links {l : List Ob} (h : checkS l = 0) : ∀ x ∈ l,∀ y ∈ x.links,1 ≤ y ∧ y < x.id:=fun x hx=>linksE_mem _ 0 0 (checkE_zero ((checkS_iff.1 h).2.1 x hx).1).2.2.2.2.1
theorem right_four {l : List Ob} (h : checkS l = 0) : ∀ x ∈ l,x.links.length ≤ 4:=fun x hx=>(checkE_zero ((checkS_iff.1 h).2.1 x hx).1).2.2.1
theorem right_tree {l : List Ob} (h : checkS l = 0) : ∀ x ∈ l,x.kind = 3 → 1 ≤ x.links.length:=fun x hx hk=>by
  have:=(checkE_zero ((checkS_iff.1 h).2.1 x hx).1).2.2.2.2.2
  rcases Nat.eq_zero_or_pos x.links.length with c | c
  · exact absurd (.inr ⟨hk,c⟩) this
  · exact c
theorem place_mem {l : List Ob} {i : Int} : 0 ≤ placeI l i ↔ ∃ x ∈ l,x.id = i:=by
  constructor
  · intro h
    rcases placeI_cases l i with c | ⟨k,c,hk⟩
    · omega
    · obtain ⟨hk',e⟩:=placeI_get c
      exact ⟨_,List.getElem_mem hk',e⟩
  · rintro ⟨x,hx,rfl⟩
    rcases placeI_cases l x.id with c | ⟨k,c,hk⟩
    · unfold placeI at c
      split at c
      · omega
      · rename_i q
        rw [List.findIdx?_eq_none_iff] at q
        have:=q x hx
        simp at this
    · omega
theorem right_there {l : List Ob} (h : checkS l = 0) : ∀ x ∈ l,∀ y ∈ x.links,∃ z ∈ l,z.id = y:=fun x hx y hy=>by
  obtain ⟨j,hj,rfl⟩:=List.getElem_of_mem hy
  exact place_mem.1 ((linkS_iff _ 0).1 ((checkS_iff.1 h).2.1 x hx).2 j hj).1
theorem right_parents {l : List Ob} (h : checkS l = 0) : ∀ x ∈ l,x.kind = 3 → ∀ y ∈ l,y.id ∈ x.links.tail → y.kind = 3:=fun x hx hk y hy hyt=>by
  obtain ⟨j,hj,e⟩:=List.getElem_of_mem hyt
  rw [List.length_tail] at hj
  rw [List.getElem_tail] at e
  obtain ⟨_,q⟩:=(linkS_iff _ 0).1 ((checkS_iff.1 h).2.1 x hx).2 (j + 1) (by omega)
  rw [e,hk] at q
  obtain ⟨k,hkl,rfl⟩:=List.getElem_of_mem hy
  rw [kindAt_at (placeI_rise (checkS_iff.1 h).2.2 hkl) hkl] at q
  have hj1 : ¬ ((j : Int) + 1 = 0):=by omega
  simp only [mayB] at q
  simpa [hj1] using q
abbrev reachL (l : List Ob) (ids : List Int) : List Int:=reachBy Ob.links l ids
abbrev reachP (l : List Ob) (ids : List Int) : List Int:=reachBy (fun x=>x.links.tail) l ids
theorem thereE_iff {l : List Ob} {ids : List Int} : thereE l ids = 0 ↔ ∀ i ∈ ids,∃ x ∈ l,x.id = i:=by
  unfold thereE
  split
  · rename_i h
    rw [List.all_eq_true] at h
    refine ⟨fun _ i hi=>place_mem.1 (by simpa using h i hi),fun _=>rfl⟩
  · rename_i h
    refine ⟨fun q=>by omega,fun q=>absurd (List.all_eq_true.2 fun i hi=>?_) h⟩
    simpa using place_mem.2 (q i hi)
def reachE (l : List Ob) (ids : List Int) : Int:=if checkS l ≠ 0 then checkS l else thereE l ids
def partL (l : List Ob) (ids : List Int) : List Ob:=l.filter (fun x=>decide (x.id ∈ reachL l ids))
theorem rows_of {w : World} {a : Option Addr} {l : List Ob} (h : HoldsS w a l) : ∃ rs : List Pl,rs.map Pl.x = l ∧
    (rs.length = 0 ∨ ∃ b off,a = some ⟨b,off,none⟩ ∧ b < w.heap.size ∧ ∀ k (hk : k < rs.length) j,j < 4 → w.cell? ⟨b,off + k * 4 + j,none⟩ = (rs[k].cells)[j]?) ∧ ∀ r ∈ rs,Holds w r.sa r.x.links:=by
  rcases Nat.eq_zero_or_pos l.length with h0 | h0
  · exact ⟨[],by rw [List.eq_nil_of_length_eq_zero h0];rfl,.inl rfl,fun r hr=>by cases hr⟩
  · obtain ⟨b,off,rs,rfl,hb,e1,e2,e3⟩:=holds_row h h0
    refine ⟨rs,e1,.inr ⟨b,off,rfl,hb,fun k hk j hj=>?_⟩,e3⟩
    have hg:=rowC_get rs k j hk hj
    have hj4 : j < rs[k].cells.length:=by simpa [Pl.cells] using hj
    rw [List.getElem?_eq_getElem hj4] at hg ⊢
    have:=e2 _ _ hg
    rw [show ((⟨b,off,none⟩ : Addr).add (k * 4 + j)) = ⟨b,off + k * 4 + j,none⟩ by unfold Addr.add;split <;> simp_all <;> omega] at this
    exact this
def Kept (w0 : World) (base : Nat) (m : List Ob) (v : Value) (wr : World) : Prop :=
  ∃ rs : List Pl,rs.map Pl.x = m ∧ wr.ownsRow base 58 4 v rs.length (rowC rs) ∧ ∀ r ∈ rs,Holds w0 r.sa r.x.links ∧ r.x.links.length ≤ 1000
theorem Kept.below {w0 : World} {base : Nat} {m : List Ob} {v : Value} {wr wr' : World} (h : Kept w0 base m v wr) (hb : Below wr.heap.size wr wr') : Kept w0 base m v wr':=by
  obtain ⟨rs,q1,q2,q3⟩:=h
  exact ⟨rs,q1,ownsRow_same q2 (fun g hg=>hb.block g (q2.lt g hg).2),q3⟩
theorem Kept.mono {w0 : World} {base base' : Nat} {m : List Ob} {v : Value} {wr : World} (h : Kept w0 base m v wr) (hb : base' ≤ base) : Kept w0 base' m v wr:=by
  obtain ⟨rs,q1,⟨q2,q4⟩,q3⟩:=h
  refine ⟨rs,q1,⟨q2,?_⟩,q3⟩
  rcases q4 with q | ⟨g,cap,cur,e1,e2,e3⟩
  · exact .inl q
  · exact .inr ⟨g,cap,cur,e1,Nat.le_trans hb e2,e3⟩
theorem Kept.block {w0 : World} {base : Nat} {m : List Ob} {v : Value} {wr : World} (h : Kept w0 base m v wr) (g : Nat) (hg : v.ownBlock = some g) : base ≤ g:=by
  obtain ⟨rs,_,q2,_⟩:=h
  exact (q2.lt g hg).1
theorem Kept.next {w0 : World} {base : Nat} {m : List Ob} {v : Value} {wr : World} (h : Kept w0 base m v wr) (hm : m.length ≤ 1000) (hbase : base ≤ wr.heap.size) (x : Ob) (sa : Option Addr) (sc : Nat) (hh : Holds w0 sa x.links) (hx : x.links.length ≤ 1000) (ty : TypeId) :
    ∃ v' w',(Builtin.append_ #[25,25] ty #[v,.slice (some ⟨wr.heap.size,0,none⟩) 1 1]).run Tryz.prog (wr.alloc (.cells #[.int .i64 x.id,.int .i64 x.kind,.slice sa x.links.length sc,.string x.text] 58)) = .ok v' w' ∧ Kept w0 base (m ++ [x]) v' w' ∧ wr.grownBy w' v.ownBlock:=by
  obtain ⟨rs,q1,q2,q3⟩:=h
  have hrl : rs.length = m.length:=by rw [← q1,List.length_map]
  have hb:=below_alloc wr (.cells #[.int .i64 x.id,.int .i64 x.kind,.slice sa x.links.length sc,.string x.text] 58)
  have q2':=q2.alloc (.cells #[.int .i64 x.id,.int .i64 x.kind,.slice sa x.links.length sc,.string x.text] 58)
  obtain ⟨v',w',r1,r2,r3⟩:=app_big _ base ty v rs.length (rowC rs) q2' wr.heap.size _ (heap_alloc_new wr _) rfl (by intro u hu;simp only [List.mem_cons,List.not_mem_nil,or_false] at hu;rcases hu with rfl | rfl | rfl | rfl <;> rfl) (by omega) (Nat.le_trans hbase hb.size)
  refine ⟨v',w',r1,⟨rs ++ [(⟨x,sa,sc⟩ : Pl)],by rw [List.map_append,q1];rfl,by rw [List.length_append,rowC_append];exact r2,?_⟩,?_⟩
  · intro r hr
    rcases List.mem_append.1 hr with c | c
    · exact q3 r c
    · obtain rfl:=List.mem_singleton.1 c
      exact ⟨hh,hx⟩
  · exact ⟨r3.os.trans hb.os,r3.tape.trans hb.tape,r3.output.trans hb.output,Nat.le_trans hb.size r3.size,fun k hk hne=>(r3.block k (Nat.lt_of_lt_of_le hk hb.size) hne).trans (hb.block k hk)⟩
def ReachedPost (l : List Ob) (ids : List Int) (w : World) (e : Ending) (w' : World) : Prop :=
  Below w.heap.size w w' ∧ ((reachE l ids ≠ 0 ∧ e = .returned (.tuple #[.slice none 0 0,.int .i64 (reachE l ids)])) ∨
    (reachE l ids = 0 ∧ ∃ v,e = .returned (.tuple #[v,.int .i64 0]) ∧ Kept w w.heap.size (partL l ids) v w'))
theorem wpList_append27 {ops : Array Oper} {rest : List Oper} {o : Oper} {a : Act} {w : World} {Q : Exit → Act → World → Prop} (hgd : o.guard = none) (d s : Operand)
    (ho : o.op = .call { callee:=.builtin .append,args:=#[d,s],argTypes:=#[45,45] }) (v u : Value) (hd : a.eval d = v) (hs : a.eval s = u) {v' : Value} {w' : World}
    (hr : (Builtin.append_ #[45,45] o.type #[v,u]).run Tryz.prog w = .ok v' w') (h : wpList Tryz.prog ops Q rest (a.put o.dst v') w') : wpList Tryz.prog ops Q (o :: rest) a w:=by
  refine wpList_plain hgd fun K hK=>?_
  unfold Oper.wp execOp
  simp only [ho,resolve,invoke,builtin,Sem.run_bind,Sem.run_pure,Result.andThen_ok,List.map_toArray,List.map_cons,List.map_nil,hd,hs,hr]
  exact hK _ _ h
theorem ids_next {wr : World} {base n : Nat} {v : Value} {xs : List Int} (hown : wr.ownsRow base 3 1 v n (xs.map (Value.int .i64))) (hn : n ≤ 900) (hbase : base ≤ wr.heap.size) (x : Int) (ty : TypeId) :
    ∃ g' cap' w',(Builtin.append_ #[45,45] ty #[v,.slice (some ⟨wr.heap.size,0,none⟩) 1 1]).run Tryz.prog (wr.alloc (.cells #[.int .i64 x] 3)) = .ok (.slice g' (n + 1) cap') w' ∧
      w'.ownsRow base 3 1 (.slice g' (n + 1) cap') (n + 1) ((xs ++ [x]).map (Value.int .i64)) ∧ wr.grownBy w' v.ownBlock:=by
  have hb:=below_alloc wr (.cells #[.int .i64 x] 3)
  have hh : Holds (wr.alloc (.cells #[.int .i64 x] 3)) (some ⟨wr.heap.size,0,none⟩) [x]:=by
    intro i hi
    refine ⟨_,_,rfl,by simp,fun j hj=>?_⟩
    have hj0 : j = 0:=by simpa using hj
    subst hj0
    rw [World.cell?_alloc_at _ _ _ _ rfl]
    rfl
  obtain ⟨g',N,cap',w',rfl,hr,h1,h2⟩:=run_append_ints _ ty base n v xs (hown.alloc _) _ 1 1 [x] rfl hh (by omega) (Nat.le_trans hbase hb.size)
  exact ⟨g',cap',w',hr,h1,⟨h2.os.trans hb.os,h2.tape.trans hb.tape,h2.output.trans hb.output,Nat.le_trans hb.size h2.size,fun k hk hne=>(h2.block k (Nat.lt_of_lt_of_le hk hb.size) hne).trans (hb.block k hk)⟩⟩
def ReachPost (l : List Ob) (ids : List Int) (w : World) (e : Ending) (w' : World) : Prop :=
  Below w.heap.size w w' ∧ ((reachE l ids ≠ 0 ∧ e = .returned (.tuple #[.slice none 0 0,.int .i64 (reachE l ids)])) ∨
    (reachE l ids = 0 ∧ ∃ a' c',e = .returned (.tuple #[.slice a' ((partL l ids).map Ob.id).length c',.int .i64 0]) ∧ Holds w' a' ((partL l ids).map Ob.id) ∧ (a' = none → c' = 0)))
theorem partL_length (l : List Ob) (ids : List Int) : (partL l ids).length ≤ l.length:=List.length_filter_le _ _
theorem Kept.reads {w0 : World} {base : Nat} {m : List Ob} {v : Value} {wr : World} (h : Kept w0 base m v wr) (hb : Below w0.heap.size w0 wr) : ∃ a c,v = .slice a m.length c ∧ HoldsS wr a m ∧ m.length ≤ c:=by
  obtain ⟨rs,rfl,q2,q3⟩:=h
  exact own_reads q2 (fun r hr=>⟨(q3 r hr).1.below hb,by have:=(q3 r hr).2;omega⟩)
theorem holds_tail {w : World} {sa : Option Addr} {L : List Int} {sc : Nat} (h : Holds w sa L) (hs : L.length ≤ sc) : Holds w (if sc = 1 then sa else sa.map (fun y=>y.add 1)) L.tail:=by
  intro i hi
  rw [List.length_tail] at hi
  obtain ⟨b,off,rfl,hb,hc⟩:=h (i + 1) (by omega)
  rw [if_neg (by omega)]
  refine ⟨b,off + 1,rfl,hb,fun j hj=>?_⟩
  rw [List.length_tail] at hj
  have:=hc (j + 1) (by omega)
  rw [show off + 1 + j = off + (j + 1) by omega,this]
  simp only [List.getD_eq_getElem?_getD,List.getElem?_tail]
theorem followP_any (a : Option Addr) (c : Nat) (l : List Ob) (a2 : Option Addr) (c2 : Nat) (ids : List Int) (w : World) (h : HoldsS w a l) (hroom : Room w a l) (hck : checkS l = 0) (h2 : Holds w a2 ids) (hil : ids.length ≤ 9223372036854775807) (hth : thereE l ids = 0)
    (hkind : ∀ x ∈ l,x.id ∈ ids → x.kind = 3) :
    Calls Tryz.prog 143 #[.slice a l.length c,.func (.func 144) #[] #[],.slice a2 ids.length c2] w fun e w'=>e = .returned (.agg (marksL (reachP l ids))) ∧ Below w.heap.size w w':=by
  obtain ⟨rs,hrs,hrows,hh⟩:=rows_of h
  have h40:=(checkS_iff.1 hck).1
  have hid:=right_id hck
  have hlk:=right_links hck
  have hmem : ∀ r ∈ rs,r.x ∈ l:=fun r hr=>by rw [← hrs];exact List.mem_map.2 ⟨r,hr,rfl⟩
  have hrl : rs.length = l.length:=by rw [← hrs,List.length_map]
  refine follow_parents a c l a2 c2 ids w (by omega) h2 hil (fun i hi=>?_) (fun x hx=>by have:=hid x hx;omega) (fun x=>x.kind = 3) (fun x=>x.links.tail) (fun x hx _ i hi=>by have:=hlk x hx i (List.mem_of_mem_tail hi);have:=hid x hx;omega) hkind (fun x hx hk y hy hyt=>right_parents hck x hx hk y hy hyt) rs hrs hrows ?_
  · obtain ⟨x,hx,rfl⟩:=thereE_iff.1 hth i hi
    have:=hid x hx;omega
  · intro r hr hk W hW
    have h4:=right_four hck r.x (hmem r hr)
    have h1:=right_tree hck r.x (hmem r hr) hk
    have hs : r.x.links.length ≤ r.sc:=by
      rcases hrows with e | ⟨b,off,rfl,hb,hc⟩
      · rw [List.eq_nil_of_length_eq_zero e] at hr;cases hr
      · obtain ⟨k,hkl,rfl⟩:=List.getElem_of_mem hr
        exact (hroom b off rfl k (by omega)).2 rs[k].sa _ rs[k].sc (by rw [hc k hkl 2 (by omega)];rfl)
    refine (parents_any r.x r.sa r.sc W h1 hs (by omega)).mono ?_
    rintro e W' ⟨rfl,hb⟩
    exact ⟨_,_,by rw [List.length_tail],holds_tail (hh r hr) hs,by rw [List.length_tail];omega,hb⟩
def behindE (l : List Ob) (old newer : Int) : Int:=if checkS l ≠ 0 then checkS l else if thereE l [old,newer] ≠ 0 then thereE l [old,newer] else if l.any (otherP 3 [old,newer]) then 7 else 0
def behindB (l : List Ob) (old newer : Int) : Bool:=decide (behindE l old newer = 0) && decide (old ∈ reachP l [newer])
theorem holds_two (w : World) (x y : Int) : Holds (w.alloc (.cells #[.int .i64 x,.int .i64 y] 3)) (some ⟨w.heap.size,0,none⟩) [x,y]:=by
  intro i hi
  refine ⟨_,_,rfl,by simp,fun j hj=>?_⟩
  rw [World.cell?_alloc_at _ _ _ _ rfl]
  match j,hj with
  | 0,_=>rfl
  | 1,_=>rfl
theorem holds_one (w : World) (x : Int) : Holds (w.alloc (.cells #[.int .i64 x] 3)) (some ⟨w.heap.size,0,none⟩) [x]:=by
  intro i hi
  refine ⟨_,_,rfl,by simp,fun j hj=>?_⟩
  rw [World.cell?_alloc_at _ _ _ _ rfl]
  match j,hj with
  | 0,_=>rfl
set_option maxHeartbeats 2000000 in
theorem behind_any (a : Option Addr) (c : Nat) (l : List Ob) (old newer : Int) (w : World) (h : HoldsS w a l) (hroom : Room w a l) (hl : l.length ≤ 9223372036854775807) :
    Calls Tryz.prog 87 #[.slice a l.length c,.int .i64 old,.int .i64 newer] w fun e w'=>e = .returned (.tuple #[.bool (behindB l old newer),.int .i64 (behindE l old newer)]) ∧ Below w.heap.size w w':=by
  go_enter Tryz.func87,Tryz.ntmps87
  go_wp2_with fail
  refine (checkS_any a c l w h hl).mono ?_
  rintro e w1 ⟨rfl,hb1⟩
  by_cases k1 : checkS l = 0
  case neg =>
    have HR : Hid (behindE l old newer = checkS l ∧ behindB l old newer = false):=by
      have : behindE l old newer = checkS l:=by rw [behindE,if_pos k1]
      exact ⟨this,by simp [behindB,this,k1]⟩
    have hz : (checkS l != 0) = true:=by simpa using k1
    clear k1
    go_wp2
    refine bodyPost_ret (v:=.tuple #[.bool false,.int .i64 (checkS l)]) (by simp [results,Tryz.results87,go_sem]) rfl ?_
    exact ⟨by rw [HR.out.1,HR.out.2],hb1⟩
  have K1 : Hid (checkS l = 0):=k1
  have h40:=(checkS_iff.1 k1).1
  rw [k1]
  clear k1
  have hA1:=below_alloc w1 (.cells #[.int .i64 old,.int .i64 newer] 3)
  have hT1:=holds_two w1 old newer
  have hB1:=hb1.trans (hA1.mono hb1.size)
  go_wp2_with fail
  refine (mustBeThere_any a c l (some ⟨w1.heap.size,0,none⟩) 2 [old,newer] _ (h.below hB1) hl hT1 (by simp)).mono ?_
  rintro e w2 ⟨rfl,hb2⟩
  have hB2:=hB1.trans (hb2.mono hB1.size)
  clear hb1 hb2 hA1 hT1 hB1
  by_cases k2 : thereE l [old,newer] = 0
  case neg =>
    have HR : Hid (behindE l old newer = thereE l [old,newer] ∧ behindB l old newer = false):=by
      have : behindE l old newer = thereE l [old,newer]:=by rw [behindE,if_neg (fun e=>e K1.out),if_pos k2]
      exact ⟨this,by simp [behindB,this,k2]⟩
    have hz : (thereE l [old,newer] != 0) = true:=by simpa using k2
    clear k2
    go_wp2
    refine bodyPost_ret (v:=.tuple #[.bool false,.int .i64 (thereE l [old,newer])]) (by simp [results,Tryz.results87,go_sem]) rfl ?_
    exact ⟨by rw [HR.out.1,HR.out.2],hB2⟩
  have K2 : Hid (thereE l [old,newer] = 0):=k2
  rw [k2]
  clear k2
  have hA2:=below_alloc w2 (.cells #[.int .i64 old,.int .i64 newer] 3)
  have hT2:=holds_two w2 old newer
  have hB3:=hB2.trans (hA2.mono hB2.size)
  go_wp2_with fail
  refine (anyOther_any a c l 3 (some ⟨w2.heap.size,0,none⟩) 2 [old,newer] _ (h.below hB3) hl hT2 (by simp)).mono ?_
  rintro e w3 ⟨rfl,hb3⟩
  have hB4:=hB3.trans (hb3.mono hB3.size)
  clear hb3 hA2 hT2 hB3 hB2
  by_cases k3 : l.any (otherP 3 [old,newer]) = true
  case pos =>
    have HR : Hid (behindE l old newer = 7 ∧ behindB l old newer = false):=by
      have : behindE l old newer = 7:=by rw [behindE,if_neg (fun e=>e K1.out),if_neg (fun e=>e K2.out),if_pos k3]
      exact ⟨this,by simp [behindB,this]⟩
    rw [k3]
    clear k3
    go_wp2
    refine bodyPost_ret (v:=.tuple #[.bool false,.int .i64 7]) (by simp [results,Tryz.results87,go_sem]) rfl ?_
    exact ⟨by rw [HR.out.1,HR.out.2],hB4⟩
  have k3' : l.any (otherP 3 [old,newer]) = false:=by simpa using k3
  have hth:=thereE_iff.1 K2.out
  have hkind : ∀ x ∈ l,x.id ∈ [old,newer] → x.kind = 3:=fun x hx hi=>by
    have:=List.any_eq_false.1 k3' x hx
    unfold otherP at this
    rcases Classical.em (x.kind = 3) with q | q
    · exact q
    · exact absurd (by simp only [Bool.and_eq_true,decide_eq_true_eq];exact ⟨by simpa using q,hi⟩) this
  have HR : Hid (behindE l old newer = 0 ∧ behindB l old newer = decide (old ∈ reachP l [newer])):=by
    have : behindE l old newer = 0:=by rw [behindE,if_neg (fun e=>e K1.out),if_neg (fun e=>e K2.out),if_neg k3]
    exact ⟨this,by simp [behindB,this]⟩
  obtain ⟨i,hi,hi99⟩ : ∃ i : Nat,old = (i : Int) ∧ i < 100:=by
    obtain ⟨x,hx,e⟩:=hth old (by simp)
    have:=right_id K1.out x hx
    exact ⟨old.toNat,by omega,by omega⟩
  rw [k3']
  clear k3 k3'
  have hA5:=below_alloc w3 (.cells #[.int .i64 newer] 3)
  have hT5:=holds_one w3 newer
  have hB5:=hB4.trans (hA5.mono hB4.size)
  have hfo:=followP_any a c l (some ⟨w3.heap.size,0,none⟩) 1 [newer] _ (h.below hB5) (hroom.below hB5) K1.out hT5 (by simp) (thereE_iff.2 fun j hj=>hth j (by simp at hj;simp [hj])) (fun x hx hj=>hkind x hx (by simp at hj;simp [hj]))
  clear hA5 hT5 hB4 hkind hth
  obtain ⟨R,hR⟩ : ∃ R,R = reachP l [newer]:=⟨_,rfl⟩
  rw [← hR] at hfo HR
  clear hR
  subst hi
  go_wp2_with fail
  refine hfo.mono ?_
  clear hfo
  rintro e w4 ⟨rfl,hb6⟩
  have hB6:=hB5.trans (hb6.mono hB5.size)
  clear hb6 hB5
  have hms:=marksL_size R
  have hnew : (w4.alloc (.cells Tryz.zeroCells188 188)).heap[w4.heap.size]? = some (.cells (marksL []) 188):=by rw [← zeroMarks];exact heap_alloc_new w4 _
  have hsc:=run_store_marks _ w4.heap.size R [] hnew
  have hA:=below_alloc w4 (.cells Tryz.zeroCells188 188)
  have hmk:=setRow_heap (w4.alloc (.cells Tryz.zeroCells188 188)) w4.heap.size _ (marksL R) _ _ hnew
  have hB7 : Below w.heap.size w ((w4.alloc (.cells Tryz.zeroCells188 188)).setRow w4.heap.size (marksL R)):=by
    have q:=hB6.trans (hA.mono hB6.size)
    exact ⟨q.os,q.tape,q.output,by rw [size_setRow];exact q.size,fun k hk=>(setRow_other _ _ k _ (by have:=hB6.size;omega)).trans (q.block k hk)⟩
  have zm : ((w4.alloc (.cells Tryz.zeroCells188 188)).setRow w4.heap.size (marksL R)).cell? ⟨w4.heap.size,i,none⟩ = some (.bool (decide ((i : Int) ∈ R))):=by rw [cell_of_row _ _ _ _ _ _ hmk,marksL_get R i hi99]
  have hi99' : (i : Int) < 100:=by omega
  clear hA hnew hmk
  go_wp2
  refine bodyPost_ret (v:=.tuple #[.bool (decide ((i : Int) ∈ R)),.int .i64 0]) (by simp [results,Tryz.results87,go_sem]) rfl ?_
  exact ⟨by rw [HR.out.1,HR.out.2],hB7⟩
theorem sc_other {w : World} {a b : Addr} {v : Value} (h : a ≠ b) : (w.setCell a v).cell? b = w.cell? b:=by
  apply World.cell?_setCell_other
  exact h
abbrev set4 (W : World) (g o : Nat) (v0 v1 v2 v3 : Value) : World:=(((W.setCell ⟨g,o,none⟩ v0).setCell ⟨g,o + 1,none⟩ v1).setCell ⟨g,o + 2,none⟩ v2).setCell ⟨g,o + 3,none⟩ v3
theorem set4_out (W : World) (g o : Nat) (v0 v1 v2 v3 : Value) (p : Addr) (hp : p.spot = none) (h : p.block = g → p.off < o ∨ o + 4 ≤ p.off) : (set4 W g o v0 v1 v2 v3).cell? p = W.cell? p:=by
  obtain ⟨b,f,s⟩:=p
  simp only at hp h
  subst hp
  have hne : ∀ j,j < 4 → (⟨g,o + j,none⟩ : Addr) ≠ ⟨b,f,none⟩:=fun j hj e=>by
    simp only [Addr.mk.injEq,and_true] at e
    have:=h e.1.symm
    omega
  unfold set4
  rw [sc_other (hne 3 (by omega)),sc_other (hne 2 (by omega)),sc_other (hne 1 (by omega)),sc_other (a:=⟨g,o,none⟩) (hne 0 (by omega))]
theorem set4_in (W : World) (g o : Nat) (v0 v1 v2 v3 : Value) (h : ∀ j,j < 4 → (W.cell? ⟨g,o + j,none⟩).isSome = true) (j : Nat) (hj : j < 4) : (set4 W g o v0 v1 v2 v3).cell? ⟨g,o + j,none⟩ = [v0,v1,v2,v3][j]?:=by
  have ne : ∀ i j : Nat,i ≠ j → (⟨g,o + i,none⟩ : Addr) ≠ ⟨g,o + j,none⟩:=fun i j hij e=>by
    simp only [Addr.mk.injEq,and_true,true_and] at e
    omega
  unfold set4
  match j,hj with
  | 0,_ =>
    rw [sc_other (ne 3 0 (by omega)),sc_other (ne 2 0 (by omega)),sc_other (ne 1 0 (by omega))]
    exact World.cell?_setCell_same' _ _ _ (h 0 (by omega))
  | 1,_ =>
    rw [sc_other (ne 3 1 (by omega)),sc_other (ne 2 1 (by omega))]
    exact World.cell?_setCell_same' _ _ _ (by rw [sc_other (a:=⟨g,o,none⟩) (ne 0 1 (by omega))];exact h 1 (by omega))
  | 2,_ =>
    rw [sc_other (ne 3 2 (by omega))]
    exact World.cell?_setCell_same' _ _ _ (by rw [sc_other (ne 1 2 (by omega)),sc_other (a:=⟨g,o,none⟩) (ne 0 2 (by omega))];exact h 2 (by omega))
  | 3,_ =>
    exact World.cell?_setCell_same' _ _ _ (by rw [sc_other (ne 2 3 (by omega)),sc_other (ne 1 3 (by omega)),sc_other (a:=⟨g,o,none⟩) (ne 0 3 (by omega))];exact h 3 (by omega))
theorem set4_below {W0 W : World} {n g o : Nat} {v0 v1 v2 v3 : Value} (h : Below n W0 W) (hn : n ≤ g) : Below n W0 (set4 W g o v0 v1 v2 v3) :=
  (((h.setCell (p:=⟨g,o,none⟩) hn _).setCell (p:=⟨g,o + 1,none⟩) hn _).setCell (p:=⟨g,o + 2,none⟩) hn _).setCell (p:=⟨g,o + 3,none⟩) hn _
theorem set4_row (W : World) (g o : Nat) (v0 v1 v2 v3 : Value) (cur : Array Value) (h : W.heap[g]? = some (.cells cur 58)) : ∃ cur',(set4 W g o v0 v1 v2 v3).heap[g]? = some (.cells cur' 58):=by
  unfold set4
  have h1:=heap_setCell_same W g o cur 58 v0 h
  have h2:=heap_setCell_same _ g (o + 1) _ 58 v1 h1
  have h3:=heap_setCell_same _ g (o + 2) _ 58 v2 h2
  exact ⟨_,heap_setCell_same _ g (o + 3) _ 58 v3 h3⟩
structure PRow (w0 : World) (g : Nat) (m : List Ob) (rs : List Pl) (W : World) : Prop where
  xs : rs.map Pl.x = m
  row : ∃ cur,W.heap[g]? = some (.cells cur 58)
  cell : ∀ q (hq : q < rs.length) j,j < 4 → W.cell? ⟨g,q * 4 + j,none⟩ = (rs[q].cells)[j]?
  lies : ∀ r ∈ rs,Holds W r.sa r.x.links ∧ r.x.links.length ≤ 1000 ∧ ∀ b off,r.sa = some ⟨b,off,none⟩ → 0 < r.x.links.length → b ≠ g
  bl : Below w0.heap.size w0 W
  up : w0.heap.size ≤ g
theorem Holds.other {W W' : World} {a : Option Addr} {L : List Int} (h : Holds W a L) (g : Nat) (hne : ∀ b off,a = some ⟨b,off,none⟩ → 0 < L.length → b ≠ g) (hs : W.heap.size ≤ W'.heap.size) (hk : ∀ b off,b ≠ g → W'.cell? ⟨b,off,none⟩ = W.cell? ⟨b,off,none⟩) : Holds W' a L:=by
  intro i hi
  obtain ⟨b,off,e,hb,hc⟩:=h i hi
  exact ⟨b,off,e,Nat.lt_of_lt_of_le hb hs,fun j hj=>(hk b _ (hne b off e (by omega))).trans (hc j hj)⟩
theorem PRow.next {w0 : World} {g : Nat} {m : List Ob} {rs : List Pl} {W : World} (h : PRow w0 g m rs W) (W1 : World) (hb : Below W.heap.size W W1) (k : Nat) (hk : k < rs.length) (ta : Option Addr) (tc : Nat) (hh : Holds W1 ta rs[k].x.links) (hne : ∀ b off,ta = some ⟨b,off,none⟩ → W.heap.size ≤ b) :
    PRow w0 g m (rs.set k ⟨rs[k].x,ta,tc⟩) (set4 W1 g (k * 4) (.int .i64 rs[k].x.id) (.int .i64 rs[k].x.kind) (.slice ta rs[k].x.links.length tc) (.string rs[k].x.text)):=by
  obtain ⟨cur,hcur⟩:=h.row
  have hg : g < W.heap.size:=heap_lt hcur
  have hc1 : ∀ q (hq : q < rs.length) j,j < 4 → W1.cell? ⟨g,q * 4 + j,none⟩ = (rs[q].cells)[j]?:=fun q hq j hj=>(hb.cell (p:=⟨g,q * 4 + j,none⟩) hg).trans (h.cell q hq j hj)
  have hsome : ∀ j,j < 4 → (W1.cell? ⟨g,k * 4 + j,none⟩).isSome = true:=fun j hj=>by
    rw [hc1 k hk j hj]
    simp [Pl.cells,hj]
  have hbl1:=h.bl.trans (hb.mono h.bl.size)
  refine ⟨?_,?_,?_,?_,set4_below hbl1 h.up,h.up⟩
  · rw [List.map_set,← h.xs]
    apply List.ext_getElem
    · simp
    · intro i h1 h2
      rw [List.getElem_set]
      split
      · rename_i e;subst e;rw [List.getElem_map]
      · rfl
  · exact set4_row W1 g (k * 4) _ _ _ _ cur ((hb.block g hg).trans hcur)
  · intro q hq j hj
    rw [List.length_set] at hq
    by_cases e : k = q
    · subst e
      rw [set4_in W1 g (k * 4) _ _ _ _ hsome j hj,List.getElem_set_self]
      rfl
    · rw [set4_out W1 g (k * 4) _ _ _ _ _ rfl (fun _=>by show q * 4 + j < k * 4 ∨ k * 4 + 4 ≤ q * 4 + j;omega),List.getElem_set_ne e]
      exact hc1 q hq j hj
  · have hcells : ∀ b off,b ≠ g → (set4 W1 g (k * 4) (.int .i64 rs[k].x.id) (.int .i64 rs[k].x.kind) (.slice ta rs[k].x.links.length tc) (.string rs[k].x.text)).cell? ⟨b,off,none⟩ = W1.cell? ⟨b,off,none⟩:=fun b off hbg=>set4_out W1 g (k * 4) _ _ _ _ _ rfl (fun e=>absurd e hbg)
    have hsz : W1.heap.size ≤ (set4 W1 g (k * 4) (.int .i64 rs[k].x.id) (.int .i64 rs[k].x.kind) (.slice ta rs[k].x.links.length tc) (.string rs[k].x.text)).heap.size:=by unfold set4;simp only [World.size_setCell];exact Nat.le_refl _
    intro r hr
    rcases List.mem_or_eq_of_mem_set hr with q | rfl
    · obtain ⟨h1,h2,h3⟩:=h.lies r q
      exact ⟨(h1.below hb).other g h3 hsz hcells,h2,h3⟩
    · have hn : ∀ b off,ta = some ⟨b,off,none⟩ → 0 < rs[k].x.links.length → b ≠ g:=fun b off e _=>by have:=hne b off e;omega
      exact ⟨hh.other g hn hsz hcells,(h.lies _ (List.getElem_mem hk)).2.1,hn⟩
theorem PRow.reads {w0 : World} {g : Nat} {m : List Ob} {rs : List Pl} {W : World} (h : PRow w0 g m rs W) : HoldsS W (some ⟨g,0,none⟩) m:=by
  obtain ⟨cur,hcur⟩:=h.row
  intro i hi
  refine ⟨g,0,rfl,heap_lt hcur,fun k hk=>?_⟩
  have hk' : k < rs.length:=by rw [← h.xs,List.length_map] at hk;exact hk
  have hmk : m[k] = rs[k].x:=by
    have : m[k]? = (rs.map Pl.x)[k]?:=by rw [h.xs]
    rw [List.getElem?_eq_getElem hk,List.getElem?_map,List.getElem?_eq_getElem hk'] at this
    simpa using this
  have hr:=h.lies _ (List.getElem_mem hk')
  have hc:=h.cell k hk'
  rw [hmk,Nat.zero_add]
  refine ⟨rs[k].sa,rs[k].sc,?_,?_,?_,?_,hr.1,by have:=hr.2.1;omega⟩
  · simpa [Pl.cells] using hc 0 (by omega)
  · simpa [Pl.cells] using hc 1 (by omega)
  · simpa [Pl.cells] using hc 2 (by omega)
  · simpa [Pl.cells] using hc 3 (by omega)
theorem Kept.row {w0 : World} {base : Nat} {m : List Ob} {v : Value} {wr : World} (h : Kept w0 base m v wr) (hb : Below w0.heap.size w0 wr) (hbase : w0.heap.size ≤ base) (hm : 0 < m.length) : ∃ g c rs,v = .slice (some ⟨g,0,none⟩) m.length c ∧ m.length ≤ c ∧ PRow w0 g m rs wr:=by
  obtain ⟨rs,e,q2,q3⟩:=h
  have hrl : rs.length = m.length:=by rw [← e,List.length_map]
  rcases q2.2 with ⟨_,e2⟩ | ⟨g,cap,cur,e1,e2,e3,e4,e5,e6,e7⟩
  · omega
  · refine ⟨g,cap,rs,by rw [e1,hrl],by omega,e,⟨cur,e3⟩,?_,?_,hb,Nat.le_trans hbase e2⟩
    · intro q hq j hj
      rw [cell_of_row wr g _ cur _ _ e3,← rowC_get rs q j hq hj,← e7,List.getElem?_take,if_pos (by omega)]
      simp
    · intro r hr
      obtain ⟨h1,h2⟩:=q3 r hr
      refine ⟨h1.below hb,h2,fun b off er hl=>?_⟩
      obtain ⟨b',off',er',hb',_⟩:=h1 0 hl
      rw [er] at er'
      cases er'
      omega
def PartPost (l : List Ob) (ids : List Int) (w : World) (e : Ending) (w' : World) : Prop :=
  Below w.heap.size w w' ∧ ((reachE l ids ≠ 0 ∧ e = .returned (.tuple #[.slice none 0 0,.int .i64 (reachE l ids)])) ∨
    (reachE l ids = 0 ∧ ∃ a' c',e = .returned (.tuple #[.slice a' (partL l ids).length c',.int .i64 0]) ∧ HoldsS w' a' (partL l ids)))
theorem shelf_room (w : World) : Calls Tryz.prog 61 #[] w fun e w'=>∃ g,e = .returned (.slice (some ⟨g,0,none⟩) 5 5) ∧ Below w.heap.size w w' ∧ HoldsS w' (some ⟨g,0,none⟩) shelfL ∧ Room w' (some ⟨g,0,none⟩) shelfL:=by
  refine (shelf_five w).mono ?_
  rintro e w' ⟨g,b2,b3,b4,b5,rfl,hB,h1,h2,h3,h4,h5⟩
  refine ⟨g,rfl,hB,five_holds h1 h2 h3 h4 h5,fun b off e k hk=>?_⟩
  cases e
  refine ⟨h1.lt,fun sa n sc hc=>?_⟩
  match k,hk with
  | 0,_=>have:=h1.c2;rw [show (0 : Nat) + 0 * 4 + 2 = 0 + 2 by rfl,this] at hc;cases hc;decide
  | 1,_=>have:=h2.c2;rw [show (0 : Nat) + 1 * 4 + 2 = 4 + 2 by rfl,this] at hc;cases hc;decide
  | 2,_=>have:=h3.c2;rw [show (0 : Nat) + 2 * 4 + 2 = 8 + 2 by rfl,this] at hc;cases hc;decide
  | 3,_=>have:=h4.c2;rw [show (0 : Nat) + 3 * 4 + 2 = 12 + 2 by rfl,this] at hc;cases hc;decide
  | 4,_=>have:=h5.c2;rw [show (0 : Nat) + 4 * 4 + 2 = 16 + 2 by rfl,this] at hc;cases hc;decide
theorem beg_reach : reachE shelfL [3] = 0:=by decide
theorem beg_part : partL shelfL [3] = [o1,o2,o3]:=by
  have h1 : decide (o1.id ∈ reachL shelfL [3]) = true:=by decide
  have h2 : decide (o2.id ∈ reachL shelfL [3]) = true:=by decide
  have h3 : decide (o3.id ∈ reachL shelfL [3]) = true:=by decide
  have h4 : decide (o4.id ∈ reachL shelfL [3]) = false:=by decide
  have h5 : decide (o5.id ∈ reachL shelfL [3]) = false:=by decide
  show List.filter _ [o1,o2,o3,o4,o5] = _
  simp only [List.filter,h1,h2,h3,h4,h5]
theorem beg_35 : behindE shelfL 3 5 = 0 ∧ behindB shelfL 3 5 = true:=by decide
theorem beg_53 : behindE shelfL 5 3 = 0 ∧ behindB shelfL 5 3 = false:=by decide
theorem beg_25 : behindE shelfL 2 5 = 7 ∧ behindB shelfL 2 5 = false:=by decide
def IsC (l : List Ob) (i : Int) : Prop:=(∃ x ∈ l,x.id = i) ∧ ∀ x ∈ l,x.id = i → x.kind = 3
theorem behindE_iff {l : List Ob} {a b : Int} : behindE l a b = 0 ↔ checkS l = 0 ∧ IsC l a ∧ IsC l b:=by
  unfold behindE
  by_cases h1 : checkS l = 0
  case neg =>
    rw [if_pos h1]
    exact ⟨fun e=>absurd e h1,fun e=>absurd e.1 h1⟩
  rw [if_neg (fun e=>e h1)]
  by_cases h2 : thereE l [a,b] = 0
  case neg =>
    rw [if_pos h2]
    refine ⟨fun e=>absurd e h2,fun e=>absurd (thereE_iff.2 fun i hi=>?_) h2⟩
    simp only [List.mem_cons,List.not_mem_nil,or_false] at hi
    rcases hi with rfl | rfl
    · exact e.2.1.1
    · exact e.2.2.1
  rw [if_neg (fun e=>e h2)]
  have ht:=thereE_iff.1 h2
  constructor
  · intro e
    have h3 : l.any (otherP 3 [a,b]) = false:=by
      cases q : l.any (otherP 3 [a,b]) with
      | false=>rfl
      | true=>rw [if_pos q] at e;omega
    have hk : ∀ x ∈ l,x.id ∈ [a,b] → x.kind = 3:=fun x hx hi=>by
      have:=List.any_eq_false.1 h3 x hx
      unfold otherP at this
      rcases Classical.em (x.kind = 3) with q | q
      · exact q
      · exact absurd (by simp only [Bool.and_eq_true,decide_eq_true_eq];exact ⟨by simpa using q,hi⟩) this
    exact ⟨h1,⟨ht a (by simp),fun x hx e=>hk x hx (by simp [e])⟩,⟨ht b (by simp),fun x hx e=>hk x hx (by simp [e])⟩⟩
  · rintro ⟨_,ha,hb⟩
    rw [if_neg]
    intro q
    obtain ⟨x,hx,hq⟩:=List.any_eq_true.1 q
    unfold otherP at hq
    simp only [Bool.and_eq_true,decide_eq_true_eq,bne_iff_ne,List.mem_cons,List.not_mem_nil,or_false] at hq
    rcases hq.2 with e | e
    · exact hq.1 (ha.2 x hx e)
    · exact hq.1 (hb.2 x hx e)
theorem behindB_iff {l : List Ob} {a b : Int} : behindB l a b = true ↔ behindE l a b = 0 ∧ a ∈ reachP l [b]:=by
  unfold behindB
  simp
theorem behind_self {l : List Ob} {a b : Int} (h : behindE l a b = 0) : behindE l a a = 0 ∧ behindB l a a = true:=by
  obtain ⟨h1,h2,_⟩:=behindE_iff.1 h
  have e : behindE l a a = 0:=behindE_iff.2 ⟨h1,h2,h2⟩
  exact ⟨e,behindB_iff.2 ⟨e,reachBy_sub (by simp)⟩⟩
theorem reachE_zero {l : List Ob} {ids : List Int} (h : reachE l ids = 0) : checkS l = 0 ∧ ∀ i ∈ ids,∃ x ∈ l,x.id = i:=by
  unfold reachE at h
  split at h
  · rename_i q;exact absurd h q
  · rename_i q;exact ⟨Classical.byContradiction q,thereE_iff.1 h⟩
theorem reachE_mk {l : List Ob} {ids : List Int} (h1 : checkS l = 0) (h2 : ∀ i ∈ ids,∃ x ∈ l,x.id = i) : reachE l ids = 0:=by
  rw [reachE,if_neg (fun e=>e h1)]
  exact thereE_iff.2 h2
theorem links_less {l : List Ob} (h : checkS l = 0) : ∀ x ∈ l,∀ y ∈ x.links,y < x.id:=fun x hx y hy=>(right_links h x hx y hy).2
theorem reachL_closed {l : List Ob} (h : checkS l = 0) (ids : List Int) : ∀ x ∈ l,x.id ∈ reachL l ids → ∀ y ∈ x.links,y ∈ reachL l ids:=reachBy_closed (checkS_iff.1 h).2.2 (links_less h)
theorem partL_mem {l : List Ob} {ids : List Int} {x : Ob} : x ∈ partL l ids ↔ x ∈ l ∧ x.id ∈ reachL l ids:=by
  unfold partL
  rw [List.mem_filter]
  simp
theorem reachL_there {l : List Ob} {ids : List Int} (h : reachE l ids = 0) : ∀ i ∈ reachL l ids,∃ x ∈ l,x.id = i:=by
  obtain ⟨h1,h2⟩:=reachE_zero h
  exact reachBy_min (fun i=>∃ x ∈ l,x.id = i) h2 (fun x hx _ y hy=>right_there h1 x hx y hy)
theorem rises_one {l : List Ob} (h : Rises l) {x y : Ob} (hx : x ∈ l) (hy : y ∈ l) (e : x.id = y.id) : x = y:=by
  obtain ⟨i,hi,rfl⟩:=List.getElem_of_mem hx
  obtain ⟨j,hj,rfl⟩:=List.getElem_of_mem hy
  rcases Nat.lt_trichotomy i j with c | c | c
  · have:=h.lt hi hj c;omega
  · subst c;rfl
  · have:=h.lt hj hi c;omega
theorem kindAt_mem {l : List Ob} (h : Rises l) {x : Ob} (hx : x ∈ l) : kindAt l x.id = x.kind:=by
  obtain ⟨i,hi,rfl⟩:=List.getElem_of_mem hx
  exact kindAt_at (placeI_rise h hi) hi
end
end Go.Proofs.YtehmlpkapjdhkaaGreatDoor
