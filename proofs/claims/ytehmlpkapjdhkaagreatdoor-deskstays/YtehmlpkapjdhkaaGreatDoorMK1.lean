import Derived.Test.YtehmlpkapjdhkaaGreatDoorMG
namespace Go.Proofs.YtehmlpkapjdhkaaGreatDoor
section
open Go.RowKit
set_option maxRecDepth 100000
theorem Objs.keep {w w' : World} {z : Nat} {v : Value} {rs : List Pl} (h : Objs w z v rs) (hs : w.heap.size ≤ w'.heap.size) (hk : ∀ k,z ≤ k → w'.heap[k]? = w.heap[k]?) : Objs w' z v rs:=by
  refine ⟨ownsRow_same h.own (fun g hg=>hk g (h.own.lt g hg).1),fun r hr=>?_⟩
  obtain ⟨h1,h2⟩:=h.each r hr
  refine ⟨h1,fun h0=>?_⟩
  obtain ⟨b,off,e,hpb,hlt,hne,hc⟩:=h2 h0
  exact ⟨b,off,e,hpb,Nat.lt_of_lt_of_le hlt hs,hne,fun i hi=>(World.cell?_of_block (a:=⟨b,off + i,none⟩) (hk b hpb)).trans (hc i hi)⟩
theorem Objs.from {w : World} {z z' : Nat} {v : Value} {rs : List Pl} (h : Objs w z v rs) (hz : z' ≤ z) : Objs w z' v rs:=by
  refine ⟨⟨h.own.1,?_⟩,fun r hr=>?_⟩
  · rcases h.own.2 with q | ⟨g,cap,cur,q1,q2,q3⟩
    · exact .inl q
    · exact .inr ⟨g,cap,cur,q1,Nat.le_trans hz q2,q3⟩
  · obtain ⟨h1,h2⟩:=h.each r hr
    refine ⟨h1,fun h0=>?_⟩
    obtain ⟨b,off,e,hpb,q⟩:=h2 h0
    exact ⟨b,off,e,Nat.le_trans hz hpb,q⟩
theorem ownsRow_from {w : World} {z z' : Nat} {e : TypeId} {size : Nat} {v : Value} {n : Nat} {xs : List Value} (h : w.ownsRow z e size v n xs) (hz : z' ≤ z) : w.ownsRow z' e size v n xs:=by
  refine ⟨h.1,?_⟩
  rcases h.2 with q | ⟨g,cap,cur,q1,q2,q3⟩
  · exact .inl q
  · exact .inr ⟨g,cap,cur,q1,Nat.le_trans hz q2,q3⟩
theorem ownsRow_below {w w' : World} {z : Nat} {e : TypeId} {size : Nat} {v : Value} {n : Nat} {xs : List Value} (h : w.ownsRow z e size v n xs) (hb : Below w.heap.size w w') : w'.ownsRow z e size v n xs :=
  ownsRow_kept h (fun g hg=>hb.block g (h.lt g hg).2)
theorem ownsRow_high {w w' : World} {z : Nat} {e : TypeId} {size : Nat} {v : Value} {n : Nat} {xs : List Value} (h : w.ownsRow z e size v n xs) (hk : ∀ k,z ≤ k → w'.heap[k]? = w.heap[k]?) : w'.ownsRow z e size v n xs :=
  ownsRow_kept h (fun g hg=>hk g (h.lt g hg).1)
theorem app_none_g {t e : TypeId} {i : TypeInfo} (ht : Tryz.prog.underlying t = some (.slice e)) (hi : Tryz.prog.info? e = some i) (ty : TypeId) (ad : Option Addr) (c : Nat) (w : World) :
    (Builtin.append_ #[t,t] ty #[.slice none 0 0,.slice ad 0 c]).run Tryz.prog w = .ok (.slice none 0 0) w:=by
  cases ad <;> simp [Builtin.append_,run_underlying ht,sizeOf,typeInfo,hi,Builtin.lenOf,Builtin.firstCells,loadCells,loadCellsFrom]
theorem grown_below {w w' : World} (h : w.grownBy w' (Value.slice none 0 0).ownBlock) : Below w.heap.size w w':=⟨h.os,h.tape,h.output,h.size,fun k hk=>h.block k hk (by simp [Value.ownBlock])⟩
theorem app_refs_nil (w : World) (ty : TypeId) (ad : Option Addr) (c : Nat) (l : List Rf) (h : HoldsR w ad l) (hl : l.length ≤ 900) :
    ∃ a' c' w',(Builtin.append_ #[34,34] ty #[.slice none 0 0,.slice ad l.length c]).run Tryz.prog w = .ok (.slice a' l.length c') w' ∧ w'.ownsRow w.heap.size 65 2 (.slice a' l.length c') l.length (rowR l) ∧ Below w.heap.size w w':=by
  obtain ⟨i0,hi0,hz0,hzs,hzb⟩:=info_parts Tryz.info65
  by_cases h0 : l.length = 0
  · have e : l = []:=List.eq_nil_of_length_eq_zero h0
    subst e
    exact ⟨none,0,w,app_none_g Tryz.underlying34 hi0 ty ad c w,World.ownsRow_nil _ _ _ _,Below.refl _ _⟩
  · obtain ⟨b,off,rfl,_,hc⟩:=h 0 (by omega)
    obtain ⟨v',w',hr,q1,q2⟩:=app_refs w w.heap.size ty (.slice none 0 0) [] (World.ownsRow_nil _ _ _ _) b off c l hc (by simpa using (by omega : l.length ≤ 1000)) (Nat.le_refl _)
    simp only [List.nil_append] at q1
    obtain ⟨a',c',e,_⟩:=ownR_reads q1
    subst e
    exact ⟨a',c',w',hr,q1,grown_below q2⟩
theorem app_ups_nil (w : World) (ty : TypeId) (ad : Option Addr) (c : Nat) (l : List Up) (h : HoldsU w ad l) (hl : l.length ≤ 900) :
    ∃ a' c' w',(Builtin.append_ #[26,26] ty #[.slice none 0 0,.slice ad l.length c]).run Tryz.prog w = .ok (.slice a' l.length c') w' ∧ w'.ownsRow w.heap.size 40 3 (.slice a' l.length c') l.length (rowU l) ∧ Below w.heap.size w w':=by
  obtain ⟨i0,hi0,hz0,hzs,hzb⟩:=info_parts Tryz.info40
  by_cases h0 : l.length = 0
  · have e : l = []:=List.eq_nil_of_length_eq_zero h0
    subst e
    exact ⟨none,0,w,app_none_g Tryz.underlying26 hi0 ty ad c w,World.ownsRow_nil _ _ _ _,Below.refl _ _⟩
  · obtain ⟨b,off,rfl,_,hc⟩:=h 0 (by omega)
    obtain ⟨v',w',hr,q1,q2,_⟩:=run_append_own (P:=Tryz.prog) w w.heap.size 26 ty 40 i0 _ 3 32 Tryz.underlying26 hi0 hz0 hzs hzb rfl (by omega) _ 0 [] (World.ownsRow_nil _ _ _ _) ⟨b,off,none⟩ l.length c (rowU l) (rowU_length l) (holdU_row' (fun i _=>⟨b,off,rfl,hc⟩)) (rowU_one l) (by unfold maxLen;omega) (by omega) (Nat.le_refl _)
    simp only [List.nil_append,Nat.zero_add] at q1
    obtain ⟨a',c',e,_⟩:=ownU_reads q1
    subst e
    exact ⟨a',c',w',hr,q1,grown_below q2⟩
structure FreshP (w : World) (z : Nat) (m : List Ob) (us : List Up) (a1 : Option Addr) (c1 : Nat) (a2 : Option Addr) (c2 : Nat) : Prop where
  objs : ∃ rs,rs.map Pl.x = m ∧ Objs w z (.slice a1 m.length c1) rs
  ups : w.ownsRow z 40 3 (.slice a2 us.length c2) us.length (rowU us)
theorem FreshP.keep {w w' : World} {z : Nat} {m : List Ob} {us : List Up} {a1 a2 : Option Addr} {c1 c2 : Nat} (h : FreshP w z m us a1 c1 a2 c2) (hs : w.heap.size ≤ w'.heap.size) (hk : ∀ k,z ≤ k → w'.heap[k]? = w.heap[k]?) : FreshP w' z m us a1 c1 a2 c2:=by
  obtain ⟨rs,e,o⟩:=h.objs
  exact ⟨⟨rs,e,o.keep hs hk⟩,ownsRow_high h.ups hk⟩
theorem FreshP.below {w w' : World} {z : Nat} {m : List Ob} {us : List Up} {a1 a2 : Option Addr} {c1 c2 : Nat} (h : FreshP w z m us a1 c1 a2 c2) (hb : Below w.heap.size w w') : FreshP w' z m us a1 c1 a2 c2:=by
  obtain ⟨rs,e,o⟩:=h.objs
  exact ⟨⟨rs,e,o.below hb⟩,ownsRow_below h.ups hb⟩
theorem FreshP.from {w : World} {z z' : Nat} {m : List Ob} {us : List Up} {a1 a2 : Option Addr} {c1 c2 : Nat} (h : FreshP w z m us a1 c1 a2 c2) (hz : z' ≤ z) : FreshP w z' m us a1 c1 a2 c2:=by
  obtain ⟨rs,e,o⟩:=h.objs
  exact ⟨⟨rs,e,o.from hz⟩,ownsRow_from h.ups hz⟩
theorem Objs.list {w : World} {z : Nat} {m : List Ob} {rs : List Pl} {a : Option Addr} {c : Nat} (e : rs.map Pl.x = m) (o : Objs w z (.slice a m.length c) rs) : HoldsS w a m:=by
  obtain ⟨a',c',q,hh,_⟩:=o.reads
  rw [e] at q hh
  cases q
  exact hh
theorem FreshP.holds {w : World} {z : Nat} {m : List Ob} {us : List Up} {a1 a2 : Option Addr} {c1 c2 : Nat} (h : FreshP w z m us a1 c1 a2 c2) : HoldsS w a1 m ∧ HoldsU w a2 us:=by
  obtain ⟨rs,e,o⟩:=h.objs
  obtain ⟨a',c',q,hu,_⟩:=ownU_reads h.ups
  cases q
  exact ⟨o.list e,hu⟩
theorem objs_slice {w : World} {z : Nat} {v : Value} {rs : List Pl} {m : List Ob} (e : rs.map Pl.x = m) (o : Objs w z v rs) : ∃ a c,v = .slice a m.length c:=by
  obtain ⟨a',c',q,_⟩:=o.reads
  rw [e] at q
  exact ⟨a',c',q⟩
theorem setcell_size (w : World) (a : Addr) (v : Value) : w.heap.size ≤ (w.setCell a v).heap.size:=Nat.le_of_eq (World.size_setCell _ _ _).symm
theorem setcell_high (w : World) (p o z : Nat) (v : Value) (h : p < z) : ∀ k,z ≤ k → (w.setCell ⟨p,o,none⟩ v).heap[k]? = w.heap[k]?:=fun k hk=>heap_setCell_other w ⟨p,o,none⟩ k v (by show k ≠ p;omega)
theorem set3_block (w : World) (q : Nat) (x0 x1 x2 : Value) {a b c : Value} (h : w.heap[q]? = some (.cells #[a,b,c] 28)) :
    (((w.setCell ⟨q,0,none⟩ x0).setCell ⟨q,1,none⟩ x1).setCell ⟨q,2,none⟩ x2).heap[q]? = some (.cells #[x0,x1,x2] 28) ∧ Below q w (((w.setCell ⟨q,0,none⟩ x0).setCell ⟨q,1,none⟩ x1).setCell ⟨q,2,none⟩ x2) ∧
      ∀ k,k ≠ q → (((w.setCell ⟨q,0,none⟩ x0).setCell ⟨q,1,none⟩ x1).setCell ⟨q,2,none⟩ x2).heap[k]? = w.heap[k]?:=by
  have h1:=heap_setCell_same w q 0 #[a,b,c] 28 x0 h
  have h2:=heap_setCell_same _ q 1 _ 28 x1 h1
  have h3:=heap_setCell_same _ q 2 _ 28 x2 h2
  refine ⟨by simpa using h3,((Below.refl q w).setCell (Nat.le_refl _) _ |>.setCell (Nat.le_refl _) _).setCell (Nat.le_refl _) _,fun k hk=>?_⟩
  rw [heap_setCell_other _ ⟨q,2,none⟩ k _ hk,heap_setCell_other _ ⟨q,1,none⟩ k _ hk,heap_setCell_other _ ⟨q,0,none⟩ k _ hk]
set_option maxHeartbeats 1000000 in
theorem copyPush_any (am : Option Addr) (cm : Nat) (m : List Ob) (au : Option Addr) (cu : Nat) (us : List Up) (f : Bool) (w : World) (hm : HoldsS w am m) (hml : m.length ≤ 1000) (hx : ∀ x ∈ m,x.links.length ≤ 1000) (hu : HoldsU w au us) (hul : us.length ≤ 900) :
    Calls Tryz.prog 132 #[pushV am m.length cm au us.length cu f] w fun e w'=>∃ a1 c1 a2 c2,e = .returned (pushV a1 m.length c1 a2 us.length c2 f) ∧ FreshP w' w.heap.size m us a1 c1 a2 c2 ∧ Below w.heap.size w w':=by
  have hB:=below_alloc2 w (.cells #[.slice am m.length cm,.slice au us.length cu,.bool f] 28) zero40
  obtain ⟨hk1,hk2⟩ : ((w.alloc (.cells #[.slice am m.length cm,.slice au us.length cu,.bool f] 28)).alloc zero40).heap[w.heap.size]? = some (.cells #[.slice am m.length cm,.slice au us.length cu,.bool f] 28) ∧ ((w.alloc (.cells #[.slice am m.length cm,.slice au us.length cu,.bool f] 28)).alloc zero40).heap[w.heap.size + 1]? = some zero40:=by
    have hA2:=below_alloc (w.alloc (.cells #[.slice am m.length cm,.slice au us.length cu,.bool f] 28)) zero40
    refine ⟨(hA2.block _ (by simp)).trans (heap_alloc_new w _),?_⟩
    have:=heap_alloc_new (w.alloc (.cells #[.slice am m.length cm,.slice au us.length cu,.bool f] 28)) zero40
    rwa [show (w.alloc (.cells #[.slice am m.length cm,.slice au us.length cu,.bool f] 28)).heap.size = w.heap.size + 1 by simp] at this
  obtain ⟨y0,y1,y2⟩:=c3_of hk1
  have hsz0 : ((w.alloc (.cells #[.slice am m.length cm,.slice au us.length cu,.bool f] 28)).alloc zero40).heap.size = w.heap.size + 2:=by simp
  have Hz : Hid (w.heap.size + 2 ≤ ((w.alloc (.cells #[.slice am m.length cm,.slice au us.length cu,.bool f] 28)).alloc zero40).heap.size):=by unfold Hid;omega
  have hmB:=hm.below hB
  have huB:=hu.below hB
  go_enter Tryz.func132,Tryz.ntmps132
  go_wp2_with fail
  generalize (w.alloc (.cells #[.slice am m.length cm,.slice au us.length cu,.bool f] 28)).alloc zero40 = W0 at *
  refine (objects_any am cm m W0 hmB hml hx).mono ?_
  rintro e W1 ⟨v1,rs,rfl,hrs,O1,hb1⟩
  obtain ⟨a1,c1,rfl⟩:=objs_slice hrs O1
  have hB1:=hB.trans (hb1.mono hB.size)
  have k11:=(hb1.block _ (heap_lt hk1)).trans hk1
  have k21:=(hb1.block _ (heap_lt hk2)).trans hk2
  have huB1:=hu.below hB1
  -- the store of the objects
  have s1:=heap_setCell_same W1 w.heap.size 0 _ 28 (.slice a1 m.length c1) k11
  have kk1:=(heap_setCell_other W1 ⟨w.heap.size,0,none⟩ (w.heap.size + 1) (.slice a1 m.length c1) (by simp)).trans k21
  have hB2 : Below w.heap.size w (W1.setCell ⟨w.heap.size,0,none⟩ (.slice a1 m.length c1)):=hB1.setCell (Nat.le_refl _) _
  have O2:=O1.keep (setcell_size W1 ⟨w.heap.size,0,none⟩ (.slice a1 m.length c1)) (setcell_high W1 w.heap.size 0 W0.heap.size (.slice a1 m.length c1) (by omega))
  have hs2 : W0.heap.size ≤ (W1.setCell ⟨w.heap.size,0,none⟩ (.slice a1 m.length c1)).heap.size:=Nat.le_trans hb1.size (setcell_size _ _ _)
  have k2 : (W1.setCell ⟨w.heap.size,0,none⟩ (.slice a1 m.length c1)).heap[w.heap.size]? = some (.cells #[.slice a1 m.length c1,.slice au us.length cu,.bool f] 28):=by simpa using s1
  obtain ⟨x0,x1,x2⟩:=c3_of k11
  have f11:=f_of (o:=0) k11
  clear hk1 hk2 y0 y1 y2 hmB huB O1 hb1 hB1 k21 s1 hsz0 hm
  obtain ⟨z0,z1,z2⟩:=c3_of k2
  obtain ⟨a2,c2,W3,hr3,o3,hb3⟩:=app_ups_nil (W1.setCell ⟨w.heap.size,0,none⟩ (.slice a1 m.length c1)) 26 au cu us (hu.below hB2) hul
  have k3:=(hb3.block _ (heap_lt k2)).trans k2
  have kk3:=(hb3.block _ (heap_lt kk1)).trans kk1
  have hB3:=hB2.trans (hb3.mono hB2.size)
  have O3:=O2.below hb3
  obtain ⟨t0,t1,t2⟩:=c3_of k3
  have f31:=f_of (o:=1) k3
  have s4:=heap_setCell_same W3 w.heap.size 1 _ 28 (.slice a2 us.length c2) k3
  have k4 : (W3.setCell ⟨w.heap.size,1,none⟩ (.slice a2 us.length c2)).heap[w.heap.size]? = some (.cells #[.slice a1 m.length c1,.slice a2 us.length c2,.bool f] 28):=by simpa using s4
  have kk4:=(heap_setCell_other W3 ⟨w.heap.size,1,none⟩ (w.heap.size + 1) (.slice a2 us.length c2) (by simp)).trans kk3
  have O4:=O3.keep (setcell_size W3 ⟨w.heap.size,1,none⟩ (.slice a2 us.length c2)) (setcell_high W3 w.heap.size 1 W0.heap.size (.slice a2 us.length c2) (by have:=Hz.out;omega))
  have p4:=ownsRow_high (w':=W3.setCell ⟨w.heap.size,1,none⟩ (.slice a2 us.length c2)) (ownsRow_from o3 hs2) (setcell_high W3 w.heap.size 1 W0.heap.size (.slice a2 us.length c2) (by have:=Hz.out;omega))
  have hB4 : Below w.heap.size w (W3.setCell ⟨w.heap.size,1,none⟩ (.slice a2 us.length c2)):=hB3.setCell (Nat.le_refl _) _
  obtain ⟨v0,v1,v2⟩:=c3_of k4
  have g0:=f_of (o:=0) kk4
  have g1:=f_of (o:=1) kk4
  have g2:=f_of (o:=2) kk4
  obtain ⟨u0,u1,u2⟩:=c3_of kk4
  have hb5:=set3_block (W3.setCell ⟨w.heap.size,1,none⟩ (.slice a2 us.length c2)) (w.heap.size + 1) (.slice a1 m.length c1) (.slice a2 us.length c2) (.bool f) kk4
  obtain ⟨n0,n1,n2⟩:=c3_of hb5.1
  have HF : Hid (FreshP ((((W3.setCell ⟨w.heap.size,1,none⟩ (.slice a2 us.length c2)).setCell ⟨w.heap.size + 1,0,none⟩ (.slice a1 m.length c1)).setCell ⟨w.heap.size + 1,1,none⟩ (.slice a2 us.length c2)).setCell ⟨w.heap.size + 1,2,none⟩ (.bool f)) w.heap.size m us a1 c1 a2 c2 ∧ Below w.heap.size w ((((W3.setCell ⟨w.heap.size,1,none⟩ (.slice a2 us.length c2)).setCell ⟨w.heap.size + 1,0,none⟩ (.slice a1 m.length c1)).setCell ⟨w.heap.size + 1,1,none⟩ (.slice a2 us.length c2)).setCell ⟨w.heap.size + 1,2,none⟩ (.bool f))):=by
    have hz : w.heap.size + 2 ≤ W0.heap.size:=Hz.out
    have h1 : FreshP (W3.setCell ⟨w.heap.size,1,none⟩ (.slice a2 us.length c2)) W0.heap.size m us a1 c1 a2 c2:=⟨⟨rs,hrs,O4⟩,p4⟩
    exact ⟨(h1.keep hb5.2.1.size (fun k hk=>hb5.2.2 k (by omega))).from (by omega),hB4.trans (hb5.2.1.mono (by omega))⟩
  clear hb5 hB4 p4 O4 kk4 k4 s4 O3 hB3 kk3 k3 o3 hb3 hB2 O2 hs2 k2 kk1 k11 hrs hu
  go_wp2_with (at_builtin;refine wpList_append_g (by rfl) (.const (.slice none 0 0)) (.tmp 8) (by rfl) _ _ (by rfl) (by rfl) hr3 ?_)
  refine bodyPost_ret (v:=pushV a1 m.length c1 a2 us.length c2 f) (by simp [results,Tryz.results132,go_sem,n0,n1,n2]) rfl ?_
  exact ⟨_,_,_,_,rfl,HF.out.1,HF.out.2⟩
end

section
open Go.RowKit
set_option maxRecDepth 100000
structure FreshR (w : World) (z : Nat) (s : List Ob) (l : List Rf) (m : List Ob) (us : List Up) (aS : Option Addr) (cs : Nat) (al : Option Addr) (cl : Nat) (a1 : Option Addr) (c1 : Nat) (a2 : Option Addr) (c2 : Nat) : Prop where
  objs : ∃ rs,rs.map Pl.x = s ∧ Objs w z (.slice aS s.length cs) rs
  refs : w.ownsRow z 65 2 (.slice al l.length cl) l.length (rowR l)
  push : FreshP w z m us a1 c1 a2 c2
theorem FreshR.keep {w w' : World} {z : Nat} {s : List Ob} {l : List Rf} {m : List Ob} {us : List Up} {aS al a1 a2 : Option Addr} {cs cl c1 c2 : Nat} (h : FreshR w z s l m us aS cs al cl a1 c1 a2 c2) (hs : w.heap.size ≤ w'.heap.size) (hk : ∀ k,z ≤ k → w'.heap[k]? = w.heap[k]?) : FreshR w' z s l m us aS cs al cl a1 c1 a2 c2:=by
  obtain ⟨rs,e,o⟩:=h.objs
  exact ⟨⟨rs,e,o.keep hs hk⟩,ownsRow_high h.refs hk,h.push.keep hs hk⟩
theorem FreshR.below {w w' : World} {z : Nat} {s : List Ob} {l : List Rf} {m : List Ob} {us : List Up} {aS al a1 a2 : Option Addr} {cs cl c1 c2 : Nat} (h : FreshR w z s l m us aS cs al cl a1 c1 a2 c2) (hb : Below w.heap.size w w') : FreshR w' z s l m us aS cs al cl a1 c1 a2 c2:=by
  obtain ⟨rs,e,o⟩:=h.objs
  exact ⟨⟨rs,e,o.below hb⟩,ownsRow_below h.refs hb,h.push.below hb⟩
theorem FreshR.from {w : World} {z z' : Nat} {s : List Ob} {l : List Rf} {m : List Ob} {us : List Up} {aS al a1 a2 : Option Addr} {cs cl c1 c2 : Nat} (h : FreshR w z s l m us aS cs al cl a1 c1 a2 c2) (hz : z' ≤ z) : FreshR w z' s l m us aS cs al cl a1 c1 a2 c2:=by
  obtain ⟨rs,e,o⟩:=h.objs
  exact ⟨⟨rs,e,o.from hz⟩,ownsRow_from h.refs hz,h.push.from hz⟩
theorem FreshR.holds {w : World} {z : Nat} {s : List Ob} {l : List Rf} {m : List Ob} {us : List Up} {aS al a1 a2 : Option Addr} {cs cl c1 c2 : Nat} (h : FreshR w z s l m us aS cs al cl a1 c1 a2 c2) : HoldsS w aS s ∧ HoldsR w al l ∧ HoldsS w a1 m ∧ HoldsU w a2 us:=by
  obtain ⟨rs,e,o⟩:=h.objs
  obtain ⟨a',c',q,hu⟩:=ownR_reads h.refs
  cases q
  exact ⟨o.list e,hu,h.push.holds.1,h.push.holds.2⟩
abbrev zero28 : Obj:=.cells #[.slice none 0 0,.slice none 0 0,.int .i64 0,.int .i64 0,.slice none 0 0,.slice none 0 0,.bool false] 36
abbrev repB (aS : Option Addr) (ns cs : Nat) (al : Option Addr) (nl cl : Nat) (g ph : Int) (a1 : Option Addr) (n1 c1 : Nat) (a2 : Option Addr) (n2 c2 : Nat) (f : Bool) (t : TypeId) : Obj:=.cells #[.slice aS ns cs,.slice al nl cl,.int .i64 g,.int .i64 ph,.slice a1 n1 c1,.slice a2 n2 c2,.bool f] t
theorem set7_block (w : World) (q t : Nat) (x0 x1 x2 x3 x4 x5 x6 : Value) {y0 y1 y2 y3 y4 y5 y6 : Value} (h : w.heap[q]? = some (.cells #[y0,y1,y2,y3,y4,y5,y6] t)) :
    (((((((w.setCell ⟨q,0,none⟩ x0).setCell ⟨q,1,none⟩ x1).setCell ⟨q,2,none⟩ x2).setCell ⟨q,3,none⟩ x3).setCell ⟨q,4,none⟩ x4).setCell ⟨q,5,none⟩ x5).setCell ⟨q,6,none⟩ x6).heap[q]? = some (.cells #[x0,x1,x2,x3,x4,x5,x6] t) ∧
    Below q w (((((((w.setCell ⟨q,0,none⟩ x0).setCell ⟨q,1,none⟩ x1).setCell ⟨q,2,none⟩ x2).setCell ⟨q,3,none⟩ x3).setCell ⟨q,4,none⟩ x4).setCell ⟨q,5,none⟩ x5).setCell ⟨q,6,none⟩ x6) ∧
      ∀ k,k ≠ q → (((((((w.setCell ⟨q,0,none⟩ x0).setCell ⟨q,1,none⟩ x1).setCell ⟨q,2,none⟩ x2).setCell ⟨q,3,none⟩ x3).setCell ⟨q,4,none⟩ x4).setCell ⟨q,5,none⟩ x5).setCell ⟨q,6,none⟩ x6).heap[k]? = w.heap[k]?:=by
  have h1:=heap_setCell_same w q 0 _ t x0 h
  have h2:=heap_setCell_same _ q 1 _ t x1 h1
  have h3:=heap_setCell_same _ q 2 _ t x2 h2
  have h4:=heap_setCell_same _ q 3 _ t x3 h3
  have h5:=heap_setCell_same _ q 4 _ t x4 h4
  have h6:=heap_setCell_same _ q 5 _ t x5 h5
  have h7:=heap_setCell_same _ q 6 _ t x6 h6
  refine ⟨by simpa using h7,((((((Below.refl q w).setCell (Nat.le_refl _) _ |>.setCell (Nat.le_refl _) _).setCell (Nat.le_refl _) _).setCell (Nat.le_refl _) _).setCell (Nat.le_refl _) _).setCell (Nat.le_refl _) _).setCell (Nat.le_refl _) _,fun k hk=>?_⟩
  rw [heap_setCell_other _ ⟨q,6,none⟩ k _ hk,heap_setCell_other _ ⟨q,5,none⟩ k _ hk,heap_setCell_other _ ⟨q,4,none⟩ k _ hk,heap_setCell_other _ ⟨q,3,none⟩ k _ hk,heap_setCell_other _ ⟨q,2,none⟩ k _ hk,heap_setCell_other _ ⟨q,1,none⟩ k _ hk,heap_setCell_other _ ⟨q,0,none⟩ k _ hk]
theorem set456_block (w : World) (q t : Nat) (x4 x5 x6 : Value) {y0 y1 y2 y3 y4 y5 y6 : Value} (h : w.heap[q]? = some (.cells #[y0,y1,y2,y3,y4,y5,y6] t)) :
    (((w.setCell ⟨q,4,none⟩ x4).setCell ⟨q,5,none⟩ x5).setCell ⟨q,6,none⟩ x6).heap[q]? = some (.cells #[y0,y1,y2,y3,x4,x5,x6] t) ∧
    Below q w (((w.setCell ⟨q,4,none⟩ x4).setCell ⟨q,5,none⟩ x5).setCell ⟨q,6,none⟩ x6) ∧
      ∀ k,k ≠ q → (((w.setCell ⟨q,4,none⟩ x4).setCell ⟨q,5,none⟩ x5).setCell ⟨q,6,none⟩ x6).heap[k]? = w.heap[k]?:=by
  have h5:=heap_setCell_same w q 4 _ t x4 h
  have h6:=heap_setCell_same _ q 5 _ t x5 h5
  have h7:=heap_setCell_same _ q 6 _ t x6 h6
  refine ⟨by simpa using h7,((Below.refl q w).setCell (Nat.le_refl _) _ |>.setCell (Nat.le_refl _) _).setCell (Nat.le_refl _) _,fun k hk=>?_⟩
  rw [heap_setCell_other _ ⟨q,6,none⟩ k _ hk,heap_setCell_other _ ⟨q,5,none⟩ k _ hk,heap_setCell_other _ ⟨q,4,none⟩ k _ hk]
theorem two_blocks (w : World) (A B : Obj) : ((w.alloc A).alloc B).heap[w.heap.size]? = some A ∧ ((w.alloc A).alloc B).heap[w.heap.size + 1]? = some B:=by
  have hA2:=below_alloc (w.alloc A) B
  refine ⟨(hA2.block _ (by simp)).trans (heap_alloc_new w _),?_⟩
  have:=heap_alloc_new (w.alloc A) B
  rwa [show (w.alloc A).heap.size = w.heap.size + 1 by simp] at this
set_option maxHeartbeats 4000000 in
theorem copyRep_any (aS : Option Addr) (cs : Nat) (s : List Ob) (al : Option Addr) (cl : Nat) (l : List Rf) (g ph : Int) (am : Option Addr) (cm : Nat) (m : List Ob) (au : Option Addr) (cu : Nat) (us : List Up) (f : Bool) (w : World)
    (hs : HoldsS w aS s) (hsl : s.length ≤ 1000) (hsx : ∀ x ∈ s,x.links.length ≤ 1000) (hl : HoldsR w al l) (hll : l.length ≤ 900) (hm : HoldsS w am m) (hml : m.length ≤ 1000) (hx : ∀ x ∈ m,x.links.length ≤ 1000) (hu : HoldsU w au us) (hul : us.length ≤ 900) :
    Calls Tryz.prog 75 #[replV aS s.length cs al l.length cl g ph am m.length cm au us.length cu f] w fun e w'=>∃ b0 d0 b1 d1 b2 d2 b3 d3,e = .returned (replV b0 s.length d0 b1 l.length d1 g ph b2 m.length d2 b3 us.length d3 f) ∧ FreshR w' w.heap.size s l m us b0 d0 b1 d1 b2 d2 b3 d3 ∧ Below w.heap.size w w':=by
  have hB:=below_alloc2 w (repB aS s.length cs al l.length cl g ph am m.length cm au us.length cu f 36) zero28
  obtain ⟨hk1,hk2⟩:=two_blocks w (repB aS s.length cs al l.length cl g ph am m.length cm au us.length cu f 36) zero28
  obtain ⟨y0,y1,y2,y3,y4,y5,y6⟩:=c7_of hk1
  have Hz : Hid (w.heap.size + 2 ≤ ((w.alloc (repB aS s.length cs al l.length cl g ph am m.length cm au us.length cu f 36)).alloc zero28).heap.size):=by unfold Hid;simp
  have hsB:=hs.below hB
  go_enter Tryz.func75,Tryz.ntmps75
  go_wp2_with fail
  generalize (w.alloc (repB aS s.length cs al l.length cl g ph am m.length cm au us.length cu f 36)).alloc zero28 = W0 at *
  refine (objects_any aS cs s W0 hsB hsl hsx).mono ?_
  rintro e W1 ⟨v1,rs,rfl,hrs,O1,hb1⟩
  obtain ⟨b0,d0,rfl⟩:=objs_slice hrs O1
  have hB1:=hB.trans (hb1.mono hB.size)
  have k11:=(hb1.block _ (heap_lt hk1)).trans hk1
  have k21:=(hb1.block _ (heap_lt hk2)).trans hk2
  have hz1 : w.heap.size < W0.heap.size:=by have:=Hz.out;omega
  -- the store of the objects
  obtain ⟨x0,x1,x2,x3,x4,x5,x6⟩:=c7_of k11
  have f11:=f_of (o:=0) k11
  have s1:=heap_setCell_same W1 w.heap.size 0 _ 36 (.slice b0 s.length d0) k11
  have k2 : (W1.setCell ⟨w.heap.size,0,none⟩ (.slice b0 s.length d0)).heap[w.heap.size]? = some (repB b0 s.length d0 al l.length cl g ph am m.length cm au us.length cu f 36):=by simpa using s1
  have kk2:=(heap_setCell_other W1 ⟨w.heap.size,0,none⟩ (w.heap.size + 1) (.slice b0 s.length d0) (by simp)).trans k21
  have hB2 : Below w.heap.size w (W1.setCell ⟨w.heap.size,0,none⟩ (.slice b0 s.length d0)):=hB1.setCell (Nat.le_refl _) _
  have O2:=O1.keep (setcell_size W1 ⟨w.heap.size,0,none⟩ (.slice b0 s.length d0)) (setcell_high W1 w.heap.size 0 W0.heap.size (.slice b0 s.length d0) hz1)
  have hs2 : W0.heap.size ≤ (W1.setCell ⟨w.heap.size,0,none⟩ (.slice b0 s.length d0)).heap.size:=Nat.le_trans hb1.size (setcell_size _ _ _)
  clear hk1 hk2 y0 y1 y2 y3 y4 y5 y6 hsB O1 hb1 hB1 k21 s1 k11
  obtain ⟨z0,z1,z2,z3,z4,z5,z6⟩:=c7_of k2
  obtain ⟨b1,d1,W3,hr3,o3,hb3⟩:=app_refs_nil (W1.setCell ⟨w.heap.size,0,none⟩ (.slice b0 s.length d0)) 34 al cl l (hl.below hB2) hll
  have k3:=(hb3.block _ (heap_lt k2)).trans k2
  have kk3:=(hb3.block _ (heap_lt kk2)).trans kk2
  have hB3:=hB2.trans (hb3.mono hB2.size)
  have O3:=O2.below hb3
  have o3':=ownsRow_from o3 hs2
  have hs3:=Nat.le_trans hs2 hb3.size
  obtain ⟨t0,t1,t2,t3,t4,t5,t6⟩:=c7_of k3
  have f31:=f_of (o:=1) k3
  have s4:=heap_setCell_same W3 w.heap.size 1 _ 36 (.slice b1 l.length d1) k3
  have k4 : (W3.setCell ⟨w.heap.size,1,none⟩ (.slice b1 l.length d1)).heap[w.heap.size]? = some (repB b0 s.length d0 b1 l.length d1 g ph am m.length cm au us.length cu f 36):=by simpa using s4
  have kk4:=(heap_setCell_other W3 ⟨w.heap.size,1,none⟩ (w.heap.size + 1) (.slice b1 l.length d1) (by simp)).trans kk3
  have O4:=O3.keep (setcell_size W3 ⟨w.heap.size,1,none⟩ (.slice b1 l.length d1)) (setcell_high W3 w.heap.size 1 W0.heap.size (.slice b1 l.length d1) hz1)
  have p4:=ownsRow_high (w':=W3.setCell ⟨w.heap.size,1,none⟩ (.slice b1 l.length d1)) o3' (setcell_high W3 w.heap.size 1 W0.heap.size (.slice b1 l.length d1) hz1)
  have hB4 : Below w.heap.size w (W3.setCell ⟨w.heap.size,1,none⟩ (.slice b1 l.length d1)):=hB3.setCell (Nat.le_refl _) _
  have hs4 : W0.heap.size ≤ (W3.setCell ⟨w.heap.size,1,none⟩ (.slice b1 l.length d1)).heap.size:=Nat.le_trans hs3 (setcell_size _ _ _)
  clear s4 O3 hB3 kk3 k3 o3 o3' hb3 hB2 O2 hs2 k2 kk2 hs3
  go_wp2_with (at_builtin;refine wpList_append_g (by rfl) (.const (.slice none 0 0)) (.tmp 8) (by rfl) _ _ (by rfl) (by rfl) hr3 ?_)
  generalize W3.setCell ⟨w.heap.size,1,none⟩ (.slice b1 l.length d1) = W4 at *
  clear hr3 f11 f31 x0 x1 x2 x3 x4 x5 x6 z0 z1 z2 z3 z4 z5 z6 t0 t1 t2 t3 t4 t5 t6
  refine (copyPush_any am cm m au cu us f W4 (hm.below hB4) hml hx (hu.below hB4) hul).mono ?_
  rintro e W5 ⟨b2,d2,b3,d3,rfl,F5,hb5⟩
  have k5:=(hb5.block _ (heap_lt k4)).trans k4
  have kk5:=(hb5.block _ (heap_lt kk4)).trans kk4
  have hB5:=hB4.trans (hb5.mono hB4.size)
  have R5 : FreshR W5 W0.heap.size s l m us b0 d0 b1 d1 b2 d2 b3 d3:=⟨⟨rs,hrs,O4.below hb5⟩,ownsRow_below p4 hb5,F5.from hs4⟩
  clear F5 O4 p4 hb5 k4 kk4 hB4 hs4
  obtain ⟨v0,v1,v2,v3,v4,v5,v6⟩:=c7_of k5
  have g4:=f_of (o:=4) k5
  have g5:=f_of (o:=5) k5
  have g6:=f_of (o:=6) k5
  obtain ⟨k6,hb6,ho6⟩:=set456_block W5 w.heap.size 36 (.slice b2 m.length d2) (.slice b3 us.length d3) (.bool f) k5
  have kk6:=(ho6 (w.heap.size + 1) (by omega)).trans kk5
  have R6:=R5.keep hb6.size (fun k hk=>ho6 k (by omega))
  have hB6:=hB5.trans (hb6.mono (Nat.le_refl _))
  obtain ⟨n0,n1,n2,n3,n4,n5,n6⟩:=c7_of k6
  obtain ⟨q0,q1,q2,q3,q4,q5,q6⟩:=c7_of kk6
  have e0:=f_of (o:=0) kk6
  have e1:=f_of (o:=1) kk6
  have e2:=f_of (o:=2) kk6
  have e3:=f_of (o:=3) kk6
  have e4:=f_of (o:=4) kk6
  have e5:=f_of (o:=5) kk6
  have e6:=f_of (o:=6) kk6
  obtain ⟨k7,hb7,ho7⟩:=set7_block (((W5.setCell ⟨w.heap.size,4,none⟩ (.slice b2 m.length d2)).setCell ⟨w.heap.size,5,none⟩ (.slice b3 us.length d3)).setCell ⟨w.heap.size,6,none⟩ (.bool f)) (w.heap.size + 1) 36 (.slice b0 s.length d0) (.slice b1 l.length d1) (.int .i64 g) (.int .i64 ph) (.slice b2 m.length d2) (.slice b3 us.length d3) (.bool f) kk6
  obtain ⟨j0,j1,j2,j3,j4,j5,j6⟩:=c7_of k7
  have HF : Hid (_ ∧ _):=⟨(R6.keep hb7.size (fun k hk=>ho7 k (by have:=Hz.out;omega))).from (Nat.le_of_lt hz1),hB6.trans (hb7.mono (by omega))⟩
  clear hb7 ho7 k7 kk6 R6 hB6 k6 hb6 ho6 R5 kk5 k5 hB5 hs hl hm hu
  go_wp2
  refine bodyPost_ret (v:=replV b0 s.length d0 b1 l.length d1 g ph b2 m.length d2 b3 us.length d3 f) (by simp [results,Tryz.results75,go_sem,j0,j1,j2,j3,j4,j5,j6]) rfl ?_
  exact ⟨_,_,_,_,_,_,_,_,rfl,HF.out.1,HF.out.2⟩
end

section
open Go.RowKit
set_option maxRecDepth 100000
def withoutB (m : List Ob) (us : List Up) (f : Bool) : Bool:=decide (m.length = 0) && decide (us.length = 0) && !f
set_option maxHeartbeats 1000000 in
theorem without_any (am : Option Addr) (cm : Nat) (m : List Ob) (au : Option Addr) (cu : Nat) (us : List Up) (f : Bool) (w : World) :
    Calls Tryz.prog 80 #[pushV am m.length cm au us.length cu f] w fun e w'=>e = .returned (.bool (withoutB m us f)) ∧ Below w.heap.size w w':=by
  have hA:=below_alloc w (.cells #[.slice am m.length cm,.slice au us.length cu,.bool f] 28)
  obtain ⟨y0,y1,y2⟩:=c3_of (heap_alloc_new w (.cells #[.slice am m.length cm,.slice au us.length cu,.bool f] 28))
  by_cases h1 : m.length = 0
  case neg =>
    have HW : Hid (withoutB m us f = false):=by simp [Hid,withoutB,h1]
    have z1 : ((m.length : Int) == 0) = false:=beq_eq_false_iff_ne.2 (by omega)
    clear h1
    go_enter Tryz.func80,Tryz.ntmps80
    go_wp2
    go_ret
    exact ⟨by rw [HW.out];rfl,hA⟩
  have z1 : ((m.length : Int) == 0) = true:=beq_iff_eq.2 (by omega)
  by_cases h2 : us.length = 0
  case neg =>
    have HW : Hid (withoutB m us f = false):=by simp [Hid,withoutB,h2]
    have z2 : ((us.length : Int) == 0) = false:=beq_eq_false_iff_ne.2 (by omega)
    clear h1 h2
    go_enter Tryz.func80,Tryz.ntmps80
    go_wp2
    go_ret
    exact ⟨by rw [HW.out];rfl,hA⟩
  have z2 : ((us.length : Int) == 0) = true:=beq_iff_eq.2 (by omega)
  have HW : Hid (withoutB m us f = !f):=by simp [Hid,withoutB,h1,h2]
  clear h1 h2
  go_enter Tryz.func80,Tryz.ntmps80
  go_wp2
  go_ret
  exact ⟨by rw [HW.out];rfl,hA⟩
def repE (s : List Ob) (l : List Rf) (g ph : Int) (m : List Ob) (us : List Up) (f : Bool) : Int :=
  if refsE l s ≠ 0 then refsE l s else if g < 0 ∨ 999 < g then 3 else if ph < 0 ∨ 2 < ph then 7 else if ph ≠ 0 then pushE m us else if withoutB m us f = true then 0 else 1
theorem repE_iff {s : List Ob} {l : List Rf} {g ph : Int} {m : List Ob} {us : List Up} {f : Bool} : repE s l g ph m us f = 0 ↔ refsE l s = 0 ∧ (0 ≤ g ∧ g ≤ 999) ∧ (0 ≤ ph ∧ ph ≤ 2) ∧ (ph ≠ 0 → pushE m us = 0) ∧ (ph = 0 → withoutB m us f = true):=by
  unfold repE
  split
  · rename_i h;exact ⟨fun e=>absurd e h,fun e=>absurd e.1 h⟩
  · rename_i h
    have h0 : refsE l s = 0:=Classical.byContradiction h
    split
    · rename_i h1;exact ⟨fun e=>(by cases e),fun e=>by omega⟩
    · rename_i h1
      split
      · rename_i h2;exact ⟨fun e=>(by cases e),fun e=>by omega⟩
      · rename_i h2
        split
        · rename_i h3;exact ⟨fun e=>⟨h0,by omega,by omega,fun _=>e,fun q=>absurd q h3⟩,fun e=>e.2.2.2.1 h3⟩
        · rename_i h3
          have h3' : ph = 0:=Classical.byContradiction h3
          split
          · rename_i h4;exact ⟨fun _=>⟨h0,by omega,by omega,fun q=>absurd q h3,fun _=>h4⟩,fun _=>rfl⟩
          · rename_i h4;exact ⟨fun e=>(by cases e),fun e=>absurd (e.2.2.2.2 h3') h4⟩
abbrev RB (aS : Option Addr) (cs : Nat) (s : List Ob) (al : Option Addr) (cl : Nat) (l : List Rf) (g ph : Int) (am : Option Addr) (cm : Nat) (m : List Ob) (au : Option Addr) (cu : Nat) (us : List Up) (f : Bool) : Obj:=repB aS s.length cs al l.length cl g ph am m.length cm au us.length cu f 36
abbrev RV (aS : Option Addr) (cs : Nat) (s : List Ob) (al : Option Addr) (cl : Nat) (l : List Rf) (g ph : Int) (am : Option Addr) (cm : Nat) (m : List Ob) (au : Option Addr) (cu : Nat) (us : List Up) (f : Bool) : Value:=replV aS s.length cs al l.length cl g ph am m.length cm au us.length cu f
structure RepH (w : World) (aS : Option Addr) (s : List Ob) (al : Option Addr) (l : List Rf) (am : Option Addr) (m : List Ob) (au : Option Addr) (us : List Up) : Prop where
  hs : HoldsS w aS s
  hl : HoldsR w al l
  hm : HoldsS w am m
  hu : HoldsU w au us
  ns : s.length ≤ 9223372036854775807
  nl : l.length ≤ 9223372036854775807
  nm : m.length ≤ 9223372036854775807
  nu : us.length ≤ 9223372036854775807
theorem RepH.below {w w' : World} {aS al am au : Option Addr} {s : List Ob} {l : List Rf} {m : List Ob} {us : List Up} (h : RepH w aS s al l am m au us) (hb : Below w.heap.size w w') : RepH w' aS s al l am m au us :=
  ⟨h.hs.below hb,h.hl.below hb,h.hm.below hb,h.hu.below hb,h.ns,h.nl,h.nm,h.nu⟩
set_option maxHeartbeats 2000000 in
theorem repCheck_any (aS : Option Addr) (cs : Nat) (s : List Ob) (al : Option Addr) (cl : Nat) (l : List Rf) (g ph : Int) (am : Option Addr) (cm : Nat) (m : List Ob) (au : Option Addr) (cu : Nat) (us : List Up) (f : Bool) (w : World) (hg : Glob w) (H : RepH w aS s al l am m au us) :
    Calls Tryz.prog 28 #[RV aS cs s al cl l g ph am cm m au cu us f] w fun e w'=>e = .returned (.int .i64 (repE s l g ph m us f)) ∧ Below w.heap.size w w':=by
  have hA:=below_alloc w (RB aS cs s al cl l g ph am cm m au cu us f)
  have hbk:=heap_alloc_new w (RB aS cs s al cl l g ph am cm m au cu us f)
  obtain ⟨y0,y1,y2,y3,y4,y5,y6⟩:=c7_of hbk
  have HE : Hid (repE s l g ph m us f = if refsE l s ≠ 0 then refsE l s else if g < 0 ∨ 999 < g then 3 else if ph < 0 ∨ 2 < ph then 7 else if ph ≠ 0 then pushE m us else if withoutB m us f = true then 0 else 1):=rfl
  have hrc:=refsCheck_any al cl l aS cs s _ (hg.below hA) (H.hl.below hA) H.nl (H.hs.below hA) H.ns
  go_enter Tryz.func28,Tryz.ntmps28
  go_wp2_with fail
  refine hrc.mono ?_
  clear hrc
  rintro e w1 ⟨rfl,hb1⟩
  have hB1:=hA.trans (hb1.mono hA.size)
  have k1:=(hb1.block _ (heap_lt hbk)).trans hbk
  clear hb1 hA hbk y0 y1 y2 y3 y4 y5 y6
  by_cases c1 : refsE l s = 0
  case neg =>
    have HR : Hid (repE s l g ph m us f = refsE l s):=by unfold Hid;rw [HE.out,if_pos c1]
    have z1 : (refsE l s != 0) = true:=by simpa using c1
    clear c1 k1
    go_wp2
    go_ret
    exact ⟨ret_int HR.out.symm,hB1⟩
  have HE1 : Hid (repE s l g ph m us f = if g < 0 ∨ 999 < g then 3 else if ph < 0 ∨ 2 < ph then 7 else if ph ≠ 0 then pushE m us else if withoutB m us f = true then 0 else 1):=by unfold Hid;rw [HE.out,if_neg (fun e=>e c1)]
  rw [c1]
  clear c1 HE
  obtain ⟨y0,y1,y2,y3,y4,y5,y6⟩:=c7_of k1
  by_cases kg : g < 0 ∨ 999 < g
  case pos =>
    have HR : Hid (repE s l g ph m us f = 3):=by unfold Hid;rw [HE1.out,if_pos kg]
    by_cases kn : g < 0
    · clear kg
      go_wp2
      go_ret
      exact ⟨ret_int HR.out.symm,hB1⟩
    · have kp : 999 < g:=by omega
      clear kg
      go_wp2
      go_ret
      exact ⟨ret_int HR.out.symm,hB1⟩
  have kn : ¬ g < 0:=by omega
  have kp : ¬ 999 < g:=by omega
  have HE2 : Hid (repE s l g ph m us f = if ph < 0 ∨ 2 < ph then 7 else if ph ≠ 0 then pushE m us else if withoutB m us f = true then 0 else 1):=by unfold Hid;rw [HE1.out,if_neg kg]
  clear kg HE1
  by_cases kh : ph < 0 ∨ 2 < ph
  case pos =>
    have HR : Hid (repE s l g ph m us f = 7):=by unfold Hid;rw [HE2.out,if_pos kh]
    by_cases kn2 : ph < 0
    · clear kh
      go_wp2
      go_ret
      exact ⟨ret_int HR.out.symm,hB1⟩
    · have kp2 : 2 < ph:=by omega
      clear kh
      go_wp2
      go_ret
      exact ⟨ret_int HR.out.symm,hB1⟩
  have kn2 : ¬ ph < 0:=by omega
  have kp2 : ¬ 2 < ph:=by omega
  have HE3 : Hid (repE s l g ph m us f = if ph ≠ 0 then pushE m us else if withoutB m us f = true then 0 else 1):=by unfold Hid;rw [HE2.out,if_neg kh]
  clear kh HE2
  by_cases k0 : ph = 0
  case neg =>
    have HR : Hid (repE s l g ph m us f = pushE m us):=by unfold Hid;rw [HE3.out,if_pos k0]
    have z1 : (ph != 0) = true:=by simpa using k0
    have hpc:=pcheck_any am cm m au cu us f w1 (hg.below hB1) (H.hm.below hB1) H.nm (H.hu.below hB1) H.nu
    clear k0
    go_wp2_with fail
    refine hpc.mono ?_
    clear hpc
    rintro e w2 ⟨rfl,hb2⟩
    have hB2:=hB1.trans (hb2.mono hB1.size)
    go_wp2
    go_ret
    exact ⟨ret_int HR.out.symm,hB2⟩
  have z1 : (ph != 0) = false:=by simpa using k0
  have HE4 : Hid (repE s l g ph m us f = if withoutB m us f = true then 0 else 1):=by unfold Hid;rw [HE3.out,if_neg (fun e=>e k0)]
  clear k0 HE3
  go_wp2_with fail
  refine (without_any am cm m au cu us f w1).mono ?_
  rintro e w2 ⟨rfl,hb2⟩
  have hB2:=hB1.trans (hb2.mono hB1.size)
  cases hq : withoutB m us f with
  | true =>
    have HR : Hid (repE s l g ph m us f = 0):=by unfold Hid;rw [HE4.out,if_pos hq]
    clear hq
    go_wp2
    go_ret
    exact ⟨ret_int HR.out.symm,hB2⟩
  | false =>
    have HR : Hid (repE s l g ph m us f = 1):=by unfold Hid;rw [HE4.out,hq];rfl
    clear hq
    go_wp2
    go_ret
    exact ⟨ret_int HR.out.symm,hB2⟩
end

section
open Go.RowKit
set_option maxRecDepth 100000
def AddPost2 (l m : List Ob) (w : World) (e : Ending) (w' : World) : Prop :=
  Below w.heap.size w w' ∧ ((addE l m ≠ 0 ∧ e = .returned (.tuple #[.slice none 0 0,.int .i64 (addE l m)])) ∨
    (addE l m = 0 ∧ ∃ a' c',e = .returned (.tuple #[.slice a' (takeRes l m).length c',.int .i64 0]) ∧ HoldsS w' a' (takeRes l m) ∧ (takeRes l m).length ≤ c' ∧ Room w' a' (takeRes l m) ∧ ∃ rs,rs.map Pl.x = takeRes l m ∧ Objs w' w.heap.size (.slice a' (takeRes l m).length c') rs))
theorem AddPost2.bad {l m : List Ob} {w w' : World} {r : Int} (hr : addE l m = r) (h0 : r ≠ 0) (hb : Below w.heap.size w w') : AddPost2 l m w (.returned (.tuple #[.slice none 0 0,.int .i64 r])) w' :=
  ⟨hb,.inl ⟨by rw [hr];exact h0,by rw [hr]⟩⟩
set_option maxHeartbeats 1000000 in
theorem add_fresh (a : Option Addr) (c : Nat) (l : List Ob) (a2 : Option Addr) (c2 : Nat) (m : List Ob) (w : World) (h : HoldsS w a l) (hl : l.length ≤ 9223372036854775807) (h2 : HoldsS w a2 m) (hm : m.length ≤ 9223372036854775807) :
    Calls Tryz.prog 77 #[.slice a l.length c,.slice a2 m.length c2] w (AddPost2 l m w):=by
  have hmf : ∀ (fn : Fn) (first cap : Array Value) (w : World),(Instr.makeFunc fn first cap).run Tryz.prog w = .ok (.func fn first cap) w:=fun _ _ _ _=>rfl
  go_enter Tryz.func77,Tryz.ntmps77
  go_wp2_with fail
  refine (checkS_any a c l w h hl).mono ?_
  rintro e w1 ⟨rfl,hb1⟩
  by_cases k1 : checkS l = 0
  case neg =>
    have HR : Hid (addE l m = checkS l):=by unfold Hid;rw [addE,if_pos k1]
    have HZ : Hid (checkS l ≠ 0):=k1
    have hz : (checkS l != 0) = true:=by simpa using k1
    clear k1
    go_wp2
    refine bodyPost_ret (v:=.tuple #[.slice none 0 0,.int .i64 (checkS l)]) (by simp [results,Tryz.results77,go_sem]) rfl ?_
    exact AddPost2.bad HR.out HZ.out hb1
  have K1 : Hid (checkS l = 0):=k1
  rw [k1]
  clear k1
  by_cases k2 : (12 : Int) < (m.length : Int)
  case pos =>
    have HR : Hid (addE l m = 2):=by unfold Hid;rw [addE,if_neg (fun e=>e K1.out),if_pos (by omega)]
    go_wp2
    refine bodyPost_ret (v:=.tuple #[.slice none 0 0,.int .i64 2]) (by simp [results,Tryz.results77,go_sem]) rfl ?_
    exact AddPost2.bad HR.out (by simp) hb1
  go_wp2_with fail
  refine (each_obj a2 c2 m w1 (h2.below hb1) hm).mono ?_
  rintro e w2 ⟨rfl,hb2⟩
  have hB2:=hb1.trans (hb2.mono hb1.size)
  by_cases k3 : eachE m = 0
  case neg =>
    have HR : Hid (addE l m = eachE m):=by unfold Hid;rw [addE,if_neg (fun e=>e K1.out),if_neg (by omega),if_pos k3]
    have HZ : Hid (eachE m ≠ 0):=k3
    have hz : (eachE m != 0) = true:=by simpa using k3
    clear k3
    go_wp2
    refine bodyPost_ret (v:=.tuple #[.slice none 0 0,.int .i64 (eachE m)]) (by simp [results,Tryz.results77,go_sem]) rfl ?_
    exact AddPost2.bad HR.out HZ.out hB2
  have K3 : Hid (eachE m = 0):=k3
  rw [k3]
  clear k3
  have hll : l.length ≤ 40:=(checkS_zero K1.out).1
  go_wp2_with fail
  refine (newShelf_any a c l w2 (h.below hB2) (by omega) (fun x hx=>err_links (checkS_err K1.out x hx))).mono ?_
  rintro e w3 ⟨p,v,rs,rfl,hrs,SH,hb3⟩
  have HRS : Hid (rs.map Pl.x = l):=hrs
  clear hrs
  have hB3:=hB2.trans (hb3.mono hB2.size)
  have hpw : w.heap.size ≤ w2.heap.size:=hB2.size
  go_wp2_with fail
  refine (each_take a2 c2 m l w2.heap.size p v rs w w3 h2 hB3 hpw SH HRS.out (by omega) (fun x hx=>err_links (eachE_all K3.out x hx))).mono ?_
  rintro e w4 ⟨rfl,hres,hB4⟩
  by_cases k4 : takeErr l m = 0
  case neg =>
    have HR : Hid (addE l m = takeErr l m):=by unfold Hid;rw [addE,if_neg (fun e=>e K1.out),if_neg (by omega),if_neg (fun e=>e K3.out),if_pos k4]
    have HZ : Hid (takeErr l m ≠ 0):=k4
    have hz : (takeErr l m != 0) = true:=by simpa using k4
    clear k4 hres
    go_wp2
    refine bodyPost_ret (v:=.tuple #[.slice none 0 0,.int .i64 (takeErr l m)]) (by simp [results,Tryz.results77,go_sem]) rfl ?_
    exact AddPost2.bad HR.out HZ.out hB4
  obtain ⟨v',rs',hrs',SH'⟩:=hres k4
  have HA : Hid (addE l m = checkS (takeRes l m)):=by unfold Hid;rw [addE,if_neg (fun e=>e K1.out),if_neg (by omega),if_neg (fun e=>e K3.out),if_neg (fun e=>e k4)]
  rw [k4]
  clear k4 hres SH hb3 hb2 hb1 hB2 hB3
  obtain ⟨a',c',rfl,hH',hc'⟩:=SH'.reads
  have hcell:=SH'.cell
  rw [hrs'] at hH' hcell
  have hRL : (takeRes l m).length ≤ c':=by rw [← hrs',List.length_map];exact hc'
  have hR1 : (takeRes l m).length ≤ 9223372036854775807:=by have:=takeRes_length m l;omega
  have hpl:=SH'.lt
  have hRm : Room w4 a' (takeRes l m):=by rw [← hrs'];exact SH'.room
  have hOb : ∃ rs,rs.map Pl.x = takeRes l m ∧ Objs w4 w.heap.size (.slice a' (takeRes l m).length c') rs:=⟨rs',hrs',by have:=SH'.objs;rw [hrs'] at this;exact this.from hpw⟩
  clear hrs' hc' SH'
  go_wp2_with fail
  refine (checkS_any a' c' (takeRes l m) w4 hH' hR1).mono ?_
  rintro e w5 ⟨rfl,hb5⟩
  have hB5:=hB4.trans (hb5.mono hB4.size)
  have hcell5:=(hb5.cell (p:=⟨p,0,none⟩) hpl).trans hcell
  have hH5:=hH'.below hb5
  have hRm5 : Hid (Room w5 a' (takeRes l m) ∧ ∃ rs,rs.map Pl.x = takeRes l m ∧ Objs w5 w.heap.size (.slice a' (takeRes l m).length c') rs):=⟨hRm.below hb5,by obtain ⟨rs,q1,q2⟩:=hOb;exact ⟨rs,q1,q2.below hb5⟩⟩
  clear hOb
  clear hb5 hcell hH' hB4 hRm
  by_cases k5 : checkS (takeRes l m) = 0
  case neg =>
    have HZ : Hid (checkS (takeRes l m) ≠ 0):=k5
    have hz : (checkS (takeRes l m) != 0) = true:=by simpa using k5
    clear k5
    go_wp2
    refine bodyPost_ret (v:=.tuple #[.slice none 0 0,.int .i64 (checkS (takeRes l m))]) (by simp [results,Tryz.results77,go_sem]) rfl ?_
    exact AddPost2.bad HA.out HZ.out hB5
  have HF : Hid (addE l m = 0 ∧ HoldsS w5 a' (takeRes l m) ∧ (takeRes l m).length ≤ c' ∧ Below w.heap.size w w5):=⟨HA.out.trans k5,hH5,hRL,hB5⟩
  rw [k5]
  clear k5 hH5 hB5
  go_wp2
  refine bodyPost_ret (v:=.tuple #[.slice a' (takeRes l m).length c',.int .i64 0]) (by simp [results,Tryz.results77,go_sem]) rfl ?_
  exact ⟨HF.out.2.2.2,.inr ⟨HF.out.1,a',c',rfl,HF.out.2.1,HF.out.2.2.1,hRm5.out⟩⟩
def TryPost2 (s : List Ob) (l : List Rf) (m : List Ob) (us : List Up) (f : Bool) (w : World) (e : Ending) (w' : World) : Prop :=
  Below w.heap.size w w' ∧ ((tryE s l m us f ≠ 0 ∧ e = .returned (.tuple #[.slice none 0 0,.slice none 0 0,.int .i64 (tryE s l m us f)])) ∨
    (tryE s l m us f = 0 ∧ ∃ a c a' c',e = .returned (.tuple #[.slice a (takeRes s m).length c,.slice a' (runL l us).length c',.int .i64 0]) ∧ HoldsS w' a (takeRes s m) ∧ (∃ rs,rs.map Pl.x = takeRes s m ∧ Objs w' w.heap.size (.slice a (takeRes s m).length c) rs) ∧ HoldsR w' a' (runL l us) ∧ w'.ownsRow w.heap.size 65 2 (.slice a' (runL l us).length c') (runL l us).length (rowR (runL l us))))
theorem TryPost2.bad {s : List Ob} {l : List Rf} {m : List Ob} {us : List Up} {f : Bool} {w w' : World} {r : Int} (hr : tryE s l m us f = r) (h0 : r ≠ 0) (hb : Below w.heap.size w w') : TryPost2 s l m us f w (.returned (.tuple #[.slice none 0 0,.slice none 0 0,.int .i64 r])) w' :=
  ⟨hb,.inl ⟨by rw [hr];exact h0,by rw [hr]⟩⟩
set_option maxHeartbeats 2000000 in
theorem try_fresh (aS : Option Addr) (cs : Nat) (s : List Ob) (al : Option Addr) (cl : Nat) (l : List Rf) (g ph : Int) (a1 : Option Addr) (n1 c1 : Nat) (a2 : Option Addr) (n2 c2 : Nat) (f0 : Bool) (am : Option Addr) (cm : Nat) (m : List Ob) (au : Option Addr) (cu : Nat) (us : List Up) (f : Bool) (w : World) (hg : Glob w)
    (hs : HoldsS w aS s) (hsl : s.length ≤ 9223372036854775807) (hl : HoldsR w al l) (hll : l.length ≤ 9223372036854775807) (hm : HoldsS w am m) (hml : m.length ≤ 9223372036854775807) (hu : HoldsU w au us) (hul : us.length ≤ 9223372036854775807) :
    Calls Tryz.prog 208 #[replV aS s.length cs al l.length cl g ph a1 n1 c1 a2 n2 c2 f0,pushV am m.length cm au us.length cu f] w (TryPost2 s l m us f w):=by
  have HE : Hid (tryE s l m us f = if pushE m us ≠ 0 then pushE m us else if addE s m ≠ 0 then addE s m else applyE l (takeRes s m) us f):=rfl
  have hB:=below_alloc2 w (.cells #[.slice aS s.length cs,.slice al l.length cl,.int .i64 g,.int .i64 ph,.slice a1 n1 c1,.slice a2 n2 c2,.bool f0] 36) (.cells #[.slice am m.length cm,.slice au us.length cu,.bool f] 28)
  have hA2:=below_alloc (w.alloc (.cells #[.slice aS s.length cs,.slice al l.length cl,.int .i64 g,.int .i64 ph,.slice a1 n1 c1,.slice a2 n2 c2,.bool f0] 36)) (.cells #[.slice am m.length cm,.slice au us.length cu,.bool f] 28)
  have hk2 : ((w.alloc (.cells #[.slice aS s.length cs,.slice al l.length cl,.int .i64 g,.int .i64 ph,.slice a1 n1 c1,.slice a2 n2 c2,.bool f0] 36)).alloc (.cells #[.slice am m.length cm,.slice au us.length cu,.bool f] 28)).heap[w.heap.size + 1]? = some (.cells #[.slice am m.length cm,.slice au us.length cu,.bool f] 28):=by
    have:=heap_alloc_new (w.alloc (.cells #[.slice aS s.length cs,.slice al l.length cl,.int .i64 g,.int .i64 ph,.slice a1 n1 c1,.slice a2 n2 c2,.bool f0] 36)) (.cells #[.slice am m.length cm,.slice au us.length cu,.bool f] 28)
    rwa [show (w.alloc (.cells #[.slice aS s.length cs,.slice al l.length cl,.int .i64 g,.int .i64 ph,.slice a1 n1 c1,.slice a2 n2 c2,.bool f0] 36)).heap.size = w.heap.size + 1 by simp] at this
  have hk1 : ((w.alloc (.cells #[.slice aS s.length cs,.slice al l.length cl,.int .i64 g,.int .i64 ph,.slice a1 n1 c1,.slice a2 n2 c2,.bool f0] 36)).alloc (.cells #[.slice am m.length cm,.slice au us.length cu,.bool f] 28)).heap[w.heap.size]? = some (.cells #[.slice aS s.length cs,.slice al l.length cl,.int .i64 g,.int .i64 ph,.slice a1 n1 c1,.slice a2 n2 c2,.bool f0] 36):=(hA2.block _ (by simp)).trans (heap_alloc_new w _)
  obtain ⟨y0,y1,y2⟩:=c3_of hk2
  have hpc:=pcheck_any am cm m au cu us f _ (hg.below hB) (hm.below hB) hml (hu.below hB) hul
  clear hA2
  go_enter Tryz.func208,Tryz.ntmps208
  go_wp2_with fail
  refine hpc.mono ?_
  clear hpc
  rintro e w1 ⟨rfl,hb1⟩
  have hB1:=hB.trans (hb1.mono hB.size)
  have hk21:=(hb1.block _ (heap_lt hk2)).trans hk2
  have hk11:=(hb1.block _ (heap_lt hk1)).trans hk1
  clear hb1 hB hk2 hk1 y0 y1 y2
  by_cases k1 : pushE m us = 0
  case neg =>
    have HR : Hid (tryE s l m us f = pushE m us):=by unfold Hid;rw [HE.out,if_pos k1]
    have HF : Hid (TryPost2 s l m us f w (.returned (.tuple #[.slice none 0 0,.slice none 0 0,.int .i64 (pushE m us)])) w1):=TryPost2.bad HR.out k1 hB1
    have z1 : (pushE m us != 0) = true:=by simpa using k1
    clear k1 hk21 hk11
    go_wp2
    refine bodyPost_ret (v:=.tuple #[.slice none 0 0,.slice none 0 0,.int .i64 (pushE m us)]) (by simp [results,Tryz.results208,go_sem]) rfl ?_
    exact HF.out
  have HE1 : Hid (tryE s l m us f = if addE s m ≠ 0 then addE s m else applyE l (takeRes s m) us f):=by unfold Hid;rw [HE.out,if_neg (fun e=>e k1)]
  rw [k1]
  clear k1 HE
  have r0 : w1.cell? ⟨w.heap.size,0,none⟩ = some (.slice aS s.length cs):=by rw [cell_of_row w1 _ _ _ _ _ hk11];rfl
  obtain ⟨y0,y1,y2⟩:=c3_of hk21
  have had:=add_fresh aS cs s am cm m w1 (hs.below hB1) hsl (hm.below hB1) hml
  go_wp2_with fail
  refine had.mono ?_
  clear had
  rintro e w2 ⟨hb2,hpost⟩
  have hB2:=hB1.trans (hb2.mono hB1.size)
  have hk22:=(hb2.block _ (heap_lt hk21)).trans hk21
  have hk12:=(hb2.block _ (heap_lt hk11)).trans hk11
  have HW1 : Hid (w.heap.size ≤ w1.heap.size):=hB1.size
  clear hb2 hB1 hk21 hk11 r0 y0 y1 y2
  rcases hpost with ⟨hne,rfl⟩ | ⟨hz,a3,c3,rfl,hS3,hlc3,hR3,hO3⟩
  · have HR : Hid (tryE s l m us f = addE s m):=by unfold Hid;rw [HE1.out,if_pos hne]
    have HF : Hid (TryPost2 s l m us f w (.returned (.tuple #[.slice none 0 0,.slice none 0 0,.int .i64 (addE s m)])) w2):=TryPost2.bad HR.out hne hB2
    have z1 : (addE s m != 0) = true:=by simpa using hne
    clear hne hk22 hk12
    go_wp2
    refine bodyPost_ret (v:=.tuple #[.slice none 0 0,.slice none 0 0,.int .i64 (addE s m)]) (by simp [results,Tryz.results208,go_sem]) rfl ?_
    exact HF.out
  have HE2 : Hid (tryE s l m us f = applyE l (takeRes s m) us f):=by unfold Hid;rw [HE1.out,if_neg (fun e=>e hz)]
  have hR40 : (takeRes s m).length ≤ 9223372036854775807:=by have:=(checkS_zero (addE_zero hz).2.2.2.2).1;omega
  have hO3' : ∃ rs,rs.map Pl.x = takeRes s m ∧ Objs w2 w.heap.size (.slice a3 (takeRes s m).length c3) rs:=by obtain ⟨rs,q1,q2⟩:=hO3;exact ⟨rs,q1,q2.from HW1.out⟩
  clear hz HE1 hlc3 hO3
  obtain ⟨A,hA⟩ : ∃ A,A = takeRes s m:=⟨_,rfl⟩
  have HA : Hid (A = takeRes s m):=hA
  rw [← hA] at hS3 hR3 hR40 HE2 hO3'
  rw [← hA]
  clear hA
  have r1 : w2.cell? ⟨w.heap.size,1,none⟩ = some (.slice al l.length cl):=by rw [cell_of_row w2 _ _ _ _ _ hk12];rfl
  obtain ⟨y0,y1,y2⟩:=c3_of hk22
  have hap:=apply_any al cl l a3 c3 A au cu us f w2 (hg.below hB2) (hl.below hB2) hll hS3 hR3 hR40 (hu.below hB2) hul
  go_wp2_with fail
  refine hap.mono ?_
  clear hap
  rintro e w3 ⟨hb3,hpost⟩
  have hB3:=hB2.trans (hb3.mono hB2.size)
  have hS4:=hS3.below hb3
  have hR4 : ∃ rs,rs.map Pl.x = A ∧ Objs w3 w.heap.size (.slice a3 A.length c3) rs:=by obtain ⟨rs,q1,q2⟩:=hO3';exact ⟨rs,q1,q2.below hb3⟩
  have HW2 : Hid (w.heap.size ≤ w2.heap.size):=hB2.size
  clear hb3 hB2 hk22 hk12 r1 y0 y1 y2 hS3 hR3 hO3'
  rcases hpost with ⟨hne,rfl⟩ | ⟨hz,a5,c5,rfl,hL5,-,ho5⟩
  · have HF : Hid (TryPost2 s l m us f w (.returned (.tuple #[.slice none 0 0,.slice none 0 0,.int .i64 (applyE l A us f)])) w3):=TryPost2.bad HE2.out hne hB3
    have z1 : (applyE l A us f != 0) = true:=by simpa using hne
    clear hne
    go_wp2
    refine bodyPost_ret (v:=.tuple #[.slice none 0 0,.slice none 0 0,.int .i64 (applyE l A us f)]) (by simp [results,Tryz.results208,go_sem]) rfl ?_
    exact HF.out
  · have HF : Hid (TryPost2 s l m us f w (.returned (.tuple #[.slice a3 A.length c3,.slice a5 (runL l us).length c5,.int .i64 0])) w3) :=
      ⟨hB3,.inr ⟨HE2.out.trans hz,a3,c3,a5,c5,by rw [← HA.out],by rw [← HA.out];exact hS4,by rw [← HA.out];exact hR4,hL5,ownsRow_low ho5 HW2.out⟩⟩
    clear hz hS4 hR4 hL5 ho5
    go_wp2
    refine bodyPost_ret (v:=.tuple #[.slice a3 A.length c3,.slice a5 (runL l us).length c5,.int .i64 0]) (by simp [results,Tryz.results208,go_sem]) rfl ?_
    exact HF.out
end

section
open Go.RowKit
set_option maxRecDepth 100000
theorem set3456_block (w : World) (q t : Nat) (x3 x4 x5 x6 : Value) {y0 y1 y2 y3 y4 y5 y6 : Value} (h : w.heap[q]? = some (.cells #[y0,y1,y2,y3,y4,y5,y6] t)) :
    ((((w.setCell ⟨q,3,none⟩ x3).setCell ⟨q,4,none⟩ x4).setCell ⟨q,5,none⟩ x5).setCell ⟨q,6,none⟩ x6).heap[q]? = some (.cells #[y0,y1,y2,x3,x4,x5,x6] t) ∧
    Below q w ((((w.setCell ⟨q,3,none⟩ x3).setCell ⟨q,4,none⟩ x4).setCell ⟨q,5,none⟩ x5).setCell ⟨q,6,none⟩ x6) ∧
      ∀ k,k ≠ q → ((((w.setCell ⟨q,3,none⟩ x3).setCell ⟨q,4,none⟩ x4).setCell ⟨q,5,none⟩ x5).setCell ⟨q,6,none⟩ x6).heap[k]? = w.heap[k]?:=by
  have h4:=heap_setCell_same w q 3 _ t x3 h
  have h5:=heap_setCell_same _ q 4 _ t x4 h4
  have h6:=heap_setCell_same _ q 5 _ t x5 h5
  have h7:=heap_setCell_same _ q 6 _ t x6 h6
  refine ⟨by simpa using h7,(((Below.refl q w).setCell (Nat.le_refl _) _ |>.setCell (Nat.le_refl _) _).setCell (Nat.le_refl _) _).setCell (Nat.le_refl _) _,fun k hk=>?_⟩
  rw [heap_setCell_other _ ⟨q,6,none⟩ k _ hk,heap_setCell_other _ ⟨q,5,none⟩ k _ hk,heap_setCell_other _ ⟨q,4,none⟩ k _ hk,heap_setCell_other _ ⟨q,3,none⟩ k _ hk]
theorem set012_block (w : World) (q t : Nat) (x0 x1 x2 : Value) {y0 y1 y2 y3 y4 y5 y6 : Value} (h : w.heap[q]? = some (.cells #[y0,y1,y2,y3,y4,y5,y6] t)) :
    (((w.setCell ⟨q,0,none⟩ x0).setCell ⟨q,1,none⟩ x1).setCell ⟨q,2,none⟩ x2).heap[q]? = some (.cells #[x0,x1,x2,y3,y4,y5,y6] t) ∧
    Below q w (((w.setCell ⟨q,0,none⟩ x0).setCell ⟨q,1,none⟩ x1).setCell ⟨q,2,none⟩ x2) ∧
      ∀ k,k ≠ q → (((w.setCell ⟨q,0,none⟩ x0).setCell ⟨q,1,none⟩ x1).setCell ⟨q,2,none⟩ x2).heap[k]? = w.heap[k]?:=by
  have h5:=heap_setCell_same w q 0 _ t x0 h
  have h6:=heap_setCell_same _ q 1 _ t x1 h5
  have h7:=heap_setCell_same _ q 2 _ t x2 h6
  refine ⟨by simpa using h7,((Below.refl q w).setCell (Nat.le_refl _) _ |>.setCell (Nat.le_refl _) _).setCell (Nat.le_refl _) _,fun k hk=>?_⟩
  rw [heap_setCell_other _ ⟨q,2,none⟩ k _ hk,heap_setCell_other _ ⟨q,1,none⟩ k _ hk,heap_setCell_other _ ⟨q,0,none⟩ k _ hk]
def NoS (W : World) (R : Nat) : Prop:=∀ off x,W.cell? ⟨R,off,none⟩ ≠ some (.string x)
theorem nos_rep {W : World} {R : Nat} {aS al a1 a2 : Option Addr} {ns cs nl cl n1 c1 n2 c2 t : Nat} {g ph : Int} {f : Bool} (h : W.heap[R]? = some (repB aS ns cs al nl cl g ph a1 n1 c1 a2 n2 c2 f t)) : NoS W R:=by
  intro off x e
  rw [cell_of_row W R _ _ _ _ h] at e
  match off,e with
  | 0,e=>cases e
  | 1,e=>cases e
  | 2,e=>cases e
  | 3,e=>cases e
  | 4,e=>cases e
  | 5,e=>cases e
  | 6,e=>cases e
  | n + 7,e=>simp at e
theorem HoldsR.no {R : Nat} {W W' : World} {a : Option Addr} {l : List Rf} (h : HoldsR W a l) (hn : NoS W R) (hs : W.heap.size ≤ W'.heap.size) (hk : ∀ k,k ≠ R → W'.heap[k]? = W.heap[k]?) : HoldsR W' a l:=by
  intro i hi
  obtain ⟨b,off,e,hlt,hc⟩:=h i hi
  have hb : b ≠ R:=fun q=>by subst q;exact hn _ _ (hc i hi).1
  exact ⟨b,off,e,Nat.lt_of_lt_of_le hlt hs,fun j hj=>⟨(World.cell?_of_block (a:=⟨b,off + j * 2,none⟩) (hk b hb)).trans (hc j hj).1,(World.cell?_of_block (a:=⟨b,off + j * 2 + 1,none⟩) (hk b hb)).trans (hc j hj).2⟩⟩
set_option maxHeartbeats 1000000 in
theorem rest_any (p : Nat) (aS : Option Addr) (ns cs : Nat) (al : Option Addr) (nl cl : Nat) (g ph : Int) (a1 : Option Addr) (n1 c1 : Nat) (a2 : Option Addr) (n2 c2 : Nat) (f : Bool) (w : World) (hk : w.heap[p]? = some (repB aS ns cs al nl cl g ph a1 n1 c1 a2 n2 c2 f 200)) :
    Calls Tryz.prog 167 #[.pointer (some ⟨p,0,none⟩)] w fun e w'=>e = .returned (.tuple #[]) ∧ w'.heap[p]? = some (repB aS ns cs al nl cl g 0 none 0 0 none 0 0 false 200) ∧ Below p w w' ∧ ∀ k,k ≠ p → w'.heap[k]? = w.heap[k]?:=by
  obtain ⟨y0,y1,y2,y3,y4,y5,y6⟩:=c7_of hk
  have f3:=f_of (o:=3) hk
  have f4:=f_of (o:=4) hk
  have f5:=f_of (o:=5) hk
  have f6:=f_of (o:=6) hk
  have HS : Hid (_ ∧ _ ∧ _):=set3456_block w p 200 (.int .i64 0) (.slice none 0 0) (.slice none 0 0) (.bool false) hk
  clear hk
  go_enter Tryz.func167,Tryz.ntmps167
  go_wp2
  refine bodyPost_end (results_none rfl _ _ _) rfl ?_
  exact ⟨rfl,HS.out.1,HS.out.2.1,HS.out.2.2⟩
def Prep1 (p : Nat) (aS : Option Addr) (ns cs : Nat) (al : Option Addr) (nl cl : Nat) (g : Int) (m : List Ob) (us : List Up) (f : Bool) (w : World) (e : Ending) (w' : World) : Prop :=
  Below p w w' ∧ (∀ k,k < w.heap.size → k ≠ p → w'.heap[k]? = w.heap[k]?) ∧ ((pushE m us ≠ 0 ∧ e = .returned (.int .i64 (pushE m us))) ∨
    (pushE m us = 0 ∧ e = .returned (.int .i64 0) ∧ ∃ b2 d2 b3 d3,w'.heap[p]? = some (repB aS ns cs al nl cl g 1 b2 m.length d2 b3 us.length d3 f 200) ∧ FreshP w' w.heap.size m us b2 d2 b3 d3))
theorem push_small {m : List Ob} {us : List Up} (h : pushE m us = 0) : m.length ≤ 12 ∧ (∀ x ∈ m,x.links.length ≤ 1000) ∧ us.length ≤ 4:=by
  obtain ⟨h1,h2,h3⟩:=pushE_iff.1 h
  exact ⟨h1,fun x hx=>err_links (eachE_all h2 x hx),(checkU_iff.1 h3).2.1⟩
set_option maxHeartbeats 2000000 in
theorem prep1_any (p q : Nat) (aS : Option Addr) (ns cs : Nat) (al : Option Addr) (nl cl : Nat) (g ph : Int) (a1 : Option Addr) (n1 c1 : Nat) (a2 : Option Addr) (n2 c2 : Nat) (f0 : Bool) (am : Option Addr) (cm : Nat) (m : List Ob) (au : Option Addr) (cu : Nat) (us : List Up) (f : Bool) (w : World) (hg : Glob w)
    (hk : w.heap[p]? = some (repB aS ns cs al nl cl g ph a1 n1 c1 a2 n2 c2 f0 200)) (hq : w.heap[q]? = some (.cells #[.slice am m.length cm,.slice au us.length cu,.bool f] 28)) (hm : HoldsS w am m) (hml : m.length ≤ 9223372036854775807) (hu : HoldsU w au us) (hul : us.length ≤ 9223372036854775807) :
    Calls Tryz.prog 160 #[.pointer (some ⟨p,0,none⟩),.pointer (some ⟨q,0,none⟩)] w (Prep1 p aS ns cs al nl cl g m us f w):=by
  obtain ⟨y0,y1,y2⟩:=c3_of hq
  have hpl:=heap_lt hk
  go_enter Tryz.func160,Tryz.ntmps160
  go_wp2_with fail
  refine (pcheck_any am cm m au cu us f w hg hm hml hu hul).mono ?_
  rintro e w1 ⟨rfl,hb1⟩
  have k1:=(hb1.block _ hpl).trans hk
  have q1:=(hb1.block _ (heap_lt hq)).trans hq
  by_cases c1 : pushE m us = 0
  case neg =>
    have HF : Hid (Prep1 p aS ns cs al nl cl g m us f w (.returned (.int .i64 (pushE m us))) w1):=⟨hb1.mono (Nat.le_of_lt hpl),fun k hk _=>hb1.block k hk,.inl ⟨c1,rfl⟩⟩
    have z1 : (pushE m us != 0) = true:=by simpa using c1
    clear c1 k1 q1 hb1 y0 y1 y2
    go_wp2
    go_ret
    exact HF.out
  have HP : Hid (pushE m us = 0):=c1
  rw [c1]
  clear c1 y0 y1 y2
  obtain ⟨y0,y1,y2⟩:=c3_of q1
  have hsm:=push_small HP.out
  go_wp2_with fail
  refine (copyPush_any am cm m au cu us f w1 (hm.below hb1) (by omega) hsm.2.1 (hu.below hb1) (by omega)).mono ?_
  rintro e w2 ⟨b2,d2,b3,d3,rfl,F2,hb2⟩
  have k2:=(hb2.block _ (heap_lt k1)).trans k1
  have hB2:=hb1.trans (hb2.mono hb1.size)
  obtain ⟨x0,x1,x2,x3,x4,x5,x6⟩:=c7_of k2
  have f3:=f_of (o:=3) k2
  have f4:=f_of (o:=4) k2
  have f5:=f_of (o:=5) k2
  have f6:=f_of (o:=6) k2
  obtain ⟨s1,s2,s3⟩:=set3456_block w2 p 200 (.int .i64 1) (.slice b2 m.length d2) (.slice b3 us.length d3) (.bool f) k2
  have hpw1 : p < w1.heap.size:=heap_lt k1
  have HF : Hid (Prep1 p aS ns cs al nl cl g m us f w (.returned (.int .i64 0)) ((((w2.setCell ⟨p,3,none⟩ (.int .i64 1)).setCell ⟨p,4,none⟩ (.slice b2 m.length d2)).setCell ⟨p,5,none⟩ (.slice b3 us.length d3)).setCell ⟨p,6,none⟩ (.bool f))) :=
    ⟨(hB2.mono (Nat.le_of_lt hpl)).trans s2,fun k hk hkp=>(s3 k hkp).trans (hB2.block k hk),.inr ⟨HP.out,rfl,b2,d2,b3,d3,s1,(F2.keep s2.size (fun k hk=>s3 k (by omega))).from hb1.size⟩⟩
  clear s1 s2 s3 F2 hB2 hb2 k2 k1 q1 hb1 y0 y1 y2 hk hq hm hu hsm
  go_wp2
  go_ret
  exact HF.out
end

section
open Go.RowKit
set_option maxRecDepth 100000
set_option maxHeartbeats 4000000 in
theorem vote1_any (p q : Nat) (aS : Option Addr) (cs : Nat) (s : List Ob) (al : Option Addr) (cl : Nat) (l : List Rf) (g ph : Int) (a1 : Option Addr) (c1 : Nat) (m : List Ob) (a2 : Option Addr) (c2 : Nat) (us : List Up) (f : Bool) (x : ByteArray) (w : World) (hg : Glob w) (ht : Tab w)
    (hk : w.heap[p]? = some (repB aS s.length cs al l.length cl g ph a1 m.length c1 a2 us.length c2 f 200)) (hq : w.heap[q]? = some (.cells #[.string x] 9)) (hpq : p ≠ q) (H : RepH w aS s al l a1 m a2 us) :
    Calls Tryz.prog 161 #[.pointer (some ⟨p,0,none⟩),.pointer (some ⟨q,0,none⟩)] w fun e w'=>e = .returned (.int .i64 (voteE g m us)) ∧ w'.heap[p]? = some (repB aS s.length cs al l.length cl g 2 a1 m.length c1 a2 us.length c2 f 200) ∧ w'.heap[q]? = some (.cells #[.string (voteS s l g m us f)] 9) ∧
      w.heap.size ≤ w'.heap.size ∧ w'.os = w.os ∧ w'.tape = w.tape ∧ w'.output = w.output ∧ ∀ k,k < w.heap.size → k ≠ p → k ≠ q → w'.heap[k]? = w.heap[k]?:=by
  go_enter Tryz.func161,Tryz.ntmps161
  go_wp2_with fail
  have hdr:=(Below.refl w.heap.size w).drew
  have hS0 : w.drew.cell? ⟨p,0,none⟩ = some (.slice aS s.length cs) ∧ w.drew.cell? ⟨p,1,none⟩ = some (.slice al l.length cl) ∧ w.drew.cell? ⟨p,2,none⟩ = some (.int .i64 g) ∧ w.drew.cell? ⟨p,3,none⟩ = some (.int .i64 ph) ∧ w.drew.cell? ⟨p,4,none⟩ = some (.slice a1 m.length c1) ∧ w.drew.cell? ⟨p,5,none⟩ = some (.slice a2 us.length c2) ∧ w.drew.cell? ⟨p,6,none⟩ = some (.bool f):=c7_of hk
  have HD:=H.below hdr
  have kD : w.drew.heap[p]? = _:=hk
  have qD : w.drew.heap[q]? = _:=hq
  refine wp_region_E (fun W=>W.cell? ⟨p,0,none⟩ = some (.slice aS s.length cs) ∧ W.cell? ⟨p,1,none⟩ = some (.slice al l.length cl) ∧ W.cell? ⟨p,2,none⟩ = some (.int .i64 g) ∧ W.cell? ⟨p,3,none⟩ = some (.int .i64 ph) ∧ W.cell? ⟨p,4,none⟩ = some (.slice a1 m.length c1) ∧ W.cell? ⟨p,5,none⟩ = some (.slice a2 us.length c2) ∧ W.cell? ⟨p,6,none⟩ = some (.bool f)) (fun _=>false) (by kernel_rfl) hS0 (fun hS=>?_)
  have hgD:=hg.below hdr
  have htD:=ht.below hdr
  generalize w.drew = W0 at *
  refine wpAnyE.take (i:=0) (v:=?_) rfl (by kernel_rfl) (by kernel_rfl) (by kernel_rfl) (by kernel_rfl) (fun _ _ _ h=>h) (Or.inl ⟨by rfl,?_⟩) (by assumption) ?_
  rotate_left
  · intro w hSw;obtain ⟨z0,z1,z2,z3,z4,z5,z6⟩:=hSw;go_simp;with_reducible rfl
  try simp only [Act.put,uA,uC,uD,uE,uF]
  refine wpAnyE.take (i:=1) (v:=?_) rfl (by kernel_rfl) (by kernel_rfl) (by kernel_rfl) (by kernel_rfl) (fun _ _ _ h=>h) (Or.inl ⟨by rfl,?_⟩) (by assumption) ?_
  rotate_left
  · intro w hSw;obtain ⟨z0,z1,z2,z3,z4,z5,z6⟩:=hSw;go_simp;with_reducible rfl
  try simp only [Act.put,uA,uB,uC,uD,uE,uF]
  refine wpAnyE.take (i:=2) (v:=?_) rfl (by kernel_rfl) (by kernel_rfl) (by kernel_rfl) (by kernel_rfl) (fun _ _ _ h=>h) (Or.inl ⟨by rfl,?_⟩) (by assumption) ?_
  rotate_left
  · intro w hSw;obtain ⟨z0,z1,z2,z3,z4,z5,z6⟩:=hSw;go_simp;with_reducible rfl
  try simp only [Act.put,uA,uB,uC,uD,uE,uF]
  refine wpAnyE.take (i:=3) (v:=?_) rfl (by kernel_rfl) (by kernel_rfl) (by kernel_rfl) (by kernel_rfl) (fun _ _ _ h=>h) (Or.inl ⟨by rfl,?_⟩) (by assumption) ?_
  rotate_left
  · intro w hSw;obtain ⟨z0,z1,z2,z3,z4,z5,z6⟩:=hSw;go_simp;with_reducible rfl
  try simp only [Act.put,uA,uB,uC,uD,uE,uF]
  refine wpAnyE.take (i:=4) (v:=?_) rfl (by kernel_rfl) (by kernel_rfl) (by kernel_rfl) (by kernel_rfl) (fun _ _ _ h=>h) (Or.inl ⟨by rfl,?_⟩) (by assumption) ?_
  rotate_left
  · intro w hSw;obtain ⟨z0,z1,z2,z3,z4,z5,z6⟩:=hSw;go_simp;with_reducible rfl
  try simp only [Act.put,uA,uB,uC,uD,uE,uF]
  refine wpAnyE.take (i:=5) (v:=?_) rfl (by kernel_rfl) (by kernel_rfl) (by kernel_rfl) (by kernel_rfl) (fun _ _ _ h=>h) (Or.inl ⟨by rfl,?_⟩) (by assumption) ?_
  rotate_left
  · intro w hSw;obtain ⟨z0,z1,z2,z3,z4,z5,z6⟩:=hSw;go_simp;with_reducible rfl
  try simp only [Act.put,uA,uB,uC,uD,uE,uF]
  refine wpAnyE.take (i:=6) (v:=?_) rfl (by kernel_rfl) (by kernel_rfl) (by kernel_rfl) (by kernel_rfl) (fun _ _ _ h=>h) (Or.inl ⟨by rfl,?_⟩) (by assumption) ?_
  rotate_left
  · intro w hSw;obtain ⟨z0,z1,z2,z3,z4,z5,z6⟩:=hSw;go_simp;with_reducible rfl
  try simp only [Act.put,uA,uB,uC,uD,uE,uF]
  refine wpAnyE.take (i:=7) (v:=?_) rfl (by kernel_rfl) (by kernel_rfl) (by kernel_rfl) (by kernel_rfl) (fun _ _ _ h=>h) (Or.inl ⟨by rfl,?_⟩) (by assumption) ?_
  rotate_left
  · intro w hSw;obtain ⟨z0,z1,z2,z3,z4,z5,z6⟩:=hSw;go_simp;with_reducible rfl
  try simp only [Act.put,uA,uB,uC,uD,uE,uF]
  refine wpAnyE.take (i:=8) (v:=?_) rfl (by kernel_rfl) (by kernel_rfl) (by kernel_rfl) (by kernel_rfl) (fun _ _ _ h=>h) (Or.inl ⟨by rfl,?_⟩) (by assumption) ?_
  rotate_left
  · intro w hSw;obtain ⟨z0,z1,z2,z3,z4,z5,z6⟩:=hSw;go_simp;with_reducible rfl
  try simp only [Act.put,uA,uB,uC,uD,uE,uF]
  refine wpAnyE.one (i:=9) (by kernel_rfl) rfl (fun K hK=>?_)
  go_simp
  refine (of_any aS cs s al cl l g ph a1 m.length c1 a2 us.length c2 f a1 c1 m a2 c2 us f W0 hgD htD HD.hs HD.ns HD.hl HD.nl HD.hm HD.nm HD.hu HD.nu).mono ?_
  rintro e W1 ⟨rfl,hb1⟩
  have k1:=(hb1.block _ (heap_lt kD)).trans kD
  have q1:=(hb1.block _ (heap_lt qD)).trans qD
  have hS1 : W1.cell? ⟨p,0,none⟩ = some (.slice aS s.length cs) ∧ W1.cell? ⟨p,1,none⟩ = some (.slice al l.length cl) ∧ W1.cell? ⟨p,2,none⟩ = some (.int .i64 g) ∧ W1.cell? ⟨p,3,none⟩ = some (.int .i64 ph) ∧ W1.cell? ⟨p,4,none⟩ = some (.slice a1 m.length c1) ∧ W1.cell? ⟨p,5,none⟩ = some (.slice a2 us.length c2) ∧ W1.cell? ⟨p,6,none⟩ = some (.bool f):=c7_of k1
  have hB1:=hdr.trans (hb1.mono hdr.size)
  clear hS hS0 hb1 kD qD HD hdr hgD htD
  refine hK _ _ (fun _=>hS1) ?_
  clear hK K
  try simp only [Act.put,uA,uB,uC,uD,uE,uF]
  refine wpAnyE.take (i:=10) (v:=?_) rfl (by kernel_rfl) (by kernel_rfl) (by kernel_rfl) (by kernel_rfl) (fun _ _ _ h=>h) (Or.inl ⟨by rfl,?_⟩) (by assumption) ?_
  rotate_left
  · intro w hSw;go_simp;with_reducible rfl
  try simp only [Act.put,uA,uB,uC,uD,uE,uF]
  refine wpAnyE.take (i:=11) (v:=?_) rfl (by kernel_rfl) (by kernel_rfl) (by kernel_rfl) (by kernel_rfl) (fun _ _ _ h=>h) (Or.inl ⟨by rfl,?_⟩) (by assumption) ?_
  rotate_left
  · intro w hSw;go_simp;with_reducible rfl
  try simp only [Act.put,uA,uB,uC,uD,uE,uF]
  refine wpAnyE.take (i:=12) (v:=?_) rfl (by kernel_rfl) (by kernel_rfl) (by kernel_rfl) (by kernel_rfl) (fun _ _ _ h=>h) (Or.inl ⟨by rfl,?_⟩) (by assumption) ?_
  rotate_left
  · intro w hSw;go_simp;with_reducible rfl
  try simp only [Act.put,uA,uB,uC,uD,uE,uF]
  refine wpAnyE.one (i:=13) (by kernel_rfl) rfl (fun K hK=>?_)
  go_simp
  refine hK _ _ (fun _=>hS1) ?_
  clear hK K
  try simp only [Act.put,uA,uB,uC,uD,uE,uF]
  refine wpAnyE.one (i:=14) (by kernel_rfl) rfl (fun K hK=>?_)
  go_simp
  refine hK _ _ (fun _=>hS1) ?_
  clear hK K
  try simp only [Act.put,uA,uB,uC,uD,uE,uF]
  refine wpAnyE.done (by kernel_rfl) ?_
  clear hS1
  obtain ⟨y0,y1,y2,y3,y4,y5,y6⟩:=c7_of k1
  have e0 : W1.cell? ⟨q,0,none⟩ = some (.string x):=by rw [cell_of_row _ _ _ _ _ _ q1];rfl
  have fq:=f_of (o:=0) q1
  have s1:=heap_setCell_same W1 q 0 _ 9 (.string (voteS s l g m us f)) q1
  have t1:=(heap_setCell_other W1 ⟨q,0,none⟩ p (.string (voteS s l g m us f)) hpq).trans k1
  obtain ⟨v0,v1,v2,v3,v4,v5,v6⟩:=c7_of t1
  have fp:=f_of (o:=3) t1
  have s2:=heap_setCell_same _ p 3 _ 200 (.int .i64 2) t1
  have t2:=(heap_setCell_other _ ⟨p,3,none⟩ q (.int .i64 2) (Ne.symm hpq)).trans s1
  have HF : Hid (((W1.setCell ⟨q,0,none⟩ (.string (voteS s l g m us f))).setCell ⟨p,3,none⟩ (.int .i64 2)).heap[p]? = some (repB aS s.length cs al l.length cl g 2 a1 m.length c1 a2 us.length c2 f 200) ∧ ((W1.setCell ⟨q,0,none⟩ (.string (voteS s l g m us f))).setCell ⟨p,3,none⟩ (.int .i64 2)).heap[q]? = some (.cells #[.string (voteS s l g m us f)] 9) ∧
      w.heap.size ≤ ((W1.setCell ⟨q,0,none⟩ (.string (voteS s l g m us f))).setCell ⟨p,3,none⟩ (.int .i64 2)).heap.size ∧ ((W1.setCell ⟨q,0,none⟩ (.string (voteS s l g m us f))).setCell ⟨p,3,none⟩ (.int .i64 2)).os = w.os ∧ ((W1.setCell ⟨q,0,none⟩ (.string (voteS s l g m us f))).setCell ⟨p,3,none⟩ (.int .i64 2)).tape = w.tape ∧ ((W1.setCell ⟨q,0,none⟩ (.string (voteS s l g m us f))).setCell ⟨p,3,none⟩ (.int .i64 2)).output = w.output ∧ ∀ k,k < w.heap.size → k ≠ p → k ≠ q → ((W1.setCell ⟨q,0,none⟩ (.string (voteS s l g m us f))).setCell ⟨p,3,none⟩ (.int .i64 2)).heap[k]? = w.heap[k]?):=by
    have b2 : Below 0 w ((W1.setCell ⟨q,0,none⟩ (.string (voteS s l g m us f))).setCell ⟨p,3,none⟩ (.int .i64 2)):=((hB1.mono (Nat.zero_le _)).setCell (Nat.zero_le _) _).setCell (Nat.zero_le _) _
    refine ⟨by simpa using s2,by simpa using t2,b2.size,b2.os,b2.tape,b2.output,fun k hk h1 h2=>?_⟩
    rw [heap_setCell_other _ ⟨p,3,none⟩ k _ h1,heap_setCell_other _ ⟨q,0,none⟩ k _ h2]
    exact hB1.block k hk
  clear s2 t2 t1 s1 hB1 q1 k1 hk hq H hg ht
  go_wp2
  go_ret
  exact ⟨rfl,HF.out⟩
def Commit1 (p : Nat) (s : List Ob) (l : List Rf) (g ph : Int) (a1 : Option Addr) (c1 : Nat) (m : List Ob) (a2 : Option Addr) (c2 : Nat) (us : List Up) (f : Bool) (w : World) (e : Ending) (w' : World) : Prop :=
  Below p w w' ∧ (∀ k,k < w.heap.size → k ≠ p → w'.heap[k]? = w.heap[k]?) ∧ ((tryE s l m us f ≠ 0 ∧ e = .returned (.int .i64 (tryE s l m us f))) ∨ (tryE s l m us f = 0 ∧ g = 999 ∧ e = .returned (.int .i64 2)) ∨
    (tryE s l m us f = 0 ∧ g ≠ 999 ∧ e = .returned (.int .i64 0) ∧ ∃ b0 d0 b1 d1,w'.heap[p]? = some (repB b0 (takeRes s m).length d0 b1 (runL l us).length d1 (g + 1) ph a1 m.length c1 a2 us.length c2 f 200) ∧
      (∃ rs,rs.map Pl.x = takeRes s m ∧ Objs w' w.heap.size (.slice b0 (takeRes s m).length d0) rs) ∧ HoldsR w' b1 (runL l us) ∧ w'.ownsRow w.heap.size 65 2 (.slice b1 (runL l us).length d1) (runL l us).length (rowR (runL l us))))
set_option maxHeartbeats 8000000 in
theorem commit_any (p : Nat) (aS : Option Addr) (cs : Nat) (s : List Ob) (al : Option Addr) (cl : Nat) (l : List Rf) (g ph : Int) (a1 : Option Addr) (c1 : Nat) (m : List Ob) (a2 : Option Addr) (c2 : Nat) (us : List Up) (f : Bool) (w : World) (hg : Glob w) (hgr : 0 ≤ g ∧ g ≤ 999)
    (hk : w.heap[p]? = some (repB aS s.length cs al l.length cl g ph a1 m.length c1 a2 us.length c2 f 200)) (H : RepH w aS s al l a1 m a2 us) :
    Calls Tryz.prog 166 #[.pointer (some ⟨p,0,none⟩)] w (Commit1 p s l g ph a1 c1 m a2 c2 us f w):=by
  have hpl:=heap_lt hk
  go_enter Tryz.func166,Tryz.ntmps166
  go_wp2_with fail
  have hdr:=(Below.refl w.heap.size w).drew
  have hS0 : w.drew.cell? ⟨p,0,none⟩ = some (.slice aS s.length cs) ∧ w.drew.cell? ⟨p,1,none⟩ = some (.slice al l.length cl) ∧ w.drew.cell? ⟨p,2,none⟩ = some (.int .i64 g) ∧ w.drew.cell? ⟨p,3,none⟩ = some (.int .i64 ph) ∧ w.drew.cell? ⟨p,4,none⟩ = some (.slice a1 m.length c1) ∧ w.drew.cell? ⟨p,5,none⟩ = some (.slice a2 us.length c2) ∧ w.drew.cell? ⟨p,6,none⟩ = some (.bool f):=c7_of hk
  have HD:=H.below hdr
  have kD : w.drew.heap[p]? = _:=hk
  refine wp_region_E (fun W=>W.cell? ⟨p,0,none⟩ = some (.slice aS s.length cs) ∧ W.cell? ⟨p,1,none⟩ = some (.slice al l.length cl) ∧ W.cell? ⟨p,2,none⟩ = some (.int .i64 g) ∧ W.cell? ⟨p,3,none⟩ = some (.int .i64 ph) ∧ W.cell? ⟨p,4,none⟩ = some (.slice a1 m.length c1) ∧ W.cell? ⟨p,5,none⟩ = some (.slice a2 us.length c2) ∧ W.cell? ⟨p,6,none⟩ = some (.bool f)) (fun _=>false) (by kernel_rfl) hS0 (fun hS=>?_)
  have hgD:=hg.below hdr
  generalize w.drew = W0 at *
  refine wpAnyE.take (i:=0) (v:=?_) rfl (by kernel_rfl) (by kernel_rfl) (by kernel_rfl) (by kernel_rfl) (fun _ _ _ h=>h) (Or.inl ⟨by rfl,?_⟩) (by assumption) ?_
  rotate_left
  · intro w hSw;obtain ⟨z0,z1,z2,z3,z4,z5,z6⟩:=hSw;go_simp;with_reducible rfl
  try simp only [Act.put,uA,uC,uD,uE,uF]
  refine wpAnyE.take (i:=1) (v:=?_) rfl (by kernel_rfl) (by kernel_rfl) (by kernel_rfl) (by kernel_rfl) (fun _ _ _ h=>h) (Or.inl ⟨by rfl,?_⟩) (by assumption) ?_
  rotate_left
  · intro w hSw;obtain ⟨z0,z1,z2,z3,z4,z5,z6⟩:=hSw;go_simp;with_reducible rfl
  try simp only [Act.put,uA,uB,uC,uD,uE,uF]
  refine wpAnyE.take (i:=2) (v:=?_) rfl (by kernel_rfl) (by kernel_rfl) (by kernel_rfl) (by kernel_rfl) (fun _ _ _ h=>h) (Or.inl ⟨by rfl,?_⟩) (by assumption) ?_
  rotate_left
  · intro w hSw;obtain ⟨z0,z1,z2,z3,z4,z5,z6⟩:=hSw;go_simp;with_reducible rfl
  try simp only [Act.put,uA,uB,uC,uD,uE,uF]
  refine wpAnyE.take (i:=3) (v:=?_) rfl (by kernel_rfl) (by kernel_rfl) (by kernel_rfl) (by kernel_rfl) (fun _ _ _ h=>h) (Or.inl ⟨by rfl,?_⟩) (by assumption) ?_
  rotate_left
  · intro w hSw;obtain ⟨z0,z1,z2,z3,z4,z5,z6⟩:=hSw;go_simp;with_reducible rfl
  try simp only [Act.put,uA,uB,uC,uD,uE,uF]
  refine wpAnyE.take (i:=4) (v:=?_) rfl (by kernel_rfl) (by kernel_rfl) (by kernel_rfl) (by kernel_rfl) (fun _ _ _ h=>h) (Or.inl ⟨by rfl,?_⟩) (by assumption) ?_
  rotate_left
  · intro w hSw;obtain ⟨z0,z1,z2,z3,z4,z5,z6⟩:=hSw;go_simp;with_reducible rfl
  try simp only [Act.put,uA,uB,uC,uD,uE,uF]
  refine wpAnyE.take (i:=5) (v:=?_) rfl (by kernel_rfl) (by kernel_rfl) (by kernel_rfl) (by kernel_rfl) (fun _ _ _ h=>h) (Or.inl ⟨by rfl,?_⟩) (by assumption) ?_
  rotate_left
  · intro w hSw;obtain ⟨z0,z1,z2,z3,z4,z5,z6⟩:=hSw;go_simp;with_reducible rfl
  try simp only [Act.put,uA,uB,uC,uD,uE,uF]
  refine wpAnyE.take (i:=6) (v:=?_) rfl (by kernel_rfl) (by kernel_rfl) (by kernel_rfl) (by kernel_rfl) (fun _ _ _ h=>h) (Or.inl ⟨by rfl,?_⟩) (by assumption) ?_
  rotate_left
  · intro w hSw;obtain ⟨z0,z1,z2,z3,z4,z5,z6⟩:=hSw;go_simp;with_reducible rfl
  try simp only [Act.put,uA,uB,uC,uD,uE,uF]
  refine wpAnyE.take (i:=7) (v:=?_) rfl (by kernel_rfl) (by kernel_rfl) (by kernel_rfl) (by kernel_rfl) (fun _ _ _ h=>h) (Or.inl ⟨by rfl,?_⟩) (by assumption) ?_
  rotate_left
  · intro w hSw;obtain ⟨z0,z1,z2,z3,z4,z5,z6⟩:=hSw;go_simp;with_reducible rfl
  try simp only [Act.put,uA,uB,uC,uD,uE,uF]
  refine wpAnyE.take (i:=8) (v:=?_) rfl (by kernel_rfl) (by kernel_rfl) (by kernel_rfl) (by kernel_rfl) (fun _ _ _ h=>h) (Or.inl ⟨by rfl,?_⟩) (by assumption) ?_
  rotate_left
  · intro w hSw;obtain ⟨z0,z1,z2,z3,z4,z5,z6⟩:=hSw;go_simp;with_reducible rfl
  try simp only [Act.put,uA,uB,uC,uD,uE,uF]
  refine wpAnyE.one (i:=9) (by kernel_rfl) rfl (fun K hK=>?_)
  go_simp
  refine (try_fresh aS cs s al cl l g ph a1 m.length c1 a2 us.length c2 f a1 c1 m a2 c2 us f W0 hgD HD.hs HD.ns HD.hl HD.nl HD.hm HD.nm HD.hu HD.nu).mono ?_
  rintro e W1 ⟨hb1,hpost⟩
  have k1:=(hb1.block _ (heap_lt kD)).trans kD
  have hS1 : W1.cell? ⟨p,0,none⟩ = some (.slice aS s.length cs) ∧ W1.cell? ⟨p,1,none⟩ = some (.slice al l.length cl) ∧ W1.cell? ⟨p,2,none⟩ = some (.int .i64 g) ∧ W1.cell? ⟨p,3,none⟩ = some (.int .i64 ph) ∧ W1.cell? ⟨p,4,none⟩ = some (.slice a1 m.length c1) ∧ W1.cell? ⟨p,5,none⟩ = some (.slice a2 us.length c2) ∧ W1.cell? ⟨p,6,none⟩ = some (.bool f):=c7_of k1
  have hB1:=hdr.trans (hb1.mono hdr.size)
  have hwz:=hdr.size
  clear hS hS0 hb1 kD HD hdr hgD
  rcases hpost with ⟨hne,rfl⟩ | ⟨hz,b0,d0,b1,d1,rfl,hS3,hO3,hL3,ow3⟩
  · refine hK _ _ (fun _=>hS1) ?_
    clear hK K
    try simp only [Act.put,uA,uB,uC,uD,uE,uF]
    refine wpAnyE.take (i:=10) (v:=?_) rfl (by kernel_rfl) (by kernel_rfl) (by kernel_rfl) (by kernel_rfl) (fun _ _ _ h=>h) (Or.inl ⟨by rfl,?_⟩) (by assumption) ?_
    rotate_left
    · intro w hSw;go_simp;with_reducible rfl
    try simp only [Act.put,uA,uB,uC,uD,uE,uF]
    refine wpAnyE.take (i:=11) (v:=?_) rfl (by kernel_rfl) (by kernel_rfl) (by kernel_rfl) (by kernel_rfl) (fun _ _ _ h=>h) (Or.inl ⟨by rfl,?_⟩) (by assumption) ?_
    rotate_left
    · intro w hSw;go_simp;with_reducible rfl
    try simp only [Act.put,uA,uB,uC,uD,uE,uF]
    refine wpAnyE.take (i:=12) (v:=?_) rfl (by kernel_rfl) (by kernel_rfl) (by kernel_rfl) (by kernel_rfl) (fun _ _ _ h=>h) (Or.inl ⟨by rfl,?_⟩) (by assumption) ?_
    rotate_left
    · intro w hSw;go_simp;with_reducible rfl
    try simp only [Act.put,uA,uB,uC,uD,uE,uF]
    refine wpAnyE.take (i:=13) (v:=?_) rfl (by kernel_rfl) (by kernel_rfl) (by kernel_rfl) (by kernel_rfl) (fun _ _ _ h=>h) (Or.inl ⟨by rfl,?_⟩) (by assumption) ?_
    rotate_left
    · intro w hSw;go_simp;with_reducible rfl
    try simp only [Act.put,uA,uB,uC,uD,uE,uF]
    refine wpAnyE.one (i:=14) (by kernel_rfl) rfl (fun K hK=>?_)
    go_simp
    refine hK _ _ (fun _=>hS1) ?_
    clear hK K
    try simp only [Act.put,uA,uB,uC,uD,uE,uF]
    refine wpAnyE.one (i:=15) (by kernel_rfl) rfl (fun K hK=>?_)
    go_simp
    refine hK _ _ (fun _=>hS1) ?_
    clear hK K
    try simp only [Act.put,uA,uB,uC,uD,uE,uF]
    refine wpAnyE.one (i:=16) (by kernel_rfl) rfl (fun K hK=>?_)
    go_simp
    refine hK _ _ (fun _=>hS1) ?_
    clear hK K
    try simp only [Act.put,uA,uB,uC,uD,uE,uF]
    refine wpAnyE.done (by kernel_rfl) ?_
    have HF : Hid (Commit1 p s l g ph a1 c1 m a2 c2 us f w (.returned (.int .i64 (tryE s l m us f))) W1):=⟨hB1.mono (Nat.le_of_lt hpl),fun k hk _=>hB1.block k hk,.inl ⟨hne,rfl⟩⟩
    have z1 : (tryE s l m us f != 0) = true:=by simpa using hne
    clear hS1 hne hB1 k1
    go_wp2
    go_ret
    exact HF.out
  · refine hK _ _ (fun _=>hS1) ?_
    clear hK K
    try simp only [Act.put,uA,uB,uC,uD,uE,uF]
    refine wpAnyE.take (i:=10) (v:=?_) rfl (by kernel_rfl) (by kernel_rfl) (by kernel_rfl) (by kernel_rfl) (fun _ _ _ h=>h) (Or.inl ⟨by rfl,?_⟩) (by assumption) ?_
    rotate_left
    · intro w hSw;go_simp;with_reducible rfl
    try simp only [Act.put,uA,uB,uC,uD,uE,uF]
    refine wpAnyE.take (i:=11) (v:=?_) rfl (by kernel_rfl) (by kernel_rfl) (by kernel_rfl) (by kernel_rfl) (fun _ _ _ h=>h) (Or.inl ⟨by rfl,?_⟩) (by assumption) ?_
    rotate_left
    · intro w hSw;go_simp;with_reducible rfl
    try simp only [Act.put,uA,uB,uC,uD,uE,uF]
    refine wpAnyE.take (i:=12) (v:=?_) rfl (by kernel_rfl) (by kernel_rfl) (by kernel_rfl) (by kernel_rfl) (fun _ _ _ h=>h) (Or.inl ⟨by rfl,?_⟩) (by assumption) ?_
    rotate_left
    · intro w hSw;go_simp;with_reducible rfl
    try simp only [Act.put,uA,uB,uC,uD,uE,uF]
    refine wpAnyE.take (i:=13) (v:=?_) rfl (by kernel_rfl) (by kernel_rfl) (by kernel_rfl) (by kernel_rfl) (fun _ _ _ h=>h) (Or.inl ⟨by rfl,?_⟩) (by assumption) ?_
    rotate_left
    · intro w hSw;go_simp;with_reducible rfl
    try simp only [Act.put,uA,uB,uC,uD,uE,uF]
    refine wpAnyE.one (i:=14) (by kernel_rfl) rfl (fun K hK=>?_)
    go_simp
    refine hK _ _ (fun _=>hS1) ?_
    clear hK K
    try simp only [Act.put,uA,uB,uC,uD,uE,uF]
    refine wpAnyE.one (i:=15) (by kernel_rfl) rfl (fun K hK=>?_)
    go_simp
    refine hK _ _ (fun _=>hS1) ?_
    clear hK K
    try simp only [Act.put,uA,uB,uC,uD,uE,uF]
    refine wpAnyE.one (i:=16) (by kernel_rfl) rfl (fun K hK=>?_)
    go_simp
    refine hK _ _ (fun _=>hS1) ?_
    clear hK K
    try simp only [Act.put,uA,uB,uC,uD,uE,uF]
    refine wpAnyE.done (by kernel_rfl) ?_
    obtain ⟨y0,y1,y2,y3,y4,y5,y6⟩:=hS1
    by_cases hg9 : g = 999
    · have HF : Hid (Commit1 p s l g ph a1 c1 m a2 c2 us f w (.returned (.int .i64 2)) W1):=⟨hB1.mono (Nat.le_of_lt hpl),fun k hk _=>hB1.block k hk,.inr (.inl ⟨hz,hg9,rfl⟩)⟩
      have z1 : (g == 999) = true:=by simpa using hg9
      clear hg9 hz hS3 hO3 hL3 ow3 hB1 k1 hk H hgr
      go_wp2
      go_ret
      exact HF.out
    · have z1 : (g == 999) = false:=by simpa using hg9
      have hw1 : IntKind.i64.wrap (g + 1) = g + 1:=by simp [IntKind.wrap,IntKind.bits,IntKind.signed];omega
      have f0:=f_of (o:=0) k1
      have f1:=f_of (o:=1) k1
      have f2:=f_of (o:=2) k1
      obtain ⟨s1,s2,s3⟩:=set012_block W1 p 200 (.slice b0 (takeRes s m).length d0) (.slice b1 (runL l us).length d1) (.int .i64 (g + 1)) k1
      have hL4:=hL3.no (nos_rep k1) s2.size s3
      obtain ⟨rs,e1,o1⟩:=hO3
      have HF : Hid (Commit1 p s l g ph a1 c1 m a2 c2 us f w (.returned (.int .i64 0)) (((W1.setCell ⟨p,0,none⟩ (.slice b0 (takeRes s m).length d0)).setCell ⟨p,1,none⟩ (.slice b1 (runL l us).length d1)).setCell ⟨p,2,none⟩ (.int .i64 (g + 1)))) :=
        ⟨(hB1.mono (Nat.le_of_lt hpl)).trans s2,fun k hk hkp=>(s3 k hkp).trans (hB1.block k hk),.inr (.inr ⟨hz,hg9,rfl,b0,d0,b1,d1,s1,⟨rs,e1,(o1.keep s2.size (fun k hk=>s3 k (by omega))).from hwz⟩,hL4,ownsRow_from (ownsRow_high ow3 (fun k hk=>s3 k (by omega))) hwz⟩)⟩
      clear s1 s2 s3 hL4 o1 e1 hg9 hz hS3 hL3 ow3 hB1 k1 hk H hgr
      go_wp2
      go_ret
      exact HF.out
def Fin1 (p : Nat) (aS : Option Addr) (cs : Nat) (s : List Ob) (al : Option Addr) (cl : Nat) (l : List Rf) (g : Int) (m : List Ob) (us : List Up) (f c : Bool) (w : World) (e : Ending) (w' : World) : Prop :=
  Below p w w' ∧ (∀ k,k < w.heap.size → k ≠ p → w'.heap[k]? = w.heap[k]?) ∧
    ((c = false ∧ e = .returned (.int .i64 0) ∧ w'.heap[p]? = some (repB aS s.length cs al l.length cl g 0 none 0 0 none 0 0 false 200)) ∨
     (c = true ∧ tryE s l m us f ≠ 0 ∧ e = .returned (.int .i64 (tryE s l m us f))) ∨ (c = true ∧ tryE s l m us f = 0 ∧ g = 999 ∧ e = .returned (.int .i64 2)) ∨
     (c = true ∧ tryE s l m us f = 0 ∧ g ≠ 999 ∧ e = .returned (.int .i64 0) ∧ ∃ b0 d0 b1 d1,w'.heap[p]? = some (repB b0 (takeRes s m).length d0 b1 (runL l us).length d1 (g + 1) 0 none 0 0 none 0 0 false 200) ∧
      (∃ rs,rs.map Pl.x = takeRes s m ∧ Objs w' w.heap.size (.slice b0 (takeRes s m).length d0) rs) ∧ HoldsR w' b1 (runL l us) ∧ w'.ownsRow w.heap.size 65 2 (.slice b1 (runL l us).length d1) (runL l us).length (rowR (runL l us))))
set_option maxHeartbeats 4000000 in
theorem fin1_any (p q : Nat) (aS : Option Addr) (cs : Nat) (s : List Ob) (al : Option Addr) (cl : Nat) (l : List Rf) (g ph : Int) (a1 : Option Addr) (c1 : Nat) (m : List Ob) (a2 : Option Addr) (c2 : Nat) (us : List Up) (f c : Bool) (w : World) (hg : Glob w) (hgr : 0 ≤ g ∧ g ≤ 999)
    (hk : w.heap[p]? = some (repB aS s.length cs al l.length cl g ph a1 m.length c1 a2 us.length c2 f 200)) (hq : w.heap[q]? = some (.cells #[.bool c] 4)) (H : RepH w aS s al l a1 m a2 us) :
    Calls Tryz.prog 165 #[.pointer (some ⟨p,0,none⟩),.pointer (some ⟨q,0,none⟩)] w (Fin1 p aS cs s al cl l g m us f c w):=by
  have hpl:=heap_lt hk
  have e0 : w.cell? ⟨q,0,none⟩ = some (.bool c):=by rw [cell_of_row _ _ _ _ _ _ hq];rfl
  cases c with
  | false =>
    go_enter Tryz.func165,Tryz.ntmps165
    go_wp2_with fail
    refine (rest_any p aS s.length cs al l.length cl g ph a1 m.length c1 a2 us.length c2 f w hk).mono ?_
    rintro e w1 ⟨rfl,h1,h2,h3⟩
    have HF : Hid (Fin1 p aS cs s al cl l g m us f false w (.returned (.int .i64 0)) w1):=⟨h2,fun k _ hkp=>h3 k hkp,.inl ⟨rfl,rfl,h1⟩⟩
    clear h1 h2 h3 hk hq H
    go_wp2
    go_ret
    exact HF.out
  | true =>
    go_enter Tryz.func165,Tryz.ntmps165
    go_wp2_with fail
    refine (commit_any p aS cs s al cl l g ph a1 c1 m a2 c2 us f w hg hgr hk H).mono ?_
    rintro e w1 ⟨hb1,ho1,⟨hne,rfl⟩ | ⟨hz,h9,rfl⟩ | ⟨hz,h9,rfl,b0,d0,b1,d1,k1,⟨rs,e1,o1⟩,hL1,ow1⟩⟩
    · have HF : Hid (Fin1 p aS cs s al cl l g m us f true w (.returned (.int .i64 (tryE s l m us f))) w1):=⟨hb1,ho1,.inr (.inl ⟨rfl,hne,rfl⟩)⟩
      have z1 : (tryE s l m us f != 0) = true:=by simpa using hne
      clear hne hb1 ho1 hk hq H
      go_wp2
      go_ret
      exact HF.out
    · have HF : Hid (Fin1 p aS cs s al cl l g m us f true w (.returned (.int .i64 2)) w1):=⟨hb1,ho1,.inr (.inr (.inl ⟨rfl,hz,h9,rfl⟩))⟩
      clear hz h9 hb1 ho1 hk hq H hgr
      go_wp2
      go_ret
      exact HF.out
    · go_wp2_with fail
      refine (rest_any p _ _ _ _ _ _ (g + 1) ph a1 m.length c1 a2 us.length c2 f w1 k1).mono ?_
      rintro e w2 ⟨rfl,h1,h2,h3⟩
      have hp1:=heap_lt k1
      have HF : Hid (Fin1 p aS cs s al cl l g m us f true w (.returned (.int .i64 0)) w2):=⟨hb1.trans h2,fun k hk hkp=>(h3 k hkp).trans (ho1 k hk hkp),.inr (.inr (.inr ⟨rfl,hz,h9,rfl,b0,d0,b1,d1,h1,⟨rs,e1,o1.keep h2.size (fun k hk=>h3 k (by omega))⟩,hL1.no (nos_rep k1) h2.size h3,ownsRow_high ow1 (fun k hk=>h3 k (by omega))⟩))⟩
      clear h1 h2 h3 hz h9 o1 hL1 ow1 hb1 ho1 hk hq H k1 hgr
      go_wp2
      go_ret
      exact HF.out
end
end Go.Proofs.YtehmlpkapjdhkaaGreatDoor
