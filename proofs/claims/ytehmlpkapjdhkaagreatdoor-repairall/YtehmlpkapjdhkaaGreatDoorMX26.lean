import Derived.Test.YtehmlpkapjdhkaaGreatDoorMX25
import Derived.Test.YtehmlpkapjdhkaaGreatDoorMF
import Derived.Test.YtehmlpkapjdhkaaGreatDoorMH
import Derived.Test.YtehmlpkapjdhkaaGreatDoorMU
namespace Go.Proofs.YtehmlpkapjdhkaaGreatDoor
open Go.RowKit
section
open Go.Shelf
attribute [local go_sem] Oper.semAt_some
set_option maxHeartbeats 400000 in
theorem links_any (x : Ob) (sa : Option Addr) (sc : Nat) (w : World) :
    Calls Tryz.prog 145 #[x.val sa sc] w fun e w'=>e = .returned (.slice sa x.links.length sc) ∧ Below w.heap.size w w':=by
  go_enter Tryz.func145,Tryz.ntmps145
  go_wp2
  go_ret
  exact ⟨rfl,below_alloc _ _⟩
set_option maxRecDepth 100000 in
set_option maxHeartbeats 4000000 in
theorem follow_links (a : Option Addr) (c : Nat) (l : List Ob) (a2 : Option Addr) (c2 : Nat) (ids : List Int) (w : World) (hll : l.length ≤ 9223372036854775807) (h2 : Holds w a2 ids) (hil : ids.length ≤ 9223372036854775807)
    (hids : ∀ i ∈ ids,0 ≤ i ∧ i ≤ 99) (hl : ∀ x ∈ l,0 ≤ x.id ∧ x.id ≤ 99) (good : Ob → Prop) (on : Ob → List Int) (hon : ∀ x ∈ l,good x → ∀ i ∈ on x,0 ≤ i ∧ i ≤ 99) (hg0 : ∀ x ∈ l,x.id ∈ ids → good x) (hg1 : ∀ x ∈ l,good x → ∀ y ∈ l,y.id ∈ on x → good y)
    (rs : List Pl) (hrs : rs.map Pl.x = l) (hrows : rs.length = 0 ∨ ∃ b off,a = some ⟨b,off,none⟩ ∧ b < w.heap.size ∧ ∀ k (hk : k < rs.length) j,j < 4 → w.cell? ⟨b,off + k * 4 + j,none⟩ = (rs[k].cells)[j]?)
    (hfun : ∀ r ∈ rs,good r.x → ∀ W,Below w.heap.size w W → Calls Tryz.prog 145 #[r.x.val r.sa r.sc] W fun e W'=>∃ a' c',e = .returned (.slice a' (on r.x).length c') ∧ Holds w a' (on r.x) ∧ (on r.x).length ≤ 9223372036854775807 ∧ Below W.heap.size W W') :
    Calls Tryz.prog 143 #[.slice a l.length c,.func (.func 145) #[] #[],.slice a2 ids.length c2] w fun e w'=>e = .returned (.agg (marksL (l.foldr (fun x S=>stepF on S x) ids))) ∧ Below w.heap.size w w':=by
  refine (callsIn_wide (n:=6)).1 ?_
  refine callsIn_of_wp_marks Tryz.func143 rfl trivial ?_ rfl
  simp only [Tryz.ntmps143,List.size_toArray,List.length_cons,List.length_nil,Nat.reduceAdd,Nat.reduceSub,Array.replicate_succ,Array.replicate_zero,List.push_toArray,List.append_toArray,List.nil_append,List.cons_append]
  have FW0:=FW.start w (.func (.func 145) #[] #[])
  have hsz0 : (((w.alloc (.cells #[.func (.func 145) #[] #[]] 190)).alloc (.cells Tryz.zeroCells188 188)).alloc (.cells Tryz.zeroCells188 188)).heap.size = w.heap.size + 3:=by simp
  gi_wp2
  gi_loopw [16] (fun i wr=>∃ k : Nat,i = .int .i64 k ∧ k ≤ ids.length ∧ FW w (.func (.func 145) #[] #[]) (ids.take k) wr ∧ wr.heap.size = w.heap.size + 3) (fun i _=>ids.length - (intOf i).toNat)
  case atStart=>exact ⟨0,rfl,Nat.zero_le _,by rw [List.take_zero];exact FW0,hsz0⟩
  case round =>
    clear FW0 hsz0
    obtain ⟨k,rfl,hk,hF,hsz⟩:=hrel
    by_cases hlt : k < ids.length
    · obtain ⟨b, off, rfl, hb, hc⟩ := h2 k hlt
      have x0:=(hF.bl.cell (p:=⟨b,off + k,none⟩) hb).trans (hc k hlt)
      obtain ⟨i,hi,hi99⟩ : ∃ i : Nat,ids[k] = (i : Int) ∧ i < 100:=by
        have:=hids _ (List.getElem_mem hlt)
        exact ⟨ids[k].toNat,by omega,by omega⟩
      rw [show ids.getD k 0 = (i : Int) by rw [← hi];simp [hlt]] at x0
      have HM : Hid (FW w (.func (.func 145) #[] #[]) (ids.take (k + 1)) (wr.setCell ⟨w.heap.size + 1 + 1,i,none⟩ (.bool true))):=hF.mark i hi99 (fun j=>by
        rw [List.take_succ_eq_append_getElem hlt,hi]
        simp only [List.mem_append,List.mem_singleton]
        exact Or.comm)
      have y0:=hF.cell i hi99
      have y1:=hF.thaw i
      have hi99' : (i : Int) < 100:=by omega
      clear hc hi hF
      gi_wp2
      go_roundw
      case rel=>exact ⟨k + 1,by go_num,by omega,HM.out,by rw [← hsz];exact World.size_setCell _ _ _⟩
      case measure=>simp [intOf];omega
    · obtain rfl : k = ids.length := by omega
      rw [List.take_length] at hF
      gi_wp2
      refine ⟨trivial,(back_in 5 _ _ _ _).mono ?_⟩
      rintro e w' ⟨rfl,rfl⟩
      have hF1:=hF.below (below_alloc wr (.cells #[.slice a l.length c] 25))
      have hsz1 : (wr.alloc (.cells #[.slice a l.length c] 25)).heap.size = w.heap.size + 4:=by rw [World.size_alloc,hsz]
      have hbs:=heap_alloc_new wr (.cells #[.slice a l.length c] 25)
      rw [hsz] at hbs
      rw [hsz]
      clear hF hsz
      generalize wr.alloc (.cells #[.slice a l.length c] 25) = W0 at *
      gi_wp2
      have hrl : rs.length = l.length:=by rw [← hrs,List.length_map]
      have hcell : W0.cell? ⟨w.heap.size + 3,0,none⟩ = some (.slice a rs.length c):=by rw [cell_of_row W0 _ 0 _ _ _ hbs,hrl];rfl
      have hrows' : rs.length = 0 ∨ ∃ b off,a = some ⟨b,off,none⟩ ∧ b < w.heap.size ∧ ∀ k (hk : k < rs.length) j,j < 4 → W0.cell? ⟨b,off + k * 4 + j,none⟩ = (rs[k].cells)[j]?:=by
        rcases hrows with e | ⟨b,off,e,hb,hc⟩
        · exact .inl e
        · exact .inr ⟨b,off,e,hb,fun k hk j hj=>(hF1.bl.cell (p:=⟨b,off + k * 4 + j,none⟩) hb).trans (hc k hk j hj)⟩
      refine wpIn_rangeFunc_ownH (F:=Fence.wide) rfl (by omega) (gf:=240) (lb:=#[.pointer (some ⟨w.heap.size + 3,0,none⟩)]) rfl trivial (enters_of Tryz.func240 (by kernel_rfl) rfl)
        (back_stops 5 (by omega) (w.heap.size + 3) w.heap.size a c rs (· ∈ rs) (fun k hk=>List.getElem_mem hk) (by omega) W0 (by omega) (by omega) hcell hrows') KeptB.trans (KeptB.book (by omega) (by omega)) (Below.refl _ _) (fun _=>rfl)
        (fun pre W=>FW w (.func (.func 145) #[] #[]) (foldC on ids pre) W ∧ w.heap.size + 4 ≤ W.heap.size ∧ ∀ x ∈ l,x.id ∈ foldC on ids pre → good x)
        (fun _ _ _=>False)
        (fun pre W W' row hs hg hr=>⟨hs.1.own hg (by omega) hr,Nat.le_trans hs.2.1 hg.size,hs.2.2⟩)
        (fun _ _ _ _ _ hs _ _=>hs)
        ⟨hF1,by omega,fun x hx hi=>hg0 x hx hi⟩
        (fun x a' W=>∃ Bx,w.heap.size + 3 < Bx ∧ W.heap[Bx]? = some (.cells #[.int .i64 x.1.2.x.id,.int .i64 x.1.2.x.kind,.slice x.1.2.sa x.1.2.x.links.length x.1.2.sc,.string x.1.2.x.text] 58) ∧ a' = { tmps:=#[.slice a l.length c,.func (.func 145) #[] #[],.slice a2 ids.length c2,undef,
          .pointer (some ⟨w.heap.size,0,none⟩),undef,.pointer (some ⟨w.heap.size + 1,0,none⟩),.pointer (some ⟨w.heap.size + 1 + 1,0,none⟩),undef,u9,undef,.pointer (some ⟨Bx,0,none⟩),undef,undef,
          .slice a2 ids.length c2,.int .i64 ids.length,.int .i64 ids.length,.bool false,u18,u19,u20,u21,u22,.slice a l.length c,
          .func (.func 240) #[] #[.pointer (some ⟨w.heap.size + 3,0,none⟩)],.int .i64 (x.1.1 : Int),x.1.2.x.val x.1.2.sa x.1.2.sc,undef,undef,undef,undef,undef,undef,undef,undef,undef,undef,undef,undef,undef,undef,undef,undef,undef],defers:=[] })
        (fun x a' s W W' row hs hg hr=>by
          obtain ⟨Bx,h1,h2,h3⟩:=hs
          refine ⟨Bx,h1,(hg.block Bx (heap_lt h2) (fun e=>?_)).trans h2,h3⟩
          obtain ⟨_,o,ho,hc⟩:=hr Bx e.symm
          rw [h2] at ho
          cases ho
          cases hc) ?assign ?body ?done ?stop
      case assign =>
        rintro lp pre x W K hi hK
        simp only [Come.vals]
        gi_wp2
        have hA:=below_alloc W (.cells #[.int .i64 x.1.2.x.id,.int .i64 x.1.2.x.kind,.slice x.1.2.sa x.1.2.x.links.length x.1.2.sc,.string x.1.2.x.text] 58)
        exact hK _ _ ((KeepsOthers.alloc _ _).from _) ⟨hA.mono (by omega),hA.block _ (by omega)⟩ ⟨hi.1.below hA,Nat.le_trans hi.2.1 hA.size,hi.2.2⟩ ⟨W.heap.size,by omega,heap_alloc_new W _,rfl⟩
      case body =>
        rintro lp pre ⟨⟨ix,r⟩,hr⟩ a' W hlp ⟨rr,hrr⟩ ⟨hFI,hWs,hgd⟩ ⟨Bx,hBx,bX,rfl⟩ hlt2
        simp only at hr bX ⊢
        have hrx : r.x ∈ l:=by rw [← hrs];exact List.mem_map.2 ⟨r,hr,rfl⟩
        obtain ⟨i,hi,hi99⟩ : ∃ i : Nat,r.x.id = (i : Int) ∧ i < 100:=by
          have:=hl _ hrx
          exact ⟨r.x.id.toNat,by omega,by omega⟩
        have HI : Hid (r.x.id = (i : Int)):=hi
        have hi99' : (i : Int) < 100:=by omega
        have x0 : W.cell? ⟨Bx,0,none⟩ = some (.int .i64 (i : Int)):=by rw [cell_of_row W _ _ _ _ _ bX,hi];rfl
        have x1 : W.cell? ⟨Bx,1,none⟩ = some (.int .i64 r.x.kind):=by rw [cell_of_row W _ _ _ _ _ bX];rfl
        have x2 : W.cell? ⟨Bx,2,none⟩ = some (.slice r.sa r.x.links.length r.sc):=by rw [cell_of_row W _ _ _ _ _ bX];rfl
        have x3 : W.cell? ⟨Bx,3,none⟩ = some (.string r.x.text):=by rw [cell_of_row W _ _ _ _ _ bX];rfl
        have y0:=hFI.cell i hi99
        have z0 : W.cell? ⟨w.heap.size,0,none⟩ = some (.func (.func 145) #[] #[]):=by rw [cell_of_row W _ _ _ _ _ hFI.bx];rfl
        have HC : Hid (foldC on ids (pre ++ [(⟨(ix,r),hr⟩ : Come (· ∈ rs))]) = stepF on (foldC on ids pre) r.x):=foldC_snoc _ _ _ _
        obtain ⟨S,hS⟩ : ∃ S,S = foldC on ids pre:=⟨_,rfl⟩
        rw [← hS] at hFI hgd y0 HC
        clear hS bX hi
        by_cases hm : (i : Int) ∈ S
        · have hgx : good r.x := hgd r.x hrx (by rw [HI.out]; exact hm)
          have HS : Hid (stepF on S r.x = on r.x ++ S):=by unfold Hid stepF;rw [if_pos (by rw [HI.out];exact hm)]
          rw [show decide ((i : Int) ∈ S) = true by simpa using hm] at y0
          clear hm
          have hfr:=hfun r hr hgx W hFI.bl
          simp only [Ob.val,HI.out] at hfr
          have hLr:=hon r.x hrx hgx
          have HGN : Hid (∀ y ∈ l,y.id ∈ on r.x ++ S → good y):=fun y hy hyS=>(List.mem_append.1 hyS).elim (fun q=>hg1 r.x hrx hgx y hy q) (fun q=>hgd y hy q)
          obtain ⟨L,hLe⟩ : ∃ L,L = on r.x:=⟨_,rfl⟩
          rw [← hLe] at hfr hLr HS HGN
          clear hLe hgx hgd
          gi_wp2
          refine ⟨trivial,(CallsIn.inRound lp (callsIn_wide.2 hfr)).mono ?_⟩
          clear hfr
          rintro e W1 ⟨a3,c3,rfl,hH,hLl,hb1⟩
          have hF1':=hFI.below hb1
          have hK1 : KeepsOthers W W1:=⟨hb1.size,fun k o hk _=>(hb1.block k (heap_lt hk)).trans hk⟩
          have hKB : KeptB w.heap.size (w.heap.size + 3) W W1:=⟨hb1.mono (by omega),hb1.block _ (by omega)⟩
          have hWs1:=Nat.le_trans hWs hb1.size
          clear hb1 hFI x0 x1 x2 x3 y0 z0 hWs
          gi_wp2
          gi_loopw [36] (fun i wr=>∃ k : Nat,i = .int .i64 k ∧ k ≤ L.length ∧ FW w (.func (.func 145) #[] #[]) (L.take k ++ S) wr ∧ KeptB w.heap.size (w.heap.size + 3) W wr ∧ KeepsOthers W wr ∧ w.heap.size + 4 ≤ wr.heap.size) (fun i _=>L.length - (intOf i).toNat)
          case atStart=>exact ⟨0,rfl,Nat.zero_le _,by rw [List.take_zero];exact hF1',hKB,hK1,hWs1⟩
          case round =>
            clear hF1' hKB hK1 hWs1
            obtain ⟨k,rfl,hk,hF,hKB,hKO,hWs⟩:=hrel
            by_cases hlt : k < L.length
            · obtain ⟨b, off, rfl, hb, hc⟩ := hH k hlt
              have x0:=(hF.bl.cell (p:=⟨b,off + k,none⟩) hb).trans (hc k hlt)
              obtain ⟨y,hy,hy99⟩ : ∃ y : Nat,L[k] = (y : Int) ∧ y < 100:=by
                have:=hLr _ (List.getElem_mem hlt)
                exact ⟨L[k].toNat,by omega,by omega⟩
              rw [show L.getD k 0 = (y : Int) by rw [← hy];simp [hlt]] at x0
              have HM : Hid (FW w (.func (.func 145) #[] #[]) (L.take (k + 1) ++ S) (wr.setCell ⟨w.heap.size + 1 + 1,y,none⟩ (.bool true))):=hF.mark y hy99 (fun j=>by
                rw [List.take_succ_eq_append_getElem hlt,hy]
                simp only [List.mem_append,List.mem_singleton,or_assoc]
                exact or_left_comm)
              have y0:=hF.cell y hy99
              have y1:=hF.thaw y
              have hy99' : (y : Int) < 100:=by omega
              have HB : Hid (KeptB w.heap.size (w.heap.size + 3) W (wr.setCell ⟨w.heap.size + 1 + 1,y,none⟩ (.bool true))) :=
                ⟨hKB.1.setCell (p:=⟨w.heap.size + 1 + 1,y,none⟩) (by show w.heap.size ≤ w.heap.size + 1 + 1;omega) _,(heap_setCell_other wr _ _ _ (by show w.heap.size + 3 ≠ w.heap.size + 1 + 1;omega)).trans hKB.2⟩
              clear hc hy hF hKB
              gi_wp2
              go_roundw
              case rel=>exact ⟨k + 1,by go_num,by omega,HM.out,HB.out,hKO.trans (KeepsOthers.setCell _ _ _),by rw [World.size_setCell];exact hWs⟩
              case measure=>simp [intOf];omega
            · obtain rfl : k = L.length := by omega
              rw [List.take_length] at hF
              gi_wp2
              refine ⟨hKO.from _,hKB,?_⟩
              show FW w _ (foldC on ids (pre ++ [(⟨(ix,r),hr⟩ : Come (· ∈ rs))])) _ ∧ _ ∧ _
              rw [HC.out,HS.out]
              exact ⟨hF,hWs,HGN.out⟩
        · have HS : Hid (stepF on S r.x = S) := by unfold Hid stepF; rw [if_neg (by rw [HI.out]; exact hm)]
          rw [show decide ((i : Int) ∈ S) = false by simpa using hm] at y0
          clear hm
          gi_wp2
          refine ⟨KeepsFrom.refl _ _,⟨Below.refl _ _,rfl⟩,?_⟩
          show FW w _ (foldC on ids (pre ++ [(⟨(ix,r),hr⟩ : Come (· ∈ rs))])) _ ∧ _ ∧ _
          rw [HC.out,HS.out]
          exact ⟨hFI,hWs,hgd⟩
      case done =>
        rintro D ys W hD hS ⟨hFI,hWs,-⟩ hK
        clear hrows hrows' hcell hF1 hbs hfun
        have hfold : foldC on ids ys = l.foldr (fun x S=>stepF on S x) ids:=by
          have e : foldC on ids ys = (ys.map (fun r=>r.1.2)).foldl (fun S r=>stepF on S r.x) ids:=by unfold foldC;rw [List.foldl_map]
          rw [e,hS,List.foldl_reverse,← hrs,List.foldr_map]
        have HFO : Hid (foldC on ids ys = l.foldr (fun x S=>stepF on S x) ids):=hfold
        obtain ⟨S,hSe⟩ : ∃ S,S = foldC on ids ys:=⟨_,rfl⟩
        rw [← hSe] at hFI HFO
        clear hSe hS hfold
        gi_wp2
        refine wide_load_row (.tmp 7) rfl (w.heap.size + 1 + 1) rfl S hFI.mm ?_
        simp only [Act.put,List.setIfInBounds_toArray,List.set_cons_zero,List.set_cons_succ]
        have hsc : (storeCells ⟨w.heap.size + 1,0,none⟩ (marksL S).toList).run Tryz.prog W = .ok () (W.setRow (w.heap.size + 1) (marksL S)):=run_store_marks W _ S [] hFI.rz
        have hms:=marksL_size S
        have hr1:=setRow_heap W (w.heap.size + 1) _ (marksL S) _ _ hFI.rz
        have hK1:=(setRow_other W (w.heap.size + 1) D (marksL S) (by omega)).trans hK
        have hb1 : Below w.heap.size w (W.setRow (w.heap.size + 1) (marksL S)):=⟨hFI.bl.os,hFI.bl.tape,hFI.bl.output,by rw [size_setRow];exact hFI.bl.size,fun k hk=>(setRow_other W _ k _ (by omega)).trans (hFI.bl.block k hk)⟩
        gi_wp2
        refine ⟨by simp,.inl ⟨_,_,rfl,run_takeDeferred hK1,?_⟩⟩
        have hD2 : w.heap.size + 4 ≤ D:=by omega
        have hDl : D < (W.setRow (w.heap.size + 1) (marksL S)).heap.size:=heap_lt hK1
        have hgp:=grownBy_putObj' (W.setRow (w.heap.size + 1) (marksL S)) D (.deferred none)
        refine ⟨_,results_marks _ (w.heap.size + 1) _ rfl S ((hgp.block _ (by omega) (fun e=>by cases e;omega)).trans hr1),?_⟩
        refine ⟨by rw [HFO.out],hb1.grown hgp hb1.size (fun k e=>by cases e;omega)⟩
      case stop =>
        rintro D c pre W _ _ h _
        exact h.elim
end
theorem followL_any (a : Option Addr) (c : Nat) (l : List Ob) (a2 : Option Addr) (c2 : Nat) (ids : List Int) (w : World) (h : HoldsS w a l) (hck : checkS l = 0) (h2 : Holds w a2 ids) (hil : ids.length ≤ 9223372036854775807) (hth : thereE l ids = 0) :
    Calls Tryz.prog 143 #[.slice a l.length c,.func (.func 145) #[] #[],.slice a2 ids.length c2] w fun e w'=>e = .returned (.agg (marksL (reachL l ids))) ∧ Below w.heap.size w w':=by
  obtain ⟨rs,hrs,hrows,hh⟩:=rows_of h
  have h40:=(checkS_iff.1 hck).1
  have hid:=right_id hck
  have hlk:=right_links hck
  have hmem : ∀ r ∈ rs,r.x ∈ l:=fun r hr=>by rw [← hrs];exact List.mem_map.2 ⟨r,hr,rfl⟩
  refine follow_links a c l a2 c2 ids w (by omega) h2 hil (fun i hi=>?_) (fun x hx=>by have:=hid x hx;omega) (fun _=>True) Ob.links (fun x hx _ i hi=>by have:=hlk x hx i hi;have:=hid x hx;omega) (fun _ _ _=>trivial) (fun _ _ _ _ _ _=>trivial) rs hrs hrows ?_
  · obtain ⟨x, hx, rfl⟩ := thereE_iff.1 hth i hi
    have:=hid x hx;omega
  · intro r hr _ W hW
    refine (links_any r.x r.sa r.sc W).mono ?_
    rintro e W' ⟨rfl,hb⟩
    exact ⟨_,_,rfl,hh r hr,by have:=right_four hck r.x (hmem r hr);omega,hb⟩
set_option maxHeartbeats 2000000 in
theorem reached_any (a : Option Addr) (c : Nat) (l : List Ob) (a2 : Option Addr) (c2 : Nat) (ids : List Int) (w : World) (h : HoldsS w a l) (hl : l.length ≤ 9223372036854775807) (h2 : Holds w a2 ids) (hil : ids.length ≤ 9223372036854775807) :
    Calls Tryz.prog 88 #[.slice a l.length c,.slice a2 ids.length c2] w (ReachedPost l ids w):=by
  go_enter Tryz.func88,Tryz.ntmps88
  go_wp2_with fail
  refine (checkS_any a c l w h hl).mono ?_
  rintro e w1 ⟨rfl,hb1⟩
  by_cases k1 : checkS l = 0
  case neg =>
    have HR : Hid (reachE l ids = checkS l ∧ checkS l ≠ 0):=⟨by rw [reachE,if_pos k1],k1⟩
    have hz : (checkS l != 0) = true:=by simpa using k1
    clear k1
    go_wp2
    refine bodyPost_ret (v:=.tuple #[.slice none 0 0,.int .i64 (checkS l)]) (by simp [results,Tryz.results88,go_sem]) rfl ?_
    exact ⟨hb1,.inl ⟨by rw [HR.out.1];exact HR.out.2,by rw [HR.out.1]⟩⟩
  have K1 : Hid (checkS l = 0):=k1
  rw [k1]
  go_wp2_with fail
  refine (mustBeThere_any a c l a2 c2 ids w1 (h.below hb1) hl (h2.below hb1) hil).mono ?_
  rintro e w2 ⟨rfl,hb2⟩
  have hB2:=hb1.trans (hb2.mono hb1.size)
  clear hb1 hb2
  by_cases k2 : thereE l ids = 0
  case neg =>
    have HR : Hid (reachE l ids = thereE l ids ∧ thereE l ids ≠ 0):=⟨by rw [reachE,if_neg (fun e=>e K1.out)],k2⟩
    have hz : (thereE l ids != 0) = true:=by simpa using k2
    clear k1 k2
    go_wp2
    refine bodyPost_ret (v:=.tuple #[.slice none 0 0,.int .i64 (thereE l ids)]) (by simp [results,Tryz.results88,go_sem]) rfl ?_
    exact ⟨hB2,.inl ⟨by rw [HR.out.1];exact HR.out.2,by rw [HR.out.1]⟩⟩
  have HE : Hid (reachE l ids = 0):=by unfold Hid;rw [reachE,if_neg (fun e=>e K1.out)];exact k2
  have hfo:=followL_any a c l a2 c2 ids w2 (h.below hB2) k1 (h2.below hB2) hil k2
  have h40:=(checkS_iff.1 k1).1
  have hid:=right_id k1
  have h4:=right_four k1
  rw [k2]
  clear k1 k2
  obtain ⟨R,hR⟩ : ∃ R,R = reachL l ids:=⟨_,rfl⟩
  have HP : Hid (partL l ids = l.filter (fun x=>decide (x.id ∈ R))):=by unfold Hid partL;rw [hR]
  rw [← hR] at hfo
  clear hR
  go_wp2_with fail
  refine hfo.mono ?_
  clear hfo
  rintro e w3 ⟨rfl,hb3⟩
  have hB3:=hB2.trans (hb3.mono hB2.size)
  clear hb3 hB2
  have hms:=marksL_size R
  have hnew : (w3.alloc (.cells Tryz.zeroCells188 188)).heap[w3.heap.size]? = some (.cells (marksL []) 188):=by rw [← zeroMarks];exact heap_alloc_new w3 _
  have hsc:=run_store_marks _ w3.heap.size R [] hnew
  have hA:=below_alloc w3 (.cells Tryz.zeroCells188 188)
  have hmk:=setRow_heap (w3.alloc (.cells Tryz.zeroCells188 188)) w3.heap.size _ (marksL R) _ _ hnew
  have hB4 : Below w.heap.size w ((w3.alloc (.cells Tryz.zeroCells188 188)).setRow w3.heap.size (marksL R)):=by
    have q:=hB3.trans (hA.mono hB3.size)
    exact ⟨q.os,q.tape,q.output,by rw [size_setRow];exact q.size,fun k hk=>(setRow_other _ _ k _ (by have:=hB3.size;omega)).trans (q.block k hk)⟩
  have hsz4 : ((w3.alloc (.cells Tryz.zeroCells188 188)).setRow w3.heap.size (marksL R)).heap.size = w3.heap.size + 1:=by rw [size_setRow,World.size_alloc]
  go_wp2_with fail
  clear hsc hnew hA
  have hw3:=hB3.size
  clear hB3
  generalize (w3.alloc (.cells Tryz.zeroCells188 188)).setRow w3.heap.size (marksL R) = W4 at *
  obtain ⟨B8,hB8⟩ : ∃ B8,B8 = w3.heap.size:=⟨_,rfl⟩
  rw [← hB8] at hmk hsz4 hw3
  rw [← hB8]
  clear hB8
  go_loopw [9,28] (fun v i wr=>∃ k : Nat,i = .int .i64 k ∧ k ≤ l.length ∧ Kept w (B8 + 1) ((l.take k).filter (fun x=>decide (x.id ∈ R))) v wr ∧ wr.heap[B8]? = some (.cells (marksL R) 188) ∧ Below w.heap.size w wr ∧ B8 + 1 ≤ wr.heap.size) (fun _ i _=>l.length - (intOf i).toNat)
  case atStart=>exact ⟨0,rfl,Nat.zero_le _,⟨[],rfl,World.ownsRow_nil _ _ _ _,(fun r (hr : r ∈ [])=>by cases hr)⟩,hmk,hB4,by omega⟩
  case round =>
    clear hmk hB4 hsz4
    obtain ⟨k,rfl,hk,HK,hmk,hB,hsz⟩:=hrel
    by_cases hlt : k < l.length
    · obtain ⟨b, off, rfl, hb, hcc⟩ := h k hlt
      obtain ⟨sa,sc,x0,x1,x2,x3,x4,x5⟩:=hcc k hlt
      have y0:=(hB.cell (p:=⟨b,off + k * 4,none⟩) hb).trans x0
      have y1:=(hB.cell (p:=⟨b,off + k * 4 + 1,none⟩) hb).trans x1
      have y2:=(hB.cell (p:=⟨b,off + k * 4 + 2,none⟩) hb).trans x2
      have y3:=(hB.cell (p:=⟨b,off + k * 4 + 3,none⟩) hb).trans x3
      clear hcc x0 x1 x2 x3 x5
      obtain ⟨i,hi,hi99⟩ : ∃ i : Nat,l[k].id = (i : Int) ∧ i < 100:=by
        have:=hid _ (List.getElem_mem hlt)
        exact ⟨l[k].id.toNat,by omega,by omega⟩
      rw [hi] at y0
      have hi99' : (i : Int) < 100:=by omega
      have hA:=below_alloc wr (.cells #[.int .i64 (i : Int),.int .i64 l[k].kind,.slice sa l[k].links.length sc,.string l[k].text] 58)
      have hbk:=heap_alloc_new wr (.cells #[.int .i64 (i : Int),.int .i64 l[k].kind,.slice sa l[k].links.length sc,.string l[k].text] 58)
      have hmk1:=(hA.block B8 (by omega)).trans hmk
      have HK1:=HK.below hA
      have hB1:=hB.trans (hA.mono hB.size)
      have hsz1:=Nat.le_trans hsz hA.size
      have zm : wr.cell? ⟨B8,i,none⟩ = some (.bool (decide ((i : Int) ∈ R))):=by rw [cell_of_row wr _ _ _ _ _ hmk,marksL_get R i hi99]
      have hB8l : B8 < wr.heap.size:=by omega
      have zm1:=(hA.cell (p:=⟨B8,i,none⟩) hB8l).trans zm
      clear hmk HK hB hsz hA hbk
      by_cases hm : (i : Int) ∈ R
      · have HF : Hid ((l.take (k + 1)).filter (fun x=>decide (x.id ∈ R)) = (l.take k).filter (fun x=>decide (x.id ∈ R)) ++ [l[k]]):=by
          unfold Hid
          rw [List.take_succ_eq_append_getElem hlt,List.filter_append,List.filter_cons_of_pos (by simpa [hi] using hm),List.filter_nil]
        rw [show decide ((i : Int) ∈ R) = true by simpa using hm] at zm zm1
        obtain ⟨v',w',hr,HN,hgr⟩:=HK1.next (by have:=List.length_filter_le (fun x=>decide (x.id ∈ R)) (l.take k);rw [List.length_take] at this;omega) hsz1 l[k] sa sc x4 (by have:=h4 _ (List.getElem_mem hlt);omega) 25
        rw [hi,World.size_alloc] at hr
        clear hm
        go_wp2_with (show wpList _ _ _ ({dst:=some 39,op:=_,type:=_,pos:=_,after:=_,guard:=_} :: _) _ _;refine id ?roundEnd)
        refine wpList_append_runs rfl (.tmp 36) (.tmp 38) rfl _ _ (by rfl) (by rfl) hr ?go
        simp only [Act.put,List.setIfInBounds_toArray,List.set_cons_zero,List.set_cons_succ]
        have hown:=HK1.block
        have hmk2:=(hgr.block B8 (heap_lt hmk1) (fun e=>by have:=hown _ e.symm;omega)).trans hmk1
        have hB2 : Below w.heap.size w w':=hB1.grown hgr hB1.size (fun g e=>by have:=hown g e;omega)
        have hsz2:=Nat.le_trans hsz1 hgr.size
        clear hr hmk1 hgr y0 y1 y2 y3 zm zm1 HK1 hB1 hsz1 hown
        go_wp2
        go_roundw
        case rel=>exact ⟨k + 1,by go_num,by omega,by rw [HF.out];exact HN,hmk2,hB2,hsz2⟩
        case measure=>simp [intOf];omega
      · have HF : Hid ((l.take (k + 1)).filter (fun x=>decide (x.id ∈ R)) = (l.take k).filter (fun x=>decide (x.id ∈ R))):=by
          unfold Hid
          rw [List.take_succ_eq_append_getElem hlt,List.filter_append,List.filter_cons_of_neg (by simpa [hi] using hm),List.filter_nil,List.append_nil]
        rw [show decide ((i : Int) ∈ R) = false by simpa using hm] at zm zm1
        clear hm
        go_wp2
        go_roundw
        case rel=>exact ⟨k + 1,by go_num,by omega,by rw [HF.out];exact HK1,hmk1,hB1,hsz1⟩
        case measure=>simp [intOf];omega
    · have HF : Hid (Kept w w.heap.size (partL l ids) u9 wr):=by
        unfold Hid
        rw [HP.out]
        rw [List.take_of_length_le (by omega)] at HK
        exact HK.mono (by omega)
      go_wp2
      refine bodyPost_ret (v:=.tuple #[u9,.int .i64 0]) (by simp [results,Tryz.results88,go_sem]) rfl ?_
      exact ⟨hB,.inr ⟨HE.out,_,rfl,HF.out⟩⟩
set_option maxHeartbeats 1000000 in
theorem reach_any (a : Option Addr) (c : Nat) (l : List Ob) (a2 : Option Addr) (c2 : Nat) (ids : List Int) (w : World) (h : HoldsS w a l) (hl : l.length ≤ 9223372036854775807) (h2 : Holds w a2 ids) (hil : ids.length ≤ 9223372036854775807) :
    Calls Tryz.prog 86 #[.slice a l.length c,.slice a2 ids.length c2] w (ReachPost l ids w):=by
  go_enter Tryz.func86,Tryz.ntmps86
  go_wp2_with fail
  refine (reached_any a c l a2 c2 ids w h hl h2 hil).mono ?_
  rintro e w1 ⟨hb1,⟨hne,rfl⟩ | ⟨hz,v,rfl,HK⟩⟩
  · have HZ : Hid (reachE l ids ≠ 0) := hne
    have hz : (reachE l ids != 0) = true:=by simpa using hne
    clear hne
    go_wp2
    refine bodyPost_ret (v:=.tuple #[.slice none 0 0,.int .i64 (reachE l ids)]) (by simp [results,Tryz.results86,go_sem]) rfl ?_
    exact ⟨hb1,.inl ⟨HZ.out,rfl⟩⟩
  · have h40 : (partL l ids).length ≤ 40:=by
      have hck : checkS l = 0:=by
        unfold reachE at hz
        split at hz
        · rename_i q;exact absurd hz q
        · rename_i q;exact Classical.byContradiction q
      exact Nat.le_trans (partL_length l ids) (checkS_iff.1 hck).1
    have HZ : Hid (reachE l ids = 0):=hz
    obtain ⟨a6,c6,rfl,h6,_⟩:=HK.reads hb1
    obtain ⟨m,hm⟩ : ∃ m,m = partL l ids:=⟨_,rfl⟩
    have HM : Hid (m = partL l ids):=hm
    rw [← hm] at h40 h6
    rw [← hm]
    clear hz HK hm
    go_wp2
    go_loopw [8,22] (fun v i wr=>∃ k : Nat,i = .int .i64 k ∧ k ≤ m.length ∧ wr.ownsRow w1.heap.size 3 1 v k (((m.take k).map Ob.id).map (Value.int .i64)) ∧ Below w1.heap.size w1 wr) (fun _ i _=>m.length - (intOf i).toNat)
    case atStart=>exact ⟨0,rfl,Nat.zero_le _,World.ownsRow_nil _ _ _ _,Below.refl _ _⟩
    case round =>
      obtain ⟨k,rfl,hk,HO,hB⟩:=hrel
      by_cases hlt : k < m.length
      · obtain ⟨b, off, rfl, hb, hcc⟩ := h6 k hlt
        obtain ⟨sa,sc,x0,x1,x2,x3,x4,x5⟩:=hcc k hlt
        have y0:=(hB.cell (p:=⟨b,off + k * 4,none⟩) hb).trans x0
        have y1:=(hB.cell (p:=⟨b,off + k * 4 + 1,none⟩) hb).trans x1
        have y2:=(hB.cell (p:=⟨b,off + k * 4 + 2,none⟩) hb).trans x2
        have y3:=(hB.cell (p:=⟨b,off + k * 4 + 3,none⟩) hb).trans x3
        clear hcc x0 x1 x2 x3 x4 x5
        have hA:=below_alloc wr (.cells #[.int .i64 m[k].id,.int .i64 m[k].kind,.slice sa m[k].links.length sc,.string m[k].text] 58)
        obtain ⟨g',cap',w',hr,HN,hgr⟩:=ids_next (HO.alloc (.cells #[.int .i64 m[k].id,.int .i64 m[k].kind,.slice sa m[k].links.length sc,.string m[k].text] 58)) (by omega) (Nat.le_trans hB.size hA.size) m[k].id 45
        rw [World.size_alloc] at hr
        have hB2 : Below w1.heap.size w1 w':=(hB.trans (hA.mono hB.size)).grown hgr (Nat.le_trans hB.size hA.size) (fun g e=>(HO.lt g e).1)
        have HF : Hid (w'.ownsRow w1.heap.size 3 1 (.slice g' (k + 1) cap') (k + 1) (((m.take (k + 1)).map Ob.id).map (Value.int .i64))):=by
          unfold Hid
          rw [List.take_succ_eq_append_getElem hlt,List.map_append]
          exact HN
        clear HN hgr hB hA HO
        go_wp2_with (show wpList _ _ _ ({dst:=some 30,op:=_,type:=_,pos:=_,after:=_,guard:=_} :: _) _ _;refine id ?roundEnd)
        refine wpList_append27 rfl (.tmp 26) (.tmp 29) rfl _ _ (by rfl) (by rfl) hr ?go
        simp only [Act.put,List.setIfInBounds_toArray,List.set_cons_zero,List.set_cons_succ]
        clear hr y0 y1 y2 y3
        go_wp2
        go_roundw
        case rel=>exact ⟨k + 1,by go_num,by omega,HF.out,hB2⟩
        case measure=>simp [intOf];omega
      · obtain rfl : k = m.length := by omega
        rw [List.take_length] at HO
        obtain ⟨g',cap',e',hh,_⟩:=own_shape (L:=m.map Ob.id) HO (by simp)
        subst e'
        have hB1:=hb1.trans (hB.mono hb1.size)
        have hnn : g' = none → cap' = 0:=by
          rcases HO.2 with ⟨e,_⟩ | ⟨g,cap,cur,e,_⟩
          · simp only [Value.slice.injEq] at e;exact fun _=>e.2.2
          · simp only [Value.slice.injEq] at e;exact fun q=>by rw [e.1] at q;cases q
        have HF : Hid (Below w.heap.size w wr ∧ Holds wr g' ((partL l ids).map Ob.id) ∧ (g' = none → cap' = 0)):=⟨hB1,by rw [← HM.out];exact hh,hnn⟩
        clear hB HO hh hB1 hnn
        go_wp2
        refine bodyPost_ret (v:=.tuple #[.slice g' m.length cap',.int .i64 0]) (by simp [results,Tryz.results86,go_sem]) rfl ?_
        refine ⟨HF.out.1,.inr ⟨HZ.out,g',cap',?_,HF.out.2.1,HF.out.2.2⟩⟩
        rw [List.length_map,← HM.out]
set_option maxHeartbeats 2000000 in
theorem part_any (a : Option Addr) (c : Nat) (l : List Ob) (a2 : Option Addr) (c2 : Nat) (ids : List Int) (w : World) (h : HoldsS w a l) (hl : l.length ≤ 9223372036854775807) (h2 : Holds w a2 ids) (hil : ids.length ≤ 9223372036854775807) :
    Calls Tryz.prog 33 #[.slice a l.length c,.slice a2 ids.length c2] w (PartPost l ids w):=by
  go_enter Tryz.func33,Tryz.ntmps33
  go_wp2_with fail
  refine (reached_any a c l a2 c2 ids w h hl h2 hil).mono ?_
  rintro e w1 ⟨hb1,⟨hne,rfl⟩ | ⟨hz,v,rfl,HK⟩⟩
  · have HZ : Hid (reachE l ids ≠ 0) := hne
    have hz : (reachE l ids != 0) = true:=by simpa using hne
    clear hne
    go_wp2
    refine bodyPost_ret (v:=.tuple #[.slice none 0 0,.int .i64 (reachE l ids)]) (by simp [results,Tryz.results33,go_sem]) rfl ?_
    exact ⟨hb1,.inl ⟨HZ.out,rfl⟩⟩
  have h40 : (partL l ids).length ≤ 40:=by
    have hck : checkS l = 0:=by
      unfold reachE at hz
      split at hz
      · rename_i q;exact absurd hz q
      · rename_i q;exact Classical.byContradiction q
    exact Nat.le_trans (partL_length l ids) (checkS_iff.1 hck).1
  have HZ : Hid (reachE l ids = 0):=hz
  obtain ⟨m,hm⟩ : ∃ m,m = partL l ids:=⟨_,rfl⟩
  have HM : Hid (m = partL l ids):=hm
  rw [← hm] at h40 HK
  clear hz hm
  rcases Nat.eq_zero_or_pos m.length with h0 | h0
  · obtain ⟨a6, c6, rfl, h6, _⟩ := HK.reads hb1
    rw [h0]
    go_wp2
    go_loopw [21] (fun i wr=>i = .int .i64 0 ∧ wr = w1) (fun _ _=>0)
    case atStart=>exact ⟨rfl,rfl⟩
    case round =>
      obtain ⟨rfl,rfl⟩:=hrel
      have HF : Hid (HoldsS wr a6 (partL l ids) ∧ (partL l ids).length = 0):=by unfold Hid;rw [← HM.out];exact ⟨h6,h0⟩
      go_wp2
      refine bodyPost_ret (v:=.tuple #[.slice a6 0 c6,.int .i64 0]) (by simp [results,Tryz.results33,go_sem]) rfl ?_
      exact ⟨hb1,.inr ⟨HZ.out,a6,c6,by rw [HF.out.2],HF.out.1⟩⟩
  · obtain ⟨g, c6, rs0, rfl, hmc, HP0⟩ := HK.row hb1 (Nat.le_refl _) h0
    clear HK
    go_wp2
    go_loopw [21] (fun i wr=>∃ (k : Nat) (rs : List Pl),i = .int .i64 k ∧ k ≤ m.length ∧ PRow w g m rs wr) (fun i _=>m.length - (intOf i).toNat)
    case atStart=>exact ⟨0,rs0,rfl,Nat.zero_le _,HP0⟩
    case round =>
      clear HP0
      obtain ⟨k,rs,rfl,hk,HP⟩:=hrel
      by_cases hlt : k < m.length
      · have hkr : k < rs.length := by rw [← HP.xs, List.length_map] at hlt; exact hlt
        have hc:=HP.cell k hkr
        have y0 : wr.cell? ⟨g,k * 4,none⟩ = some (.int .i64 rs[k].x.id):=hc 0 (by omega)
        have y1 : wr.cell? ⟨g,k * 4 + 1,none⟩ = some (.int .i64 rs[k].x.kind):=hc 1 (by omega)
        have y2 : wr.cell? ⟨g,k * 4 + 2,none⟩ = some (.slice rs[k].sa rs[k].x.links.length rs[k].sc):=hc 2 (by omega)
        have y3 : wr.cell? ⟨g,k * 4 + 3,none⟩ = some (.string rs[k].x.text):=hc 3 (by omega)
        have hA:=below_alloc wr (.cells #[.int .i64 rs[k].x.id,.int .i64 rs[k].x.kind,.slice rs[k].sa rs[k].x.links.length rs[k].sc,.string rs[k].x.text] 58)
        obtain ⟨hr1,hr2,hr3⟩:=HP.lies _ (List.getElem_mem hkr)
        have hcp:=copyOf_any rs[k].x rs[k].sa rs[k].sc _ (hr1.below hA) hr2
        obtain ⟨cur,hcur⟩:=HP.row
        have hgl : g < wr.heap.size:=heap_lt hcur
        clear hc hr1 hr2 hr3
        go_wp2_with fail
        refine hcp.mono ?_
        clear hcp
        rintro e W1 ⟨ta,tc,rfl,hta,hb2,hfr,-⟩
        have hb3:=hA.trans (hb2.mono hA.size)
        have HN:=HP.next W1 hb3 k hkr ta tc hta (fun b off e=>by have:=hfr b off e;have:=hA.size;omega)
        have z0:=(hb3.cell (p:=⟨g,k * 4,none⟩) hgl).trans y0
        have z1:=(hb3.cell (p:=⟨g,k * 4 + 1,none⟩) hgl).trans y1
        have z2:=(hb3.cell (p:=⟨g,k * 4 + 2,none⟩) hgl).trans y2
        have z3:=(hb3.cell (p:=⟨g,k * 4 + 3,none⟩) hgl).trans y3
        have hfz : ∀ i,W1.frozen? ⟨g,i,none⟩ = false:=fun i=>by simp [World.frozen?,(hb3.block g hgl).trans hcur]
        have f0:=hfz (k * 4)
        have f1:=hfz (k * 4 + 1)
        have f2:=hfz (k * 4 + 2)
        have f3:=hfz (k * 4 + 3)
        have hlt' : (k : Int) < (m.length : Int):=by omega
        clear HP hb2 hb3 hA hta hfr hfz y0 y1 y2 y3 hcur hgl
        go_wp2
        go_roundw
        case rel=>exact ⟨k + 1,_,by go_num,by omega,HN⟩
        case measure=>simp [intOf];omega
      · have HF : Hid (HoldsS wr (some ⟨g, 0, none⟩) (partL l ids)) := by unfold Hid; rw [← HM.out]; exact HP.reads
        have hB:=HP.bl
        clear HP
        go_wp2
        refine bodyPost_ret (v:=.tuple #[.slice (some ⟨g,0,none⟩) m.length c6,.int .i64 0]) (by simp [results,Tryz.results33,go_sem]) rfl ?_
        exact ⟨hB,.inr ⟨HZ.out,_,c6,by rw [HM.out],HF.out⟩⟩
set_option maxHeartbeats 4000000 in
theorem walkBegun_any (w : World) : Calls Tryz.prog 32 #[] w fun e w'=>e = .returned (.bool true) ∧ Below w.heap.size w w':=by
  go_enter Tryz.func32,Tryz.ntmps32
  go_wp2_with fail
  refine (shelf_room w).mono ?_
  rintro e w1 ⟨g1,rfl,hb1,hs1,-⟩
  have hA1:=below_alloc w1 (.cells #[.int .i64 3] 3)
  have hT1:=holds_one w1 3
  have hB1:=hb1.trans (hA1.mono hb1.size)
  have hs1':=hs1.below hA1
  clear hs1 hA1 hb1
  go_wp2_with fail
  refine (reach_any (some ⟨g1,0,none⟩) 5 shelfL (some ⟨w1.heap.size,0,none⟩) 1 [3] _ hs1' (by decide) hT1 (by decide)).mono ?_
  rintro e w2 ⟨hb2,⟨hno,-⟩ | ⟨-,a2,c2,rfl,hr2,-⟩⟩
  case inl=>exact absurd beg_reach hno
  rw [beg_part] at hr2
  rw [beg_part]
  have hB2:=hB1.trans (hb2.mono hB1.size)
  clear hs1' hT1 hB1 hb2
  simp only [List.map_cons,List.map_nil,List.length_cons,List.length_nil,Nat.zero_add,Nat.reduceAdd] at hr2 ⊢
  go_wp2_with fail
  refine (shelf_room w2).mono ?_
  rintro e w3 ⟨g3,rfl,hb3,hs3,-⟩
  have hA3:=below_alloc w3 (.cells #[.int .i64 3] 3)
  have hT3:=holds_one w3 3
  have hb3':=hb3.trans (hA3.mono hb3.size)
  have hB3:=hB2.trans (hb3'.mono hB2.size)
  have hs3':=hs3.below hA3
  have hr3:=hr2.below hb3'
  clear hs3 hA3 hb3 hb3' hr2 hB2
  go_wp2_with fail
  refine (part_any (some ⟨g3,0,none⟩) 5 shelfL (some ⟨w3.heap.size,0,none⟩) 1 [3] _ hs3' (by decide) hT3 (by decide)).mono ?_
  rintro e w4 ⟨hb4,⟨hno,-⟩ | ⟨-,a4,c4,rfl,hp4⟩⟩
  case inl=>exact absurd beg_reach hno
  rw [beg_part] at hp4
  rw [beg_part]
  have hB4:=hB3.trans (hb4.mono hB3.size)
  have hr4:=hr3.below hb4
  clear hs3' hT3 hB3 hb4 hr3
  simp only [List.length_cons,List.length_nil,Nat.zero_add,Nat.reduceAdd]
  go_wp2_with fail
  refine (shelf_room w4).mono ?_
  rintro e w5 ⟨g5,rfl,hb5,hs5,hR5⟩
  have hB5:=hB4.trans (hb5.mono hB4.size)
  have hr5:=hr4.below hb5
  have hp5:=hp4.below hb5
  clear hB4 hr4 hp4 hb5
  go_wp2_with fail
  refine (behind_any (some ⟨g5,0,none⟩) 5 shelfL 3 5 w5 hs5 hR5 (by decide)).mono ?_
  rintro e w6 ⟨rfl,hb6⟩
  rw [beg_35.1,beg_35.2]
  have hB6:=hB5.trans (hb6.mono hB5.size)
  have hr6:=hr5.below hb6
  have hp6:=hp5.below hb6
  clear hB5 hr5 hp5 hb6 hs5 hR5
  go_wp2_with fail
  refine (shelf_room w6).mono ?_
  rintro e w7 ⟨g7,rfl,hb7,hs7,hR7⟩
  have hB7:=hB6.trans (hb7.mono hB6.size)
  have hr7:=hr6.below hb7
  have hp7:=hp6.below hb7
  clear hB6 hr6 hp6 hb7
  go_wp2_with fail
  refine (behind_any (some ⟨g7,0,none⟩) 5 shelfL 5 3 w7 hs7 hR7 (by decide)).mono ?_
  rintro e w8 ⟨rfl,hb8⟩
  rw [beg_53.1,beg_53.2]
  have hB8:=hB7.trans (hb8.mono hB7.size)
  have hr8:=hr7.below hb8
  have hp8:=hp7.below hb8
  clear hB7 hr7 hp7 hb8 hs7 hR7
  go_wp2_with fail
  refine (shelf_room w8).mono ?_
  rintro e w9 ⟨g9,rfl,hb9,hs9,hR9⟩
  have hB9:=hB8.trans (hb9.mono hB8.size)
  have hr9:=hr8.below hb9
  have hp9:=hp8.below hb9
  clear hB8 hr8 hp8 hb9
  go_wp2_with fail
  refine (behind_any (some ⟨g9,0,none⟩) 5 shelfL 2 5 w9 hs9 hR9 (by decide)).mono ?_
  rintro e w10 ⟨rfl,hb10⟩
  rw [beg_25.1,beg_25.2]
  have hB10:=hB9.trans (hb10.mono hB9.size)
  have hr10:=hr9.below hb10
  have hp10:=hp9.below hb10
  clear hB9 hr9 hp9 hb10 hs9 hR9
  go_wp2_with fail
  have hA11:=below_alloc w10 (.cells #[.int .i64 1,.int .i64 2,.int .i64 3] 3)
  have hT11 : Holds (w10.alloc (.cells #[.int .i64 1,.int .i64 2,.int .i64 3] 3)) (some ⟨w10.heap.size,0,none⟩) [1,2,3]:=by
    intro i hi
    refine ⟨_,_,rfl,by simp,fun j hj=>?_⟩
    rw [World.cell?_alloc_at _ _ _ _ rfl]
    match j,hj with
    | 0,_=>rfl
    | 1,_=>rfl
    | 2,_=>rfl
  have hr11:=hr10.below hA11
  have hp11:=hp10.below hA11
  have hB11:=hB10.trans (hA11.mono hB10.size)
  clear hr10 hp10 hB10 hA11
  refine (sameInts_any a2 c2 [1,2,3] (some ⟨w10.heap.size,0,none⟩) 3 [1,2,3] _ hr11 hT11 (by decide)).mono ?_
  rintro e w12 ⟨rfl,nn,rfl⟩
  have hb12:=below_drewN (Below.refl (w10.alloc (.cells #[.int .i64 1,.int .i64 2,.int .i64 3] 3)).heap.size (w10.alloc (.cells #[.int .i64 1,.int .i64 2,.int .i64 3] 3))) nn
  rw [show sameB [1,2,3] [1,2,3] = true by decide]
  generalize (w10.alloc (.cells #[.int .i64 1,.int .i64 2,.int .i64 3] 3)).drewN nn = w12 at *
  have hB12:=hB11.trans (hb12.mono hB11.size)
  have hp12:=hp11.below hb12
  clear hb12 hB11 hp11 hr11 hT11
  go_wp2_with fail
  refine (shelf_room w12).mono ?_
  rintro e w13 ⟨g13,rfl,hb13,hs13,-⟩
  have hB13:=hB12.trans (hb13.mono hB12.size)
  have hp13:=hp12.below hb13
  have hs13' : HoldsS w13 (some ⟨g13,0,none⟩) [o1,o2,o3]:=holds_take hs13 3
  clear hb13 hB12 hp12 hs13
  go_wp2_with fail
  refine (sameStore_refl a4 c4 (some ⟨g13,0,none⟩) 5 [o1,o2,o3] w13 hp13 hs13' (by decide)).mono ?_
  rintro e w14 ⟨rfl,hb14⟩
  have hB14:=hB13.trans (hb14.mono hB13.size)
  clear hb14 hB13 hp13 hs13'
  go_wp2
  go_ret
  exact ⟨rfl,hB14⟩
end Go.Proofs.YtehmlpkapjdhkaaGreatDoor
