import Derived.Test.YtehmlpkapjdhkaaGreatDoorMK1
namespace Go.Proofs.YtehmlpkapjdhkaaGreatDoor
section
open Go.RowKit
set_option maxRecDepth 100000
theorem Objs.kept {w w' : World} {z : Nat} {v : Value} {rs : List Pl} (h : Objs w z v rs) (hs : w.heap.size ≤ w'.heap.size) (hk : ∀ k,z ≤ k → k < w.heap.size → w'.heap[k]? = w.heap[k]?) : Objs w' z v rs:=by
  refine ⟨ownsRow_same h.own (fun g hg=>hk g (h.own.lt g hg).1 (h.own.lt g hg).2),fun r hr=>?_⟩
  obtain ⟨h1,h2⟩:=h.each r hr
  refine ⟨h1,fun h0=>?_⟩
  obtain ⟨b,off,e,hpb,hlt,hne,hc⟩:=h2 h0
  exact ⟨b,off,e,hpb,Nat.lt_of_lt_of_le hlt hs,hne,fun i hi=>(World.cell?_of_block (a:=⟨b,off + i,none⟩) (hk b hpb hlt)).trans (hc i hi)⟩
theorem FreshR.kept {w w' : World} {z : Nat} {s : List Ob} {l : List Rf} {m : List Ob} {us : List Up} {aS al a1 a2 : Option Addr} {cs cl c1 c2 : Nat} (h : FreshR w z s l m us aS cs al cl a1 c1 a2 c2) (hs : w.heap.size ≤ w'.heap.size) (hk : ∀ k,z ≤ k → k < w.heap.size → w'.heap[k]? = w.heap[k]?) : FreshR w' z s l m us aS cs al cl a1 c1 a2 c2:=by
  obtain ⟨rs,e,o⟩:=h.objs
  obtain ⟨rs2,e2,o2⟩:=h.push.objs
  exact ⟨⟨rs,e,o.kept hs hk⟩,ownsRow_kept h.refs (fun g hg=>hk g (h.refs.lt g hg).1 (h.refs.lt g hg).2),⟨rs2,e2,o2.kept hs hk⟩,ownsRow_kept h.push.ups (fun g hg=>hk g (h.push.ups.lt g hg).1 (h.push.ups.lt g hg).2)⟩
abbrev zeroV : Value:=replV none 0 0 none 0 0 0 0 none 0 0 none 0 0 false
theorem FreshP.nil (w : World) (z : Nat) : FreshP w z [] [] none 0 none 0:=⟨⟨[],rfl,World.ownsRow_nil _ _ _ _,fun r hr=>by cases hr⟩,World.ownsRow_nil _ _ _ _⟩
structure RepF (w : World) (z : Nat) (aS : Option Addr) (cs : Nat) (s : List Ob) (al : Option Addr) (cl : Nat) (l : List Rf) (am : Option Addr) (cm : Nat) (m : List Ob) (au : Option Addr) (cu : Nat) (us : List Up) : Prop where
  h : RepH w aS s al l am m au us
  fr : FreshR w z s l m us aS cs al cl am cm au cu
theorem RepF.below {w w' : World} {z : Nat} {aS al am au : Option Addr} {cs cl cm cu : Nat} {s : List Ob} {l : List Rf} {m : List Ob} {us : List Up} (h : RepF w z aS cs s al cl l am cm m au cu us) (hb : Below w.heap.size w w') : RepF w' z aS cs s al cl l am cm m au cu us :=
  ⟨h.h.below hb,h.fr.below hb⟩
theorem RepF.from {w : World} {z z' : Nat} {aS al am au : Option Addr} {cs cl cm cu : Nat} {s : List Ob} {l : List Rf} {m : List Ob} {us : List Up} (h : RepF w z aS cs s al cl l am cm m au cu us) (hz : z' ≤ z) : RepF w z' aS cs s al cl l am cm m au cu us:=⟨h.h,h.fr.from hz⟩
theorem RepF.keep {w w' : World} {z : Nat} {aS al am au : Option Addr} {cs cl cm cu : Nat} {s : List Ob} {l : List Rf} {m : List Ob} {us : List Up} (h : RepF w z aS cs s al cl l am cm m au cu us) (hs : w.heap.size ≤ w'.heap.size) (hk : ∀ k,z ≤ k → w'.heap[k]? = w.heap[k]?) : RepF w' z aS cs s al cl l am cm m au cu us:=by
  have hf:=h.fr.keep hs hk
  have hh:=hf.holds
  exact ⟨⟨hh.1,hh.2.1,hh.2.2.1,hh.2.2.2,h.h.ns,h.h.nl,h.h.nm,h.h.nu⟩,hf⟩
def RepPost (E : Int) (s : List Ob) (l : List Rf) (g ph : Int) (m : List Ob) (us : List Up) (f : Bool) (w : World) (e : Ending) (w' : World) : Prop :=
  Below w.heap.size w w' ∧ ((E ≠ 0 ∧ e = .returned (.tuple #[zeroV,.int .i64 E])) ∨
    (E = 0 ∧ ∃ b0 d0 b1 d1 b2 d2 b3 d3,e = .returned (.tuple #[RV b0 d0 s b1 d1 l g ph b2 d2 m b3 d3 us f,.int .i64 0]) ∧ RepF w' w.heap.size b0 d0 s b1 d1 l b2 d2 m b3 d3 us))
theorem RepPost.bad {E r : Int} {s : List Ob} {l : List Rf} {g ph : Int} {m : List Ob} {us : List Up} {f : Bool} {w w' : World} (he : E = r) (h0 : r ≠ 0) (hb : Below w.heap.size w w') : RepPost E s l g ph m us f w (.returned (.tuple #[zeroV,.int .i64 r])) w' :=
  ⟨hb,.inl ⟨by rw [he];exact h0,by rw [he]⟩⟩
theorem rep_small {s : List Ob} {l : List Rf} {g ph : Int} {m : List Ob} {us : List Up} {f : Bool} (h : repE s l g ph m us f = 0) : s.length ≤ 40 ∧ (∀ x ∈ s,x.links.length ≤ 1000) ∧ l.length ≤ 8 ∧ m.length ≤ 12 ∧ (∀ x ∈ m,x.links.length ≤ 1000) ∧ us.length ≤ 4:=by
  obtain ⟨h1,_,_,h4,h5⟩:=repE_iff.1 h
  obtain ⟨r1,r2,_⟩:=refsE_iff.1 h1
  refine ⟨(checkS_zero r1).1,fun x hx=>err_links (checkS_err r1 x hx),r2,?_⟩
  by_cases hp : ph = 0
  · have:=h5 hp
    simp only [withoutB,Bool.and_eq_true,decide_eq_true_eq] at this
    have e1 : m = []:=List.eq_nil_of_length_eq_zero this.1.1
    have e2 : us = []:=List.eq_nil_of_length_eq_zero this.1.2
    subst e1 e2
    exact ⟨by simp,fun x hx=>(by cases hx),by simp⟩
  · exact push_small (h4 hp)
theorem set7_same (w : World) (q t : Nat) (x0 x1 x2 x3 x4 x5 x6 : Value) (h : w.heap[q]? = some (.cells #[x0,x1,x2,x3,x4,x5,x6] t)) :
    Below w.heap.size w (((((((w.setCell ⟨q,0,none⟩ x0).setCell ⟨q,1,none⟩ x1).setCell ⟨q,2,none⟩ x2).setCell ⟨q,3,none⟩ x3).setCell ⟨q,4,none⟩ x4).setCell ⟨q,5,none⟩ x5).setCell ⟨q,6,none⟩ x6):=by
  obtain ⟨h1,h2,h3⟩:=set7_block w q t x0 x1 x2 x3 x4 x5 x6 h
  refine ⟨h2.os,h2.tape,h2.output,h2.size,fun k _=>?_⟩
  by_cases e : k = q
  · subst e;rw [h1,h]
  · exact h3 k e
def duE (s : List Ob) (l : List Rf) (g ph : Int) (m : List Ob) (us : List Up) (f : Bool) (n : Int) : Int:=if repE s l g ph m us f ≠ 0 then repE s l g ph m us f else if ph ≠ n then 4 else 0
theorem duE_iff {s : List Ob} {l : List Rf} {g ph : Int} {m : List Ob} {us : List Up} {f : Bool} {n : Int} : duE s l g ph m us f n = 0 ↔ repE s l g ph m us f = 0 ∧ ph = n:=by
  unfold duE
  split
  · rename_i h;exact ⟨fun e=>absurd e h,fun e=>absurd e.1 h⟩
  · rename_i h
    split
    · rename_i h2;exact ⟨fun e=>(by cases e),fun e=>absurd e.2 h2⟩
    · rename_i h2;exact ⟨fun _=>⟨Classical.byContradiction h,Classical.byContradiction h2⟩,fun _=>rfl⟩
theorem duE_one {s : List Ob} {l : List Rf} {g ph : Int} {m : List Ob} {us : List Up} {f : Bool} {n : Int} (h : repE s l g ph m us f ≠ 0) : duE s l g ph m us f n = repE s l g ph m us f:=by unfold duE;rw [if_pos h]
theorem duE_two {s : List Ob} {l : List Rf} {g ph : Int} {m : List Ob} {us : List Up} {f : Bool} {n : Int} (h : repE s l g ph m us f = 0) (h2 : ph ≠ n) : duE s l g ph m us f n = 4:=by unfold duE;rw [if_neg (fun e=>e h),if_pos h2]
def prepE (s : List Ob) (l : List Rf) (g ph : Int) (m : List Ob) (us : List Up) (f : Bool) (m2 : List Ob) (us2 : List Up) : Int:=if duE s l g ph m us f 0 ≠ 0 then duE s l g ph m us f 0 else pushE m2 us2
def finS (s m : List Ob) : Bool → List Ob
  | true=>takeRes s m
  | false=>s
def finL (l : List Rf) (us : List Up) : Bool → List Rf
  | true=>runL l us
  | false=>l
def finG (g : Int) : Bool → Int
  | true=>g + 1
  | false=>g
def finE (s : List Ob) (l : List Rf) (g ph : Int) (m : List Ob) (us : List Up) (f c : Bool) : Int :=
  if duE s l g ph m us f 2 ≠ 0 then duE s l g ph m us f 2 else if c = false then 0 else if tryE s l m us f ≠ 0 then tryE s l m us f else if g = 999 then 2 else 0
end

section
open Go.RowKit
set_option maxRecDepth 100000
set_option maxHeartbeats 8000000 in
theorem during_prep (aS : Option Addr) (cs : Nat) (s : List Ob) (al : Option Addr) (cl : Nat) (l : List Rf) (g ph : Int) (a1 : Option Addr) (c1 : Nat) (m : List Ob) (a2 : Option Addr) (c2 : Nat) (us : List Up) (f : Bool) (q : Nat) (am : Option Addr) (cm : Nat) (m2 : List Ob) (au : Option Addr) (cu : Nat) (us2 : List Up) (f2 : Bool) (w : World) (hg : Glob w) (H : RepH w aS s al l a1 m a2 us) (hq : w.heap[q]? = some (.cells #[.slice am m2.length cm,.slice au us2.length cu,.bool f2] 28)) (hm2 : HoldsS w am m2) (hml2 : m2.length ≤ 9223372036854775807) (hu2 : HoldsU w au us2) (hul2 : us2.length ≤ 9223372036854775807) :
    Calls Tryz.prog 159 #[RV aS cs s al cl l g ph a1 c1 m a2 c2 us f,.int .i64 0,.func (.func 160) #[] #[.pointer (some ⟨q,0,none⟩)]] w (RepPost (prepE s l g ph m us f m2 us2) s l g 1 m2 us2 f2 w):=by
  have hB:=below_alloc2 w (RB aS cs s al cl l g ph a1 c1 m a2 c2 us f) zero28
  obtain ⟨hk1,hk2⟩:=two_blocks w (RB aS cs s al cl l g ph a1 c1 m a2 c2 us f) zero28
  obtain ⟨y0,y1,y2,y3,y4,y5,y6⟩:=c7_of hk1
  have hck:=repCheck_any aS cs s al cl l g ph a1 c1 m a2 c2 us f _ (hg.below hB) (H.below hB)
  have Hz : Hid (w.heap.size + 2 ≤ ((w.alloc (RB aS cs s al cl l g ph a1 c1 m a2 c2 us f)).alloc zero28).heap.size):=by unfold Hid;simp
  have HE : Hid (∀ r,prepE s l g ph m us f m2 us2 = r ↔ prepE s l g ph m us f m2 us2 = r):=fun _=>Iff.rfl
  go_enter Tryz.func159,Tryz.ntmps159
  go_wp2_with fail
  generalize (w.alloc (RB aS cs s al cl l g ph a1 c1 m a2 c2 us f)).alloc zero28 = W0 at *
  refine hck.mono ?_
  clear hck
  rintro e W1 ⟨rfl,hb1⟩
  have hB1:=hB.trans (hb1.mono hB.size)
  have k1:=(hb1.block _ (heap_lt hk1)).trans hk1
  have kk1:=(hb1.block _ (heap_lt hk2)).trans hk2
  have Hz1 : Hid (w.heap.size + 2 ≤ W1.heap.size):=Nat.le_trans Hz.out hb1.size
  clear hb1 hB hk1 hk2 y0 y1 y2 y3 y4 y5 y6
  by_cases c1 : repE s l g ph m us f = 0
  case neg =>
    have hzs:=set7_same W1 (w.heap.size + 1) 36 (.slice none 0 0) (.slice none 0 0) (.int .i64 0) (.int .i64 0) (.slice none 0 0) (.slice none 0 0) (.bool false) kk1
    obtain ⟨o0,o1,o2,o3,o4,o5,o6⟩:=c7_of kk1
    have fz0:=f_of (o:=0) kk1
    have fz1:=f_of (o:=1) kk1
    have fz2:=f_of (o:=2) kk1
    have fz3:=f_of (o:=3) kk1
    have fz4:=f_of (o:=4) kk1
    have fz5:=f_of (o:=5) kk1
    have fz6:=f_of (o:=6) kk1
    obtain ⟨i0,i1,i2,i3,i4,i5,i6⟩:=c7_of ((hzs.block _ (heap_lt kk1)).trans kk1)
    have HF : Hid (RepPost (prepE s l g ph m us f m2 us2) s l g 1 m2 us2 f2 w (.returned (.tuple #[zeroV,.int .i64 (repE s l g ph m us f)])) (((((((W1.setCell ⟨w.heap.size + 1,0,none⟩ (.slice none 0 0)).setCell ⟨w.heap.size + 1,1,none⟩ (.slice none 0 0)).setCell ⟨w.heap.size + 1,2,none⟩ (.int .i64 0)).setCell ⟨w.heap.size + 1,3,none⟩ (.int .i64 0)).setCell ⟨w.heap.size + 1,4,none⟩ (.slice none 0 0)).setCell ⟨w.heap.size + 1,5,none⟩ (.slice none 0 0)).setCell ⟨w.heap.size + 1,6,none⟩ (.bool false))):=RepPost.bad (by unfold prepE;rw [duE_one c1,if_pos c1]) c1 (hB1.trans (hzs.mono hB1.size))
    have z1 : (repE s l g ph m us f != 0) = true:=by simpa using c1
    clear c1 k1 kk1 hB1 hzs
    go_wp2
    refine bodyPost_ret (v:=.tuple #[zeroV,.int .i64 (repE s l g ph m us f)]) (by simp [results,Tryz.results159,go_sem,i0,i1,i2,i3,i4,i5,i6]) rfl ?_
    exact HF.out
  have HC : Hid (repE s l g ph m us f = 0):=c1
  rw [c1]
  clear c1
  obtain ⟨y0,y1,y2,y3,y4,y5,y6⟩:=c7_of k1
  by_cases zph : ph = 0
  case neg =>
    have hzs:=set7_same W1 (w.heap.size + 1) 36 (.slice none 0 0) (.slice none 0 0) (.int .i64 0) (.int .i64 0) (.slice none 0 0) (.slice none 0 0) (.bool false) kk1
    obtain ⟨o0,o1,o2,o3,o4,o5,o6⟩:=c7_of kk1
    have fz0:=f_of (o:=0) kk1
    have fz1:=f_of (o:=1) kk1
    have fz2:=f_of (o:=2) kk1
    have fz3:=f_of (o:=3) kk1
    have fz4:=f_of (o:=4) kk1
    have fz5:=f_of (o:=5) kk1
    have fz6:=f_of (o:=6) kk1
    obtain ⟨i0,i1,i2,i3,i4,i5,i6⟩:=c7_of ((hzs.block _ (heap_lt kk1)).trans kk1)
    have HF : Hid (RepPost (prepE s l g ph m us f m2 us2) s l g 1 m2 us2 f2 w (.returned (.tuple #[zeroV,.int .i64 4])) (((((((W1.setCell ⟨w.heap.size + 1,0,none⟩ (.slice none 0 0)).setCell ⟨w.heap.size + 1,1,none⟩ (.slice none 0 0)).setCell ⟨w.heap.size + 1,2,none⟩ (.int .i64 0)).setCell ⟨w.heap.size + 1,3,none⟩ (.int .i64 0)).setCell ⟨w.heap.size + 1,4,none⟩ (.slice none 0 0)).setCell ⟨w.heap.size + 1,5,none⟩ (.slice none 0 0)).setCell ⟨w.heap.size + 1,6,none⟩ (.bool false))):=RepPost.bad (by unfold prepE;rw [duE_two HC.out zph];rfl) (by decide) (hB1.trans (hzs.mono hB1.size))
    have z1 : (ph != 0) = true:=by simpa using zph
    clear zph k1 kk1 hB1 hzs
    go_wp2
    refine bodyPost_ret (v:=.tuple #[zeroV,.int .i64 4]) (by simp [results,Tryz.results159,go_sem,i0,i1,i2,i3,i4,i5,i6]) rfl ?_
    exact HF.out
  have ZP : Hid (ph = 0):=zph
  have z1 : (ph != 0) = false:=by simpa using zph
  clear zph
  obtain ⟨n1,n2,n3,n4,n5,n6⟩:=rep_small HC.out
  have hcr:=copyRep_any aS cs s al cl l g ph a1 c1 m a2 c2 us f W1 (H.hs.below hB1) (by omega) n2 (H.hl.below hB1) (by omega) (H.hm.below hB1) (by omega) n5 (H.hu.below hB1) (by omega)
  go_wp2_with fail
  refine hcr.mono ?_
  clear hcr
  rintro e W2 ⟨b0,d0,b1,d1,b2,d2,b3,d3,rfl,F2,hb2⟩
  have hB2:=hB1.trans (hb2.mono hB1.size)
  have kk2:=(hb2.block _ (heap_lt kk1)).trans kk1
  have hA3:=below_alloc W2 (repB b0 s.length d0 b1 l.length d1 g ph b2 m.length d2 b3 us.length d3 f 200)
  have k3:=heap_alloc_new W2 (repB b0 s.length d0 b1 l.length d1 g ph b2 m.length d2 b3 us.length d3 f 200)
  have hz12:=hb2.size
  have F3:=F2.below hA3
  have hB3:=hB2.trans (hA3.mono hB2.size)
  have kk3:=(hA3.block _ (heap_lt kk2)).trans kk2
  have h3:=F3.holds
  have R3 : RepH (W2.alloc (repB b0 s.length d0 b1 l.length d1 g ph b2 m.length d2 b3 us.length d3 f 200)) b0 s b1 l b2 m b3 us:=⟨h3.1,h3.2.1,h3.2.2.1,h3.2.2.2,H.ns,H.nl,H.nm,H.nu⟩
  have hs3 : (W2.alloc (repB b0 s.length d0 b1 l.length d1 g ph b2 m.length d2 b3 us.length d3 f 200)).heap.size = W2.heap.size + 1:=by simp
  clear F3 hb2 hB1 k1 kk1 kk2 h3 y0 y1 y2 y3 y4 y5 y6
  go_wp2_with fail
  generalize W2.alloc (repB b0 s.length d0 b1 l.length d1 g ph b2 m.length d2 b3 us.length d3 f 200) = W3 at *
  refine (prep1_any W2.heap.size q b0 s.length d0 b1 l.length d1 g ph b2 m.length d2 b3 us.length d3 f am cm m2 au cu us2 f2 W3 (hg.below hB3) k3 ((hB3.block _ (heap_lt hq)).trans hq) (hm2.below hB3) hml2 (hu2.below hB3) hul2).mono ?_
  rintro e W4 ⟨hb4,ho4,hpost⟩
  have kk4:=(ho4 (w.heap.size + 1) (heap_lt kk3) (by have:=Hz1.out;omega)).trans kk3
  have hB4:=hB3.trans (hb4.mono hB2.size)
  rcases hpost with ⟨hne,rfl⟩ | ⟨hp0,rfl,b4,d4,b5,d5,k4,FP⟩
  · have z2 : (pushE m2 us2 != 0) = true:=by simpa using hne
    have hzs:=set7_same W4 (w.heap.size + 1) 36 (.slice none 0 0) (.slice none 0 0) (.int .i64 0) (.int .i64 0) (.slice none 0 0) (.slice none 0 0) (.bool false) kk4
    obtain ⟨o0,o1,o2,o3,o4,o5,o6⟩:=c7_of kk4
    have fz0:=f_of (o:=0) kk4
    have fz1:=f_of (o:=1) kk4
    have fz2:=f_of (o:=2) kk4
    have fz3:=f_of (o:=3) kk4
    have fz4:=f_of (o:=4) kk4
    have fz5:=f_of (o:=5) kk4
    have fz6:=f_of (o:=6) kk4
    obtain ⟨i0,i1,i2,i3,i4,i5,i6⟩:=c7_of ((hzs.block _ (heap_lt kk4)).trans kk4)
    have HF : Hid (RepPost (prepE s l g ph m us f m2 us2) s l g 1 m2 us2 f2 w (.returned (.tuple #[zeroV,.int .i64 (pushE m2 us2)])) (((((((W4.setCell ⟨w.heap.size + 1,0,none⟩ (.slice none 0 0)).setCell ⟨w.heap.size + 1,1,none⟩ (.slice none 0 0)).setCell ⟨w.heap.size + 1,2,none⟩ (.int .i64 0)).setCell ⟨w.heap.size + 1,3,none⟩ (.int .i64 0)).setCell ⟨w.heap.size + 1,4,none⟩ (.slice none 0 0)).setCell ⟨w.heap.size + 1,5,none⟩ (.slice none 0 0)).setCell ⟨w.heap.size + 1,6,none⟩ (.bool false))):=RepPost.bad (by unfold prepE;rw [if_neg (fun e=>e (duE_iff.2 ⟨HC.out,ZP.out⟩))]) (hne) (hB4.trans (hzs.mono hB4.size))
    clear hzs hB4 kk4 hne F2 hA3 k3 ho4 hb4 R3 kk3 hB3 hq hm2 hu2 H hs3 hz12
    go_wp2
    refine bodyPost_ret (v:=.tuple #[zeroV,.int .i64 (pushE m2 us2)]) (by simp [results,Tryz.results159,go_sem,i0,i1,i2,i3,i4,i5,i6]) rfl ?_
    exact HF.out
  have F4:=F2.kept (Nat.le_trans hA3.size hb4.size) (fun k h1 h2=>(ho4 k (by have:=hA3.size;omega) (by omega)).trans (hA3.block k h2))
  have FP4:=FP.from (z':=W1.heap.size) (by omega)
  clear F2 hA3 k3 ho4 hb4 R3 kk3 hB3 FP
  obtain ⟨x0,x1,x2,x3,x4,x5,x6⟩:=c7_of k4
  obtain ⟨o0,o1,o2,o3,o4,o5,o6⟩:=c7_of kk4
  have fz0:=f_of (o:=0) kk4
  have fz1:=f_of (o:=1) kk4
  have fz2:=f_of (o:=2) kk4
  have fz3:=f_of (o:=3) kk4
  have fz4:=f_of (o:=4) kk4
  have fz5:=f_of (o:=5) kk4
  have fz6:=f_of (o:=6) kk4
  obtain ⟨s1,s2,s3⟩:=set7_block W4 (w.heap.size + 1) 36 (.slice b0 s.length d0) (.slice b1 l.length d1) (.int .i64 g) (.int .i64 1) (.slice b4 m2.length d4) (.slice b5 us2.length d5) (.bool f2) kk4
  obtain ⟨i0,i1,i2,i3,i4,i5,i6⟩:=c7_of s1
  have hst : ∀ k,W1.heap.size ≤ k → (((((((W4.setCell ⟨w.heap.size + 1,0,none⟩ (.slice b0 s.length d0)).setCell ⟨w.heap.size + 1,1,none⟩ (.slice b1 l.length d1)).setCell ⟨w.heap.size + 1,2,none⟩ (.int .i64 g)).setCell ⟨w.heap.size + 1,3,none⟩ (.int .i64 1)).setCell ⟨w.heap.size + 1,4,none⟩ (.slice b4 m2.length d4)).setCell ⟨w.heap.size + 1,5,none⟩ (.slice b5 us2.length d5)).setCell ⟨w.heap.size + 1,6,none⟩ (.bool f2)).heap[k]? = W4.heap[k]?:=fun k hk=>s3 k (by have:=Hz1.out;omega)
  have F5:=F4.keep s2.size hst
  have h5:=F5.holds
  have h6:=(FP4.keep s2.size hst).holds
  have HF : Hid (RepPost (prepE s l g ph m us f m2 us2) s l g 1 m2 us2 f2 w (.returned (.tuple #[RV b0 d0 s b1 d1 l g 1 b4 d4 m2 b5 d5 us2 f2,.int .i64 0])) (((((((W4.setCell ⟨w.heap.size + 1,0,none⟩ (.slice b0 s.length d0)).setCell ⟨w.heap.size + 1,1,none⟩ (.slice b1 l.length d1)).setCell ⟨w.heap.size + 1,2,none⟩ (.int .i64 g)).setCell ⟨w.heap.size + 1,3,none⟩ (.int .i64 1)).setCell ⟨w.heap.size + 1,4,none⟩ (.slice b4 m2.length d4)).setCell ⟨w.heap.size + 1,5,none⟩ (.slice b5 us2.length d5)).setCell ⟨w.heap.size + 1,6,none⟩ (.bool f2))) :=
    ⟨hB4.trans (s2.mono (by omega)),.inr ⟨by unfold prepE;rw [if_neg (fun e=>e (duE_iff.2 ⟨HC.out,ZP.out⟩))];exact hp0,b0,d0,b1,d1,b4,d4,b5,d5,rfl,⟨h5.1,h5.2.1,h6.1,h6.2,H.ns,H.nl,hml2,hul2⟩,(FreshR.mk F5.objs F5.refs (FP4.keep s2.size hst)).from (by have:=Hz1.out;omega)⟩⟩
  clear F5 h5 h6 F4 FP4 hst s1 s2 s3 kk4 k4 hB4 H hs3 hz12 hp0 hq hm2 hu2
  go_wp2
  refine bodyPost_ret (v:=.tuple #[replV b0 s.length d0 b1 l.length d1 g 1 b4 m2.length d4 b5 us2.length d5 f2,.int .i64 0]) (by simp [results,Tryz.results159,go_sem,i0,i1,i2,i3,i4,i5,i6]) rfl ?_
  exact HF.out
end

section
open Go.RowKit
set_option maxRecDepth 100000
set_option maxHeartbeats 8000000 in
theorem during_fin (aS : Option Addr) (cs : Nat) (s : List Ob) (al : Option Addr) (cl : Nat) (l : List Rf) (g ph : Int) (a1 : Option Addr) (c1 : Nat) (m : List Ob) (a2 : Option Addr) (c2 : Nat) (us : List Up) (f : Bool) (q : Nat) (c : Bool) (w : World) (hg : Glob w) (H : RepH w aS s al l a1 m a2 us) (hq : w.heap[q]? = some (.cells #[.bool c] 4)) :
    Calls Tryz.prog 159 #[RV aS cs s al cl l g ph a1 c1 m a2 c2 us f,.int .i64 2,.func (.func 165) #[] #[.pointer (some ⟨q,0,none⟩)]] w (RepPost (finE s l g ph m us f c) (finS s m c) (finL l us c) (finG g c) 0 [] [] false w):=by
  have hB:=below_alloc2 w (RB aS cs s al cl l g ph a1 c1 m a2 c2 us f) zero28
  obtain ⟨hk1,hk2⟩:=two_blocks w (RB aS cs s al cl l g ph a1 c1 m a2 c2 us f) zero28
  obtain ⟨y0,y1,y2,y3,y4,y5,y6⟩:=c7_of hk1
  have hck:=repCheck_any aS cs s al cl l g ph a1 c1 m a2 c2 us f _ (hg.below hB) (H.below hB)
  have Hz : Hid (w.heap.size + 2 ≤ ((w.alloc (RB aS cs s al cl l g ph a1 c1 m a2 c2 us f)).alloc zero28).heap.size):=by unfold Hid;simp
  have HE : Hid (∀ r,finE s l g ph m us f c = r ↔ finE s l g ph m us f c = r):=fun _=>Iff.rfl
  go_enter Tryz.func159,Tryz.ntmps159
  go_wp2_with fail
  generalize (w.alloc (RB aS cs s al cl l g ph a1 c1 m a2 c2 us f)).alloc zero28 = W0 at *
  refine hck.mono ?_
  clear hck
  rintro e W1 ⟨rfl,hb1⟩
  have hB1:=hB.trans (hb1.mono hB.size)
  have k1:=(hb1.block _ (heap_lt hk1)).trans hk1
  have kk1:=(hb1.block _ (heap_lt hk2)).trans hk2
  have Hz1 : Hid (w.heap.size + 2 ≤ W1.heap.size):=Nat.le_trans Hz.out hb1.size
  clear hb1 hB hk1 hk2 y0 y1 y2 y3 y4 y5 y6
  by_cases c1 : repE s l g ph m us f = 0
  case neg =>
    have hzs:=set7_same W1 (w.heap.size + 1) 36 (.slice none 0 0) (.slice none 0 0) (.int .i64 0) (.int .i64 0) (.slice none 0 0) (.slice none 0 0) (.bool false) kk1
    obtain ⟨o0,o1,o2,o3,o4,o5,o6⟩:=c7_of kk1
    have fz0:=f_of (o:=0) kk1
    have fz1:=f_of (o:=1) kk1
    have fz2:=f_of (o:=2) kk1
    have fz3:=f_of (o:=3) kk1
    have fz4:=f_of (o:=4) kk1
    have fz5:=f_of (o:=5) kk1
    have fz6:=f_of (o:=6) kk1
    obtain ⟨i0,i1,i2,i3,i4,i5,i6⟩:=c7_of ((hzs.block _ (heap_lt kk1)).trans kk1)
    have HF : Hid (RepPost (finE s l g ph m us f c) (finS s m c) (finL l us c) (finG g c) 0 [] [] false w (.returned (.tuple #[zeroV,.int .i64 (repE s l g ph m us f)])) (((((((W1.setCell ⟨w.heap.size + 1,0,none⟩ (.slice none 0 0)).setCell ⟨w.heap.size + 1,1,none⟩ (.slice none 0 0)).setCell ⟨w.heap.size + 1,2,none⟩ (.int .i64 0)).setCell ⟨w.heap.size + 1,3,none⟩ (.int .i64 0)).setCell ⟨w.heap.size + 1,4,none⟩ (.slice none 0 0)).setCell ⟨w.heap.size + 1,5,none⟩ (.slice none 0 0)).setCell ⟨w.heap.size + 1,6,none⟩ (.bool false))):=RepPost.bad (by unfold finE;rw [duE_one c1,if_pos c1]) c1 (hB1.trans (hzs.mono hB1.size))
    have z1 : (repE s l g ph m us f != 0) = true:=by simpa using c1
    clear c1 k1 kk1 hB1 hzs
    go_wp2
    refine bodyPost_ret (v:=.tuple #[zeroV,.int .i64 (repE s l g ph m us f)]) (by simp [results,Tryz.results159,go_sem,i0,i1,i2,i3,i4,i5,i6]) rfl ?_
    exact HF.out
  have HC : Hid (repE s l g ph m us f = 0):=c1
  rw [c1]
  clear c1
  obtain ⟨y0,y1,y2,y3,y4,y5,y6⟩:=c7_of k1
  by_cases zph : ph = 2
  case neg =>
    have hzs:=set7_same W1 (w.heap.size + 1) 36 (.slice none 0 0) (.slice none 0 0) (.int .i64 0) (.int .i64 0) (.slice none 0 0) (.slice none 0 0) (.bool false) kk1
    obtain ⟨o0,o1,o2,o3,o4,o5,o6⟩:=c7_of kk1
    have fz0:=f_of (o:=0) kk1
    have fz1:=f_of (o:=1) kk1
    have fz2:=f_of (o:=2) kk1
    have fz3:=f_of (o:=3) kk1
    have fz4:=f_of (o:=4) kk1
    have fz5:=f_of (o:=5) kk1
    have fz6:=f_of (o:=6) kk1
    obtain ⟨i0,i1,i2,i3,i4,i5,i6⟩:=c7_of ((hzs.block _ (heap_lt kk1)).trans kk1)
    have HF : Hid (RepPost (finE s l g ph m us f c) (finS s m c) (finL l us c) (finG g c) 0 [] [] false w (.returned (.tuple #[zeroV,.int .i64 4])) (((((((W1.setCell ⟨w.heap.size + 1,0,none⟩ (.slice none 0 0)).setCell ⟨w.heap.size + 1,1,none⟩ (.slice none 0 0)).setCell ⟨w.heap.size + 1,2,none⟩ (.int .i64 0)).setCell ⟨w.heap.size + 1,3,none⟩ (.int .i64 0)).setCell ⟨w.heap.size + 1,4,none⟩ (.slice none 0 0)).setCell ⟨w.heap.size + 1,5,none⟩ (.slice none 0 0)).setCell ⟨w.heap.size + 1,6,none⟩ (.bool false))):=RepPost.bad (by unfold finE;rw [duE_two HC.out zph];rfl) (by decide) (hB1.trans (hzs.mono hB1.size))
    have z1 : (ph != 2) = true:=by simpa using zph
    clear zph k1 kk1 hB1 hzs
    go_wp2
    refine bodyPost_ret (v:=.tuple #[zeroV,.int .i64 4]) (by simp [results,Tryz.results159,go_sem,i0,i1,i2,i3,i4,i5,i6]) rfl ?_
    exact HF.out
  have ZP : Hid (ph = 2):=zph
  have z1 : (ph != 2) = false:=by simpa using zph
  clear zph
  obtain ⟨n1,n2,n3,n4,n5,n6⟩:=rep_small HC.out
  have hcr:=copyRep_any aS cs s al cl l g ph a1 c1 m a2 c2 us f W1 (H.hs.below hB1) (by omega) n2 (H.hl.below hB1) (by omega) (H.hm.below hB1) (by omega) n5 (H.hu.below hB1) (by omega)
  go_wp2_with fail
  refine hcr.mono ?_
  clear hcr
  rintro e W2 ⟨b0,d0,b1,d1,b2,d2,b3,d3,rfl,F2,hb2⟩
  have hB2:=hB1.trans (hb2.mono hB1.size)
  have kk2:=(hb2.block _ (heap_lt kk1)).trans kk1
  have hA3:=below_alloc W2 (repB b0 s.length d0 b1 l.length d1 g ph b2 m.length d2 b3 us.length d3 f 200)
  have k3:=heap_alloc_new W2 (repB b0 s.length d0 b1 l.length d1 g ph b2 m.length d2 b3 us.length d3 f 200)
  have hz12:=hb2.size
  have F3:=F2.below hA3
  have hB3:=hB2.trans (hA3.mono hB2.size)
  have kk3:=(hA3.block _ (heap_lt kk2)).trans kk2
  have h3:=F3.holds
  have R3 : RepH (W2.alloc (repB b0 s.length d0 b1 l.length d1 g ph b2 m.length d2 b3 us.length d3 f 200)) b0 s b1 l b2 m b3 us:=⟨h3.1,h3.2.1,h3.2.2.1,h3.2.2.2,H.ns,H.nl,H.nm,H.nu⟩
  have hs3 : (W2.alloc (repB b0 s.length d0 b1 l.length d1 g ph b2 m.length d2 b3 us.length d3 f 200)).heap.size = W2.heap.size + 1:=by simp
  clear F3 hb2 hB1 k1 kk1 kk2 h3 y0 y1 y2 y3 y4 y5 y6
  go_wp2_with fail
  generalize W2.alloc (repB b0 s.length d0 b1 l.length d1 g ph b2 m.length d2 b3 us.length d3 f 200) = W3 at *
  refine (fin1_any W2.heap.size q b0 d0 s b1 d1 l g ph b2 d2 m b3 d3 us f c W3 (hg.below hB3) (repE_iff.1 HC.out).2.1 k3 ((hB3.block _ (heap_lt hq)).trans hq) R3).mono ?_
  rintro e W4 ⟨hb4,ho4,hpost⟩
  have kk4:=(ho4 (w.heap.size + 1) (heap_lt kk3) (by have:=Hz1.out;omega)).trans kk3
  have hB4:=hB3.trans (hb4.mono hB2.size)
  rcases hpost with ⟨rfl,rfl,k4⟩ | ⟨rfl,hne,rfl⟩ | ⟨rfl,hz,h9,rfl⟩ | ⟨rfl,hz,h9,rfl,b4,d4,b5,d5,k4,⟨rs4,e4,O4⟩,hL4,ow4⟩
  case inl =>
    have F4:=F2.kept (Nat.le_trans hA3.size hb4.size) (fun k h1 h2=>(ho4 k (by have:=hA3.size;omega) (by omega)).trans (hA3.block k h2))
    clear F2 hA3 k3 ho4 hb4 R3 kk3 hB3 hq
    obtain ⟨x0,x1,x2,x3,x4,x5,x6⟩:=c7_of k4
    obtain ⟨o0,o1,o2,o3,o4,o5,o6⟩:=c7_of kk4
    have fz0:=f_of (o:=0) kk4
    have fz1:=f_of (o:=1) kk4
    have fz2:=f_of (o:=2) kk4
    have fz3:=f_of (o:=3) kk4
    have fz4:=f_of (o:=4) kk4
    have fz5:=f_of (o:=5) kk4
    have fz6:=f_of (o:=6) kk4
    obtain ⟨s1,s2,s3⟩:=set7_block W4 (w.heap.size + 1) 36 (.slice b0 s.length d0) (.slice b1 l.length d1) (.int .i64 g) (.int .i64 0) (.slice none 0 0) (.slice none 0 0) (.bool false) kk4
    obtain ⟨i0,i1,i2,i3,i4,i5,i6⟩:=c7_of s1
    have hst : ∀ k,W1.heap.size ≤ k → (((((((W4.setCell ⟨w.heap.size + 1,0,none⟩ (.slice b0 s.length d0)).setCell ⟨w.heap.size + 1,1,none⟩ (.slice b1 l.length d1)).setCell ⟨w.heap.size + 1,2,none⟩ (.int .i64 g)).setCell ⟨w.heap.size + 1,3,none⟩ (.int .i64 0)).setCell ⟨w.heap.size + 1,4,none⟩ (.slice none 0 0)).setCell ⟨w.heap.size + 1,5,none⟩ (.slice none 0 0)).setCell ⟨w.heap.size + 1,6,none⟩ (.bool false)).heap[k]? = W4.heap[k]?:=fun k hk=>s3 k (by have:=Hz1.out;omega)
    have F5:=F4.keep s2.size hst
    have h5:=F5.holds
    have HF : Hid (RepPost (finE s l g ph m us f false) (finS s m false) (finL l us false) (finG g false) 0 [] [] false w (.returned (.tuple #[RV b0 d0 s b1 d1 l g 0 none 0 [] none 0 [] false,.int .i64 0])) (((((((W4.setCell ⟨w.heap.size + 1,0,none⟩ (.slice b0 s.length d0)).setCell ⟨w.heap.size + 1,1,none⟩ (.slice b1 l.length d1)).setCell ⟨w.heap.size + 1,2,none⟩ (.int .i64 g)).setCell ⟨w.heap.size + 1,3,none⟩ (.int .i64 0)).setCell ⟨w.heap.size + 1,4,none⟩ (.slice none 0 0)).setCell ⟨w.heap.size + 1,5,none⟩ (.slice none 0 0)).setCell ⟨w.heap.size + 1,6,none⟩ (.bool false))) :=
      ⟨hB4.trans (s2.mono (by omega)),.inr ⟨by unfold finE;rw [if_neg (fun e=>e (duE_iff.2 ⟨HC.out,ZP.out⟩))];rfl,b0,d0,b1,d1,none,0,none,0,rfl,⟨h5.1,h5.2.1,fun i hi=>by simp at hi,fun i hi=>by simp at hi,H.ns,H.nl,by simp,by simp⟩,(FreshR.mk F5.objs F5.refs (FreshP.nil _ _)).from (by have:=Hz1.out;omega)⟩⟩
    clear F5 h5 F4 hst s1 s2 s3 kk4 k4 hB4 H hs3 hz12
    go_wp2
    refine bodyPost_ret (v:=.tuple #[replV b0 s.length d0 b1 l.length d1 g 0 none 0 0 none 0 0 false,.int .i64 0]) (by simp [results,Tryz.results159,go_sem,i0,i1,i2,i3,i4,i5,i6]) rfl ?_
    exact HF.out
  case inr.inl =>
    have z2 : (tryE s l m us f != 0) = true:=by simpa using hne
    have hzs:=set7_same W4 (w.heap.size + 1) 36 (.slice none 0 0) (.slice none 0 0) (.int .i64 0) (.int .i64 0) (.slice none 0 0) (.slice none 0 0) (.bool false) kk4
    obtain ⟨o0,o1,o2,o3,o4,o5,o6⟩:=c7_of kk4
    have fz0:=f_of (o:=0) kk4
    have fz1:=f_of (o:=1) kk4
    have fz2:=f_of (o:=2) kk4
    have fz3:=f_of (o:=3) kk4
    have fz4:=f_of (o:=4) kk4
    have fz5:=f_of (o:=5) kk4
    have fz6:=f_of (o:=6) kk4
    obtain ⟨i0,i1,i2,i3,i4,i5,i6⟩:=c7_of ((hzs.block _ (heap_lt kk4)).trans kk4)
    have HF : Hid (RepPost (finE s l g ph m us f true) (finS s m true) (finL l us true) (finG g true) 0 [] [] false w (.returned (.tuple #[zeroV,.int .i64 (tryE s l m us f)])) (((((((W4.setCell ⟨w.heap.size + 1,0,none⟩ (.slice none 0 0)).setCell ⟨w.heap.size + 1,1,none⟩ (.slice none 0 0)).setCell ⟨w.heap.size + 1,2,none⟩ (.int .i64 0)).setCell ⟨w.heap.size + 1,3,none⟩ (.int .i64 0)).setCell ⟨w.heap.size + 1,4,none⟩ (.slice none 0 0)).setCell ⟨w.heap.size + 1,5,none⟩ (.slice none 0 0)).setCell ⟨w.heap.size + 1,6,none⟩ (.bool false))):=RepPost.bad (by unfold finE;rw [if_neg (fun e=>e (duE_iff.2 ⟨HC.out,ZP.out⟩))];rw [if_neg (by decide),if_pos hne]) (hne) (hB4.trans (hzs.mono hB4.size))
    clear hzs hB4 kk4 hne F2 hA3 k3 ho4 hb4 R3 kk3 hB3 hq H hs3 hz12
    go_wp2
    refine bodyPost_ret (v:=.tuple #[zeroV,.int .i64 (tryE s l m us f)]) (by simp [results,Tryz.results159,go_sem,i0,i1,i2,i3,i4,i5,i6]) rfl ?_
    exact HF.out
  case inr.inr.inl =>
    have hzs:=set7_same W4 (w.heap.size + 1) 36 (.slice none 0 0) (.slice none 0 0) (.int .i64 0) (.int .i64 0) (.slice none 0 0) (.slice none 0 0) (.bool false) kk4
    obtain ⟨o0,o1,o2,o3,o4,o5,o6⟩:=c7_of kk4
    have fz0:=f_of (o:=0) kk4
    have fz1:=f_of (o:=1) kk4
    have fz2:=f_of (o:=2) kk4
    have fz3:=f_of (o:=3) kk4
    have fz4:=f_of (o:=4) kk4
    have fz5:=f_of (o:=5) kk4
    have fz6:=f_of (o:=6) kk4
    obtain ⟨i0,i1,i2,i3,i4,i5,i6⟩:=c7_of ((hzs.block _ (heap_lt kk4)).trans kk4)
    have HF : Hid (RepPost (finE s l g ph m us f true) (finS s m true) (finL l us true) (finG g true) 0 [] [] false w (.returned (.tuple #[zeroV,.int .i64 (2)])) (((((((W4.setCell ⟨w.heap.size + 1,0,none⟩ (.slice none 0 0)).setCell ⟨w.heap.size + 1,1,none⟩ (.slice none 0 0)).setCell ⟨w.heap.size + 1,2,none⟩ (.int .i64 0)).setCell ⟨w.heap.size + 1,3,none⟩ (.int .i64 0)).setCell ⟨w.heap.size + 1,4,none⟩ (.slice none 0 0)).setCell ⟨w.heap.size + 1,5,none⟩ (.slice none 0 0)).setCell ⟨w.heap.size + 1,6,none⟩ (.bool false))):=RepPost.bad (by unfold finE;rw [if_neg (fun e=>e (duE_iff.2 ⟨HC.out,ZP.out⟩))];rw [if_neg (by decide),if_neg (fun e=>e hz),if_pos h9]) (by decide) (hB4.trans (hzs.mono hB4.size))
    clear hzs hB4 kk4 hz h9 F2 hA3 k3 ho4 hb4 R3 kk3 hB3 hq H hs3 hz12
    go_wp2
    refine bodyPost_ret (v:=.tuple #[zeroV,.int .i64 (2)]) (by simp [results,Tryz.results159,go_sem,i0,i1,i2,i3,i4,i5,i6]) rfl ?_
    exact HF.out
  case inr.inr.inr =>
    have hns:=nos_rep kk4
    have O4':=O4.from (z':=W1.heap.size) (by omega)
    have ow5:=ownsRow_from (z':=W1.heap.size) ow4 (by omega)
    have hT40 : (takeRes s m).length ≤ 9223372036854775807:=by have:=(checkS_zero (addE_zero (tryE_iff.1 hz).2.1).2.2.2.2).1;omega
    have hL8 : (runL l us).length ≤ 9223372036854775807:=by have:=(refsE_iff.1 (applyE_iff.1 (tryE_iff.1 hz).2.2).2.2.2).2.1;omega
    clear F2 hA3 k3 ho4 hb4 R3 kk3 hB3 hq H hs3 hz12 O4
    obtain ⟨x0,x1,x2,x3,x4,x5,x6⟩:=c7_of k4
    obtain ⟨o0,o1,o2,o3,o4,o5,o6⟩:=c7_of kk4
    have fz0:=f_of (o:=0) kk4
    have fz1:=f_of (o:=1) kk4
    have fz2:=f_of (o:=2) kk4
    have fz3:=f_of (o:=3) kk4
    have fz4:=f_of (o:=4) kk4
    have fz5:=f_of (o:=5) kk4
    have fz6:=f_of (o:=6) kk4
    obtain ⟨s1,s2,s3⟩:=set7_block W4 (w.heap.size + 1) 36 (.slice b4 (takeRes s m).length d4) (.slice b5 (runL l us).length d5) (.int .i64 (g + 1)) (.int .i64 0) (.slice none 0 0) (.slice none 0 0) (.bool false) kk4
    obtain ⟨i0,i1,i2,i3,i4,i5,i6⟩:=c7_of s1
    have hst : ∀ k,W1.heap.size ≤ k → (((((((W4.setCell ⟨w.heap.size + 1,0,none⟩ (.slice b4 (takeRes s m).length d4)).setCell ⟨w.heap.size + 1,1,none⟩ (.slice b5 (runL l us).length d5)).setCell ⟨w.heap.size + 1,2,none⟩ (.int .i64 (g + 1))).setCell ⟨w.heap.size + 1,3,none⟩ (.int .i64 0)).setCell ⟨w.heap.size + 1,4,none⟩ (.slice none 0 0)).setCell ⟨w.heap.size + 1,5,none⟩ (.slice none 0 0)).setCell ⟨w.heap.size + 1,6,none⟩ (.bool false)).heap[k]? = W4.heap[k]?:=fun k hk=>s3 k (by have:=Hz1.out;omega)
    have hS5:=(O4'.keep s2.size hst).list e4
    have hL5:=hL4.no hns s2.size s3
    have HF : Hid (RepPost (finE s l g ph m us f true) (finS s m true) (finL l us true) (finG g true) 0 [] [] false w (.returned (.tuple #[RV b4 d4 (takeRes s m) b5 d5 (runL l us) (g + 1) 0 none 0 [] none 0 [] false,.int .i64 0])) (((((((W4.setCell ⟨w.heap.size + 1,0,none⟩ (.slice b4 (takeRes s m).length d4)).setCell ⟨w.heap.size + 1,1,none⟩ (.slice b5 (runL l us).length d5)).setCell ⟨w.heap.size + 1,2,none⟩ (.int .i64 (g + 1))).setCell ⟨w.heap.size + 1,3,none⟩ (.int .i64 0)).setCell ⟨w.heap.size + 1,4,none⟩ (.slice none 0 0)).setCell ⟨w.heap.size + 1,5,none⟩ (.slice none 0 0)).setCell ⟨w.heap.size + 1,6,none⟩ (.bool false))) :=
      ⟨hB4.trans (s2.mono (by omega)),.inr ⟨by unfold finE;rw [if_neg (fun e=>e (duE_iff.2 ⟨HC.out,ZP.out⟩))];rw [if_neg (by decide),if_neg (fun e=>e hz),if_neg h9],b4,d4,b5,d5,none,0,none,0,rfl,⟨hS5,hL5,fun i hi=>by simp at hi,fun i hi=>by simp at hi,hT40,hL8,by simp,by simp⟩,(FreshR.mk ⟨rs4,e4,O4'.keep s2.size hst⟩ (ownsRow_high ow5 hst) (FreshP.nil _ _)).from (by have:=Hz1.out;omega)⟩⟩
    clear hS5 hL5 hns O4' ow4 ow5 hL4 hst s1 s2 s3 kk4 k4 hB4 hz h9 e4
    go_wp2
    refine bodyPost_ret (v:=.tuple #[replV b4 (takeRes s m).length d4 b5 (runL l us).length d5 (g + 1) 0 none 0 0 none 0 0 false,.int .i64 0]) (by simp [results,Tryz.results159,go_sem,i0,i1,i2,i3,i4,i5,i6]) rfl ?_
    exact HF.out
end

section
open Go.RowKit
set_option maxRecDepth 100000
def VPost (q : Nat) (x T : ByteArray) (E : Int) (s : List Ob) (l : List Rf) (g ph : Int) (m : List Ob) (us : List Up) (f : Bool) (w : World) (e : Ending) (w' : World) : Prop :=
  w.heap.size ≤ w'.heap.size ∧ w'.os = w.os ∧ w'.tape = w.tape ∧ w'.output = w.output ∧ (∀ k,k < w.heap.size → k ≠ q → w'.heap[k]? = w.heap[k]?) ∧ ((E ≠ 0 ∧ e = .returned (.tuple #[zeroV,.int .i64 E]) ∧ w'.heap[q]? = some (.cells #[.string x] 9)) ∨
    (E = 0 ∧ w'.heap[q]? = some (.cells #[.string T] 9) ∧ ∃ b0 d0 b1 d1 b2 d2 b3 d3,e = .returned (.tuple #[RV b0 d0 s b1 d1 l g ph b2 d2 m b3 d3 us f,.int .i64 0]) ∧ RepF w' w.heap.size b0 d0 s b1 d1 l b2 d2 m b3 d3 us))
theorem VPost.bad {q : Nat} {x T : ByteArray} {E r : Int} {s : List Ob} {l : List Rf} {g ph : Int} {m : List Ob} {us : List Up} {f : Bool} {w w' : World} (hq : w.heap[q]? = some (.cells #[.string x] 9)) (he : E = r) (h0 : r ≠ 0) (hb : Below w.heap.size w w') : VPost q x T E s l g ph m us f w (.returned (.tuple #[zeroV,.int .i64 r])) w' :=
  ⟨hb.size,hb.os,hb.tape,hb.output,fun k hk _=>hb.block k hk,.inl ⟨by rw [he];exact h0,by rw [he],(hb.block q (heap_lt hq)).trans hq⟩⟩
set_option maxHeartbeats 8000000 in
theorem during_vote (aS : Option Addr) (cs : Nat) (s : List Ob) (al : Option Addr) (cl : Nat) (l : List Rf) (g ph : Int) (a1 : Option Addr) (c1 : Nat) (m : List Ob) (a2 : Option Addr) (c2 : Nat) (us : List Up) (f : Bool) (q : Nat) (x : ByteArray) (w : World) (hg : Glob w) (H : RepH w aS s al l a1 m a2 us) (ht : Tab w) (hq : w.heap[q]? = some (.cells #[.string x] 9)) :
    Calls Tryz.prog 159 #[RV aS cs s al cl l g ph a1 c1 m a2 c2 us f,.int .i64 1,.func (.func 161) #[] #[.pointer (some ⟨q,0,none⟩)]] w (VPost q x (voteS s l g m us f) (duE s l g ph m us f 1) s l g 2 m us f w):=by
  have hB:=below_alloc2 w (RB aS cs s al cl l g ph a1 c1 m a2 c2 us f) zero28
  obtain ⟨hk1,hk2⟩:=two_blocks w (RB aS cs s al cl l g ph a1 c1 m a2 c2 us f) zero28
  obtain ⟨y0,y1,y2,y3,y4,y5,y6⟩:=c7_of hk1
  have hck:=repCheck_any aS cs s al cl l g ph a1 c1 m a2 c2 us f _ (hg.below hB) (H.below hB)
  have Hz : Hid (w.heap.size + 2 ≤ ((w.alloc (RB aS cs s al cl l g ph a1 c1 m a2 c2 us f)).alloc zero28).heap.size):=by unfold Hid;simp
  have HE : Hid (∀ r,duE s l g ph m us f 1 = r ↔ duE s l g ph m us f 1 = r):=fun _=>Iff.rfl
  go_enter Tryz.func159,Tryz.ntmps159
  go_wp2_with fail
  generalize (w.alloc (RB aS cs s al cl l g ph a1 c1 m a2 c2 us f)).alloc zero28 = W0 at *
  refine hck.mono ?_
  clear hck
  rintro e W1 ⟨rfl,hb1⟩
  have hB1:=hB.trans (hb1.mono hB.size)
  have k1:=(hb1.block _ (heap_lt hk1)).trans hk1
  have kk1:=(hb1.block _ (heap_lt hk2)).trans hk2
  have Hz1 : Hid (w.heap.size + 2 ≤ W1.heap.size):=Nat.le_trans Hz.out hb1.size
  clear hb1 hB hk1 hk2 y0 y1 y2 y3 y4 y5 y6
  by_cases c1 : repE s l g ph m us f = 0
  case neg =>
    have hzs:=set7_same W1 (w.heap.size + 1) 36 (.slice none 0 0) (.slice none 0 0) (.int .i64 0) (.int .i64 0) (.slice none 0 0) (.slice none 0 0) (.bool false) kk1
    obtain ⟨o0,o1,o2,o3,o4,o5,o6⟩:=c7_of kk1
    have fz0:=f_of (o:=0) kk1
    have fz1:=f_of (o:=1) kk1
    have fz2:=f_of (o:=2) kk1
    have fz3:=f_of (o:=3) kk1
    have fz4:=f_of (o:=4) kk1
    have fz5:=f_of (o:=5) kk1
    have fz6:=f_of (o:=6) kk1
    obtain ⟨i0,i1,i2,i3,i4,i5,i6⟩:=c7_of ((hzs.block _ (heap_lt kk1)).trans kk1)
    have HF : Hid (VPost q x (voteS s l g m us f) (duE s l g ph m us f 1) s l g 2 m us f w (.returned (.tuple #[zeroV,.int .i64 (repE s l g ph m us f)])) (((((((W1.setCell ⟨w.heap.size + 1,0,none⟩ (.slice none 0 0)).setCell ⟨w.heap.size + 1,1,none⟩ (.slice none 0 0)).setCell ⟨w.heap.size + 1,2,none⟩ (.int .i64 0)).setCell ⟨w.heap.size + 1,3,none⟩ (.int .i64 0)).setCell ⟨w.heap.size + 1,4,none⟩ (.slice none 0 0)).setCell ⟨w.heap.size + 1,5,none⟩ (.slice none 0 0)).setCell ⟨w.heap.size + 1,6,none⟩ (.bool false))):=VPost.bad hq (by exact duE_one c1) c1 (hB1.trans (hzs.mono hB1.size))
    have z1 : (repE s l g ph m us f != 0) = true:=by simpa using c1
    clear c1 k1 kk1 hB1 hzs
    go_wp2
    refine bodyPost_ret (v:=.tuple #[zeroV,.int .i64 (repE s l g ph m us f)]) (by simp [results,Tryz.results159,go_sem,i0,i1,i2,i3,i4,i5,i6]) rfl ?_
    exact HF.out
  have HC : Hid (repE s l g ph m us f = 0):=c1
  rw [c1]
  clear c1
  obtain ⟨y0,y1,y2,y3,y4,y5,y6⟩:=c7_of k1
  by_cases zph : ph = 1
  case neg =>
    have hzs:=set7_same W1 (w.heap.size + 1) 36 (.slice none 0 0) (.slice none 0 0) (.int .i64 0) (.int .i64 0) (.slice none 0 0) (.slice none 0 0) (.bool false) kk1
    obtain ⟨o0,o1,o2,o3,o4,o5,o6⟩:=c7_of kk1
    have fz0:=f_of (o:=0) kk1
    have fz1:=f_of (o:=1) kk1
    have fz2:=f_of (o:=2) kk1
    have fz3:=f_of (o:=3) kk1
    have fz4:=f_of (o:=4) kk1
    have fz5:=f_of (o:=5) kk1
    have fz6:=f_of (o:=6) kk1
    obtain ⟨i0,i1,i2,i3,i4,i5,i6⟩:=c7_of ((hzs.block _ (heap_lt kk1)).trans kk1)
    have HF : Hid (VPost q x (voteS s l g m us f) (duE s l g ph m us f 1) s l g 2 m us f w (.returned (.tuple #[zeroV,.int .i64 4])) (((((((W1.setCell ⟨w.heap.size + 1,0,none⟩ (.slice none 0 0)).setCell ⟨w.heap.size + 1,1,none⟩ (.slice none 0 0)).setCell ⟨w.heap.size + 1,2,none⟩ (.int .i64 0)).setCell ⟨w.heap.size + 1,3,none⟩ (.int .i64 0)).setCell ⟨w.heap.size + 1,4,none⟩ (.slice none 0 0)).setCell ⟨w.heap.size + 1,5,none⟩ (.slice none 0 0)).setCell ⟨w.heap.size + 1,6,none⟩ (.bool false))):=VPost.bad hq (by exact duE_two HC.out zph) (by decide) (hB1.trans (hzs.mono hB1.size))
    have z1 : (ph != 1) = true:=by simpa using zph
    clear zph k1 kk1 hB1 hzs
    go_wp2
    refine bodyPost_ret (v:=.tuple #[zeroV,.int .i64 4]) (by simp [results,Tryz.results159,go_sem,i0,i1,i2,i3,i4,i5,i6]) rfl ?_
    exact HF.out
  have ZP : Hid (ph = 1):=zph
  have z1 : (ph != 1) = false:=by simpa using zph
  clear zph
  obtain ⟨n1,n2,n3,n4,n5,n6⟩:=rep_small HC.out
  have hcr:=copyRep_any aS cs s al cl l g ph a1 c1 m a2 c2 us f W1 (H.hs.below hB1) (by omega) n2 (H.hl.below hB1) (by omega) (H.hm.below hB1) (by omega) n5 (H.hu.below hB1) (by omega)
  go_wp2_with fail
  refine hcr.mono ?_
  clear hcr
  rintro e W2 ⟨b0,d0,b1,d1,b2,d2,b3,d3,rfl,F2,hb2⟩
  have hB2:=hB1.trans (hb2.mono hB1.size)
  have kk2:=(hb2.block _ (heap_lt kk1)).trans kk1
  have hA3:=below_alloc W2 (repB b0 s.length d0 b1 l.length d1 g ph b2 m.length d2 b3 us.length d3 f 200)
  have k3:=heap_alloc_new W2 (repB b0 s.length d0 b1 l.length d1 g ph b2 m.length d2 b3 us.length d3 f 200)
  have hz12:=hb2.size
  have F3:=F2.below hA3
  have hB3:=hB2.trans (hA3.mono hB2.size)
  have kk3:=(hA3.block _ (heap_lt kk2)).trans kk2
  have h3:=F3.holds
  have R3 : RepH (W2.alloc (repB b0 s.length d0 b1 l.length d1 g ph b2 m.length d2 b3 us.length d3 f 200)) b0 s b1 l b2 m b3 us:=⟨h3.1,h3.2.1,h3.2.2.1,h3.2.2.2,H.ns,H.nl,H.nm,H.nu⟩
  have hs3 : (W2.alloc (repB b0 s.length d0 b1 l.length d1 g ph b2 m.length d2 b3 us.length d3 f 200)).heap.size = W2.heap.size + 1:=by simp
  clear F3 hb2 hB1 k1 kk1 kk2 h3 y0 y1 y2 y3 y4 y5 y6
  go_wp2_with fail
  generalize W2.alloc (repB b0 s.length d0 b1 l.length d1 g ph b2 m.length d2 b3 us.length d3 f 200) = W3 at *
  have hqw:=heap_lt hq
  have hV0 : voteE g m us = 0:=by
    have h:=repE_iff.1 HC.out
    exact voteE_iff.2 ⟨h.2.2.2.1 (by rw [ZP.out];decide),h.2.1⟩
  refine (vote1_any W2.heap.size q b0 d0 s b1 d1 l g ph b2 d2 m b3 d3 us f x W3 (hg.below hB3) (ht.below hB3) k3 ((hB3.block _ hqw).trans hq) (by have:=hB2.size;omega) R3).mono ?_
  rw [hV0]
  rintro e W4 ⟨rfl,k4,kq4,hs4,hos4,hta4,hou4,ho4⟩
  have kk4:=(ho4 (w.heap.size + 1) (heap_lt kk3) (by have:=Hz1.out;omega) (by omega)).trans kk3
  have F4:=F2.kept (Nat.le_trans hA3.size hs4) (fun k h1 h2=>(ho4 k (by have:=hA3.size;omega) (by omega) (by have:=Hz1.out;omega)).trans (hA3.block k h2))
  have HO : Hid (∀ k,k < w.heap.size → k ≠ q → W4.heap[k]? = w.heap[k]?):=fun k hk hkq=>(ho4 k (by have:=hB3.size;omega) (by have:=hB2.size;omega) hkq).trans (hB3.block k hk)
  have HW : Hid (w.heap.size ≤ W4.heap.size ∧ W4.os = w.os ∧ W4.tape = w.tape ∧ W4.output = w.output):=⟨Nat.le_trans hB3.size hs4,hos4.trans hB3.os,hta4.trans hB3.tape,hou4.trans hB3.output⟩
  clear F2 hA3 k3 ho4 R3 kk3 hB3 hs4 hos4 hta4 hou4 hV0
  obtain ⟨x0,x1,x2,x3,x4,x5,x6⟩:=c7_of k4
  obtain ⟨o0,o1,o2,o3,o4,o5,o6⟩:=c7_of kk4
  have fz0:=f_of (o:=0) kk4
  have fz1:=f_of (o:=1) kk4
  have fz2:=f_of (o:=2) kk4
  have fz3:=f_of (o:=3) kk4
  have fz4:=f_of (o:=4) kk4
  have fz5:=f_of (o:=5) kk4
  have fz6:=f_of (o:=6) kk4
  obtain ⟨s1,s2,s3⟩:=set7_block W4 (w.heap.size + 1) 36 (.slice b0 s.length d0) (.slice b1 l.length d1) (.int .i64 g) (.int .i64 2) (.slice b2 m.length d2) (.slice b3 us.length d3) (.bool f) kk4
  obtain ⟨i0,i1,i2,i3,i4,i5,i6⟩:=c7_of s1
  have hst : ∀ k,W1.heap.size ≤ k → (((((((W4.setCell ⟨w.heap.size + 1,0,none⟩ (.slice b0 s.length d0)).setCell ⟨w.heap.size + 1,1,none⟩ (.slice b1 l.length d1)).setCell ⟨w.heap.size + 1,2,none⟩ (.int .i64 g)).setCell ⟨w.heap.size + 1,3,none⟩ (.int .i64 2)).setCell ⟨w.heap.size + 1,4,none⟩ (.slice b2 m.length d2)).setCell ⟨w.heap.size + 1,5,none⟩ (.slice b3 us.length d3)).setCell ⟨w.heap.size + 1,6,none⟩ (.bool f)).heap[k]? = W4.heap[k]?:=fun k hk=>s3 k (by have:=Hz1.out;omega)
  have F5:=F4.keep s2.size hst
  have h5:=F5.holds
  have HF : Hid (VPost q x (voteS s l g m us f) (duE s l g ph m us f 1) s l g 2 m us f w (.returned (.tuple #[RV b0 d0 s b1 d1 l g 2 b2 d2 m b3 d3 us f,.int .i64 0])) (((((((W4.setCell ⟨w.heap.size + 1,0,none⟩ (.slice b0 s.length d0)).setCell ⟨w.heap.size + 1,1,none⟩ (.slice b1 l.length d1)).setCell ⟨w.heap.size + 1,2,none⟩ (.int .i64 g)).setCell ⟨w.heap.size + 1,3,none⟩ (.int .i64 2)).setCell ⟨w.heap.size + 1,4,none⟩ (.slice b2 m.length d2)).setCell ⟨w.heap.size + 1,5,none⟩ (.slice b3 us.length d3)).setCell ⟨w.heap.size + 1,6,none⟩ (.bool f))) :=
    ⟨Nat.le_trans HW.out.1 s2.size,s2.os.trans HW.out.2.1,s2.tape.trans HW.out.2.2.1,s2.output.trans HW.out.2.2.2,fun k hk hkq=>(s3 k (by omega)).trans (HO.out k hk hkq),.inr ⟨duE_iff.2 ⟨HC.out,ZP.out⟩,(s3 q (by omega)).trans kq4,b0,d0,b1,d1,b2,d2,b3,d3,rfl,⟨h5.1,h5.2.1,h5.2.2.1,h5.2.2.2,H.ns,H.nl,H.nm,H.nu⟩,F5.from (by have:=Hz1.out;omega)⟩⟩
  clear F5 h5 F4 hst s1 s2 s3 kk4 k4 kq4 H hs3 hz12 hqw hq
  go_wp2
  refine bodyPost_ret (v:=.tuple #[replV b0 s.length d0 b1 l.length d1 g 2 b2 m.length d2 b3 us.length d3 f,.int .i64 0]) (by simp [results,Tryz.results159,go_sem,i0,i1,i2,i3,i4,i5,i6]) rfl ?_
  exact HF.out
end

section
open Go.RowKit
set_option maxRecDepth 100000
def LinksPos (l : List Ob) : Prop:=∀ x ∈ l,∀ i ∈ x.links,i ≠ 0
theorem Holds.no {R : Nat} {W W' : World} {a : Option Addr} {L : List Int} (h : Holds W a L) (hz : Zero W R) (hp : ∀ i ∈ L,i ≠ 0) (hs : W.heap.size ≤ W'.heap.size) (hk : ∀ k,k ≠ R → W'.heap[k]? = W.heap[k]?) : Holds W' a L:=by
  intro i hi
  obtain ⟨b,off,e,hlt,hc⟩:=h i hi
  have hb : b ≠ R:=fun q=>by
    subst q
    have h0:=hz _ _ (hc i hi)
    rw [List.getD_eq_getElem?_getD,List.getElem?_eq_getElem hi] at h0
    exact hp _ (List.getElem_mem hi) h0
  exact ⟨b,off,e,Nat.lt_of_lt_of_le hlt hs,fun j hj=>(World.cell?_of_block (a:=⟨b,off + j,none⟩) (hk b hb)).trans (hc j hj)⟩
theorem HoldsS.no {R : Nat} {W W' : World} {a : Option Addr} {l : List Ob} (h : HoldsS W a l) (hn : NoS W R) (hz : Zero W R) (hp : LinksPos l) (hs : W.heap.size ≤ W'.heap.size) (hk : ∀ k,k ≠ R → W'.heap[k]? = W.heap[k]?) : HoldsS W' a l:=by
  intro i hi
  obtain ⟨b,off,e,hlt,hc⟩:=h i hi
  have hb : b ≠ R:=fun q=>by
    subst q
    obtain ⟨sa,sc,_,_,_,h3,_⟩:=hc i hi
    exact hn _ _ h3
  refine ⟨b,off,e,Nat.lt_of_lt_of_le hlt hs,fun j hj=>?_⟩
  obtain ⟨sa,sc,h0,h1,h2,h3,h4,h5⟩:=hc j hj
  exact ⟨sa,sc,(World.cell?_of_block (a:=⟨b,off + j * 4,none⟩) (hk b hb)).trans h0,(World.cell?_of_block (a:=⟨b,off + j * 4 + 1,none⟩) (hk b hb)).trans h1,(World.cell?_of_block (a:=⟨b,off + j * 4 + 2,none⟩) (hk b hb)).trans h2,(World.cell?_of_block (a:=⟨b,off + j * 4 + 3,none⟩) (hk b hb)).trans h3,h4.no hz (hp _ (List.getElem_mem hj)) hs hk,h5⟩
theorem err_pos {x : Ob} (h : x.err = 0) : ∀ i ∈ x.links,i ≠ 0:=fun i hi=>by
  have h5:=(checkE_zero h).2.2.2.2.1
  have:=linksE_mem x.links 0 0 h5 i hi
  omega
theorem check_pos {s : List Ob} (h : checkS s = 0) : LinksPos s:=fun x hx=>err_pos (checkS_err h x hx)
theorem three_blocks (w : World) (A B C : Obj) : (((w.alloc A).alloc B).alloc C).heap[w.heap.size]? = some A ∧ (((w.alloc A).alloc B).alloc C).heap[w.heap.size + 1]? = some B ∧ (((w.alloc A).alloc B).alloc C).heap[w.heap.size + 2]? = some C ∧ Below w.heap.size w (((w.alloc A).alloc B).alloc C):=by
  obtain ⟨h1,h2⟩:=two_blocks w A B
  have hA:=below_alloc ((w.alloc A).alloc B) C
  have h3:=heap_alloc_new ((w.alloc A).alloc B) C
  rw [show ((w.alloc A).alloc B).heap.size = w.heap.size + 2 by simp] at h3
  have hB:=below_alloc2 w A B
  exact ⟨(hA.block _ (heap_lt h1)).trans h1,(hA.block _ (heap_lt h2)).trans h2,h3,hB.trans (hA.mono hB.size)⟩
set_option maxHeartbeats 4000000 in
theorem prepare_any (aS : Option Addr) (cs : Nat) (s : List Ob) (al : Option Addr) (cl : Nat) (l : List Rf) (g ph : Int) (a1 : Option Addr) (c1 : Nat) (m : List Ob) (a2 : Option Addr) (c2 : Nat) (us : List Up) (f : Bool) (am : Option Addr) (cm : Nat) (m2 : List Ob) (au : Option Addr) (cu : Nat) (us2 : List Up) (f2 : Bool) (w : World) (hg : Glob w) (H : RepH w aS s al l a1 m a2 us) (hm2 : HoldsS w am m2) (hml2 : m2.length ≤ 9223372036854775807) (hu2 : HoldsU w au us2) (hul2 : us2.length ≤ 9223372036854775807) :
    Calls Tryz.prog 96 #[RV aS cs s al cl l g ph a1 c1 m a2 c2 us f,pushV am m2.length cm au us2.length cu f2] w (RepPost (prepE s l g ph m us f m2 us2) s l g 1 m2 us2 f2 w):=by
  obtain ⟨hk1,hk2,hk3,hB⟩:=three_blocks w (RB aS cs s al cl l g ph a1 c1 m a2 c2 us f) (.cells #[.slice am m2.length cm,.slice au us2.length cu,.bool f2] 28) zero28
  obtain ⟨y0,y1,y2,y3,y4,y5,y6⟩:=c7_of hk1
  have hdu:=during_prep aS cs s al cl l g ph a1 c1 m a2 c2 us f (w.heap.size + 1) am cm m2 au cu us2 f2 _ (hg.below hB) (H.below hB) hk2 (hm2.below hB) hml2 (hu2.below hB) hul2
  go_enter Tryz.func96,Tryz.ntmps96
  go_wp2_with fail
  generalize (((w.alloc (RB aS cs s al cl l g ph a1 c1 m a2 c2 us f)).alloc (.cells #[.slice am m2.length cm,.slice au us2.length cu,.bool f2] 28)).alloc zero28) = W0 at *
  refine hdu.mono ?_
  clear hdu
  rintro e W1 ⟨hb1,hpost⟩
  have kk1:=(hb1.block _ (heap_lt hk3)).trans hk3
  have hB1:=hB.trans (hb1.mono hB.size)
  have HZ0 : Hid (w.heap.size + 2 < W0.heap.size):=heap_lt hk3
  clear y0 y1 y2 y3 y4 y5 y6 hk1 hk2 hk3 hB hb1
  rcases hpost with ⟨hne,rfl⟩ | ⟨hz,b0,d0,b1,d1,b2,d2,b3,d3,rfl,H1⟩
  · have hzs:=set7_same W1 (w.heap.size + 2) 36 (.slice none 0 0) (.slice none 0 0) (.int .i64 0) (.int .i64 0) (.slice none 0 0) (.slice none 0 0) (.bool false) kk1
    obtain ⟨o0,o1,o2,o3,o4,o5,o6⟩:=c7_of kk1
    have fz0:=f_of (o:=0) kk1
    have fz1:=f_of (o:=1) kk1
    have fz2:=f_of (o:=2) kk1
    have fz3:=f_of (o:=3) kk1
    have fz4:=f_of (o:=4) kk1
    have fz5:=f_of (o:=5) kk1
    have fz6:=f_of (o:=6) kk1
    obtain ⟨i0,i1,i2,i3,i4,i5,i6⟩:=c7_of ((hzs.block _ (heap_lt kk1)).trans kk1)
    have HF : Hid (RepPost (prepE s l g ph m us f m2 us2) s l g 1 m2 us2 f2 w (.returned (.tuple #[zeroV,.int .i64 (prepE s l g ph m us f m2 us2)])) (((((((W1.setCell ⟨w.heap.size + 2,0,none⟩ (.slice none 0 0)).setCell ⟨w.heap.size + 2,1,none⟩ (.slice none 0 0)).setCell ⟨w.heap.size + 2,2,none⟩ (.int .i64 0)).setCell ⟨w.heap.size + 2,3,none⟩ (.int .i64 0)).setCell ⟨w.heap.size + 2,4,none⟩ (.slice none 0 0)).setCell ⟨w.heap.size + 2,5,none⟩ (.slice none 0 0)).setCell ⟨w.heap.size + 2,6,none⟩ (.bool false))):=RepPost.bad rfl hne (hB1.trans (hzs.mono hB1.size))
    clear hne kk1 hB1 hzs H
    go_wp2
    refine bodyPost_ret (v:=.tuple #[zeroV,.int .i64 (prepE s l g ph m us f m2 us2)]) (by simp [results,Tryz.results96,go_sem,i0,i1,i2,i3,i4,i5,i6]) rfl ?_
    exact HF.out
  · obtain ⟨o0,o1,o2,o3,o4,o5,o6⟩:=c7_of kk1
    have fz0:=f_of (o:=0) kk1
    have fz1:=f_of (o:=1) kk1
    have fz2:=f_of (o:=2) kk1
    have fz3:=f_of (o:=3) kk1
    have fz4:=f_of (o:=4) kk1
    have fz5:=f_of (o:=5) kk1
    have fz6:=f_of (o:=6) kk1
    obtain ⟨s1,s2,s3⟩:=set7_block W1 (w.heap.size + 2) 36 (.slice b0 s.length d0) (.slice b1 l.length d1) (.int .i64 g) (.int .i64 1) (.slice b2 m2.length d2) (.slice b3 us2.length d3) (.bool f2) kk1
    obtain ⟨i0,i1,i2,i3,i4,i5,i6⟩:=c7_of s1
    have HF : Hid (RepPost (prepE s l g ph m us f m2 us2) s l g 1 m2 us2 f2 w (.returned (.tuple #[RV b0 d0 s b1 d1 l g 1 b2 d2 m2 b3 d3 us2 f2,.int .i64 0])) (((((((W1.setCell ⟨w.heap.size + 2,0,none⟩ (.slice b0 s.length d0)).setCell ⟨w.heap.size + 2,1,none⟩ (.slice b1 l.length d1)).setCell ⟨w.heap.size + 2,2,none⟩ (.int .i64 g)).setCell ⟨w.heap.size + 2,3,none⟩ (.int .i64 1)).setCell ⟨w.heap.size + 2,4,none⟩ (.slice b2 m2.length d2)).setCell ⟨w.heap.size + 2,5,none⟩ (.slice b3 us2.length d3)).setCell ⟨w.heap.size + 2,6,none⟩ (.bool f2))) :=
      ⟨hB1.trans (s2.mono (by omega)),.inr ⟨hz,b0,d0,b1,d1,b2,d2,b3,d3,rfl,(H1.keep s2.size (fun k hk=>s3 k (by have:=HZ0.out;omega))).from (by have:=HZ0.out;omega)⟩⟩
    clear s1 s2 s3 H1 hz hB1 kk1 H
    go_wp2
    refine bodyPost_ret (v:=.tuple #[replV b0 s.length d0 b1 l.length d1 g 1 b2 m2.length d2 b3 us2.length d3 f2,.int .i64 0]) (by simp [results,Tryz.results96,go_sem,i0,i1,i2,i3,i4,i5,i6]) rfl ?_
    exact HF.out
set_option maxHeartbeats 4000000 in
theorem finish_any (aS : Option Addr) (cs : Nat) (s : List Ob) (al : Option Addr) (cl : Nat) (l : List Rf) (g ph : Int) (a1 : Option Addr) (c1 : Nat) (m : List Ob) (a2 : Option Addr) (c2 : Nat) (us : List Up) (f : Bool) (c : Bool) (w : World) (hg : Glob w) (H : RepH w aS s al l a1 m a2 us) :
    Calls Tryz.prog 100 #[RV aS cs s al cl l g ph a1 c1 m a2 c2 us f,.bool c] w (RepPost (finE s l g ph m us f c) (finS s m c) (finL l us c) (finG g c) 0 [] [] false w):=by
  obtain ⟨hk1,hk2,hk3,hB⟩:=three_blocks w (RB aS cs s al cl l g ph a1 c1 m a2 c2 us f) (.cells #[.bool c] 4) zero28
  obtain ⟨y0,y1,y2,y3,y4,y5,y6⟩:=c7_of hk1
  have hdu:=during_fin aS cs s al cl l g ph a1 c1 m a2 c2 us f (w.heap.size + 1) c _ (hg.below hB) (H.below hB) hk2
  go_enter Tryz.func100,Tryz.ntmps100
  go_wp2_with fail
  generalize (((w.alloc (RB aS cs s al cl l g ph a1 c1 m a2 c2 us f)).alloc (.cells #[.bool c] 4)).alloc zero28) = W0 at *
  refine hdu.mono ?_
  clear hdu
  rintro e W1 ⟨hb1,hpost⟩
  have kk1:=(hb1.block _ (heap_lt hk3)).trans hk3
  have hB1:=hB.trans (hb1.mono hB.size)
  have HZ0 : Hid (w.heap.size + 2 < W0.heap.size):=heap_lt hk3
  clear y0 y1 y2 y3 y4 y5 y6 hk1 hk2 hk3 hB hb1
  rcases hpost with ⟨hne,rfl⟩ | ⟨hz,b0,d0,b1,d1,b2,d2,b3,d3,rfl,H1⟩
  · have hzs:=set7_same W1 (w.heap.size + 2) 36 (.slice none 0 0) (.slice none 0 0) (.int .i64 0) (.int .i64 0) (.slice none 0 0) (.slice none 0 0) (.bool false) kk1
    obtain ⟨o0,o1,o2,o3,o4,o5,o6⟩:=c7_of kk1
    have fz0:=f_of (o:=0) kk1
    have fz1:=f_of (o:=1) kk1
    have fz2:=f_of (o:=2) kk1
    have fz3:=f_of (o:=3) kk1
    have fz4:=f_of (o:=4) kk1
    have fz5:=f_of (o:=5) kk1
    have fz6:=f_of (o:=6) kk1
    obtain ⟨i0,i1,i2,i3,i4,i5,i6⟩:=c7_of ((hzs.block _ (heap_lt kk1)).trans kk1)
    have HF : Hid (RepPost (finE s l g ph m us f c) (finS s m c) (finL l us c) (finG g c) 0 [] [] false w (.returned (.tuple #[zeroV,.int .i64 (finE s l g ph m us f c)])) (((((((W1.setCell ⟨w.heap.size + 2,0,none⟩ (.slice none 0 0)).setCell ⟨w.heap.size + 2,1,none⟩ (.slice none 0 0)).setCell ⟨w.heap.size + 2,2,none⟩ (.int .i64 0)).setCell ⟨w.heap.size + 2,3,none⟩ (.int .i64 0)).setCell ⟨w.heap.size + 2,4,none⟩ (.slice none 0 0)).setCell ⟨w.heap.size + 2,5,none⟩ (.slice none 0 0)).setCell ⟨w.heap.size + 2,6,none⟩ (.bool false))):=RepPost.bad rfl hne (hB1.trans (hzs.mono hB1.size))
    clear hne kk1 hB1 hzs H
    go_wp2
    refine bodyPost_ret (v:=.tuple #[zeroV,.int .i64 (finE s l g ph m us f c)]) (by simp [results,Tryz.results100,go_sem,i0,i1,i2,i3,i4,i5,i6]) rfl ?_
    exact HF.out
  · obtain ⟨o0,o1,o2,o3,o4,o5,o6⟩:=c7_of kk1
    have fz0:=f_of (o:=0) kk1
    have fz1:=f_of (o:=1) kk1
    have fz2:=f_of (o:=2) kk1
    have fz3:=f_of (o:=3) kk1
    have fz4:=f_of (o:=4) kk1
    have fz5:=f_of (o:=5) kk1
    have fz6:=f_of (o:=6) kk1
    obtain ⟨s1,s2,s3⟩:=set7_block W1 (w.heap.size + 2) 36 (.slice b0 (finS s m c).length d0) (.slice b1 (finL l us c).length d1) (.int .i64 (finG g c)) (.int .i64 0) (.slice b2 0 d2) (.slice b3 0 d3) (.bool false) kk1
    obtain ⟨i0,i1,i2,i3,i4,i5,i6⟩:=c7_of s1
    have HF : Hid (RepPost (finE s l g ph m us f c) (finS s m c) (finL l us c) (finG g c) 0 [] [] false w (.returned (.tuple #[RV b0 d0 (finS s m c) b1 d1 (finL l us c) (finG g c) 0 b2 d2 [] b3 d3 [] false,.int .i64 0])) (((((((W1.setCell ⟨w.heap.size + 2,0,none⟩ (.slice b0 (finS s m c).length d0)).setCell ⟨w.heap.size + 2,1,none⟩ (.slice b1 (finL l us c).length d1)).setCell ⟨w.heap.size + 2,2,none⟩ (.int .i64 (finG g c))).setCell ⟨w.heap.size + 2,3,none⟩ (.int .i64 0)).setCell ⟨w.heap.size + 2,4,none⟩ (.slice b2 0 d2)).setCell ⟨w.heap.size + 2,5,none⟩ (.slice b3 0 d3)).setCell ⟨w.heap.size + 2,6,none⟩ (.bool false))) :=
      ⟨hB1.trans (s2.mono (by omega)),.inr ⟨hz,b0,d0,b1,d1,b2,d2,b3,d3,rfl,(H1.keep s2.size (fun k hk=>s3 k (by have:=HZ0.out;omega))).from (by have:=HZ0.out;omega)⟩⟩
    clear s1 s2 s3 H1 hz hB1 kk1 H
    go_wp2
    refine bodyPost_ret (v:=.tuple #[replV b0 (finS s m c).length d0 b1 (finL l us c).length d1 (finG g c) 0 b2 0 d2 b3 0 d3 false,.int .i64 0]) (by simp [results,Tryz.results100,go_sem,i0,i1,i2,i3,i4,i5,i6]) rfl ?_
    exact HF.out
end

section
open Go.RowKit
set_option maxRecDepth 100000
def VotePost (E : Int) (T : ByteArray) (s : List Ob) (l : List Rf) (g ph : Int) (m : List Ob) (us : List Up) (f : Bool) (w : World) (e : Ending) (w' : World) : Prop :=
  Below w.heap.size w w' ∧ ((E ≠ 0 ∧ e = .returned (.tuple #[zeroV,.string sNil,.int .i64 E])) ∨
    (E = 0 ∧ ∃ b0 d0 b1 d1 b2 d2 b3 d3,e = .returned (.tuple #[RV b0 d0 s b1 d1 l g ph b2 d2 m b3 d3 us f,.string T,.int .i64 0]) ∧ RepF w' w.heap.size b0 d0 s b1 d1 l b2 d2 m b3 d3 us))
set_option maxHeartbeats 8000000 in
theorem vote_any (aS : Option Addr) (cs : Nat) (s : List Ob) (al : Option Addr) (cl : Nat) (l : List Rf) (g ph : Int) (a1 : Option Addr) (c1 : Nat) (m : List Ob) (a2 : Option Addr) (c2 : Nat) (us : List Up) (f : Bool) (w : World) (hg : Glob w) (ht : Tab w) (H : RepH w aS s al l a1 m a2 us) :
    Calls Tryz.prog 97 #[RV aS cs s al cl l g ph a1 c1 m a2 c2 us f] w (VotePost (duE s l g ph m us f 1) (voteS s l g m us f) s l g 2 m us f w):=by
  obtain ⟨hk1,hk2,hk3,hB⟩:=three_blocks w (RB aS cs s al cl l g ph a1 c1 m a2 c2 us f) zero28 (.cells #[.string sNil] 9)
  obtain ⟨y0,y1,y2,y3,y4,y5,y6⟩:=c7_of hk1
  have hdu:=during_vote aS cs s al cl l g ph a1 c1 m a2 c2 us f (w.heap.size + 1 + 1) sNil _ (hg.below hB) (H.below hB) (ht.below hB) hk3
  go_enter Tryz.func97,Tryz.ntmps97
  go_wp2_with fail
  generalize (((w.alloc (RB aS cs s al cl l g ph a1 c1 m a2 c2 us f)).alloc zero28).alloc (.cells #[.string sNil] 9)) = W0 at *
  refine hdu.mono ?_
  clear hdu
  rintro e W1 ⟨hs1,hos1,hta1,hou1,ho1,hpost⟩
  have kk1:=(ho1 (w.heap.size + 1) (heap_lt hk2) (by omega)).trans hk2
  have hB1 : Below w.heap.size w W1:=⟨hos1.trans hB.os,hta1.trans hB.tape,hou1.trans hB.output,Nat.le_trans hB.size hs1,fun k hk=>(ho1 k (by have:=hB.size;omega) (by omega)).trans (hB.block k hk)⟩
  have HZ0 : Hid (w.heap.size + 2 < W0.heap.size):=heap_lt hk3
  clear y0 y1 y2 y3 y4 y5 y6 hk1 hk2 hk3 hB hs1 hos1 hta1 hou1 ho1
  rcases hpost with ⟨hne,rfl,kq1⟩ | ⟨hz,kq1,b0,d0,b1,d1,b2,d2,b3,d3,rfl,H1⟩
  · skip
    have hA2:=below_alloc W1 (.cells #[.slice none 0 0,.slice none 0 0,.int .i64 0,.int .i64 0,.slice none 0 0,.slice none 0 0,.bool false] 36)
    have kb:=heap_alloc_new W1 (.cells #[.slice none 0 0,.slice none 0 0,.int .i64 0,.int .i64 0,.slice none 0 0,.slice none 0 0,.bool false] 36)
    have kz:=(hA2.block _ (heap_lt kk1)).trans kk1
    have kq:=(hA2.block _ (heap_lt kq1)).trans kq1
    have hlz:=heap_lt kk1
    have hlq:=heap_lt kq1
    have hB2:=hB1.trans (hA2.mono hB1.size)
    clear hA2 H
    go_upto_region 3 with fail
    have hdr:=(Below.refl (W1.alloc (.cells #[.slice none 0 0,.slice none 0 0,.int .i64 0,.int .i64 0,.slice none 0 0,.slice none 0 0,.bool false] 36)).heap.size (W1.alloc (.cells #[.slice none 0 0,.slice none 0 0,.int .i64 0,.int .i64 0,.slice none 0 0,.slice none 0 0,.bool false] 36))).drew
    have kbD : (W1.alloc (.cells #[.slice none 0 0,.slice none 0 0,.int .i64 0,.int .i64 0,.slice none 0 0,.slice none 0 0,.bool false] 36)).drew.heap[W1.heap.size]? = _:=kb
    have kqD : (W1.alloc (.cells #[.slice none 0 0,.slice none 0 0,.int .i64 0,.int .i64 0,.slice none 0 0,.slice none 0 0,.bool false] 36)).drew.heap[w.heap.size + 1 + 1]? = _:=kq
    have kzD : (W1.alloc (.cells #[.slice none 0 0,.slice none 0 0,.int .i64 0,.int .i64 0,.slice none 0 0,.slice none 0 0,.bool false] 36)).drew.heap[w.heap.size + 1]? = _:=kz
    have c8 : (W1.alloc (.cells #[.slice none 0 0,.slice none 0 0,.int .i64 0,.int .i64 0,.slice none 0 0,.slice none 0 0,.bool false] 36)).drew.cell? ⟨w.heap.size + 1 + 1,0,none⟩ = some (.string sNil):=by rw [cell_of_row _ _ _ _ _ _ kqD];rfl
    have hS0 : (W1.alloc (.cells #[.slice none 0 0,.slice none 0 0,.int .i64 0,.int .i64 0,.slice none 0 0,.slice none 0 0,.bool false] 36)).drew.cell? ⟨W1.heap.size,0,none⟩ = some (.slice none 0 0) ∧ (W1.alloc (.cells #[.slice none 0 0,.slice none 0 0,.int .i64 0,.int .i64 0,.slice none 0 0,.slice none 0 0,.bool false] 36)).drew.cell? ⟨W1.heap.size,1,none⟩ = some (.slice none 0 0) ∧ (W1.alloc (.cells #[.slice none 0 0,.slice none 0 0,.int .i64 0,.int .i64 0,.slice none 0 0,.slice none 0 0,.bool false] 36)).drew.cell? ⟨W1.heap.size,2,none⟩ = some (.int .i64 0) ∧ (W1.alloc (.cells #[.slice none 0 0,.slice none 0 0,.int .i64 0,.int .i64 0,.slice none 0 0,.slice none 0 0,.bool false] 36)).drew.cell? ⟨W1.heap.size,3,none⟩ = some (.int .i64 0) ∧ (W1.alloc (.cells #[.slice none 0 0,.slice none 0 0,.int .i64 0,.int .i64 0,.slice none 0 0,.slice none 0 0,.bool false] 36)).drew.cell? ⟨W1.heap.size,4,none⟩ = some (.slice none 0 0) ∧ (W1.alloc (.cells #[.slice none 0 0,.slice none 0 0,.int .i64 0,.int .i64 0,.slice none 0 0,.slice none 0 0,.bool false] 36)).drew.cell? ⟨W1.heap.size,5,none⟩ = some (.slice none 0 0) ∧ (W1.alloc (.cells #[.slice none 0 0,.slice none 0 0,.int .i64 0,.int .i64 0,.slice none 0 0,.slice none 0 0,.bool false] 36)).drew.cell? ⟨W1.heap.size,6,none⟩ = some (.bool false) ∧ (W1.alloc (.cells #[.slice none 0 0,.slice none 0 0,.int .i64 0,.int .i64 0,.slice none 0 0,.slice none 0 0,.bool false] 36)).drew.cell? ⟨w.heap.size + 1 + 1,0,none⟩ = some (.string sNil):=by obtain ⟨u0,u1,u2,u3,u4,u5,u6⟩:=c7_of kbD;exact ⟨u0,u1,u2,u3,u4,u5,u6,c8⟩
    have hBD:=hB2.trans (hdr.mono hB2.size)
    refine wp_region_E (fun W=>W.cell? ⟨W1.heap.size,0,none⟩ = some (.slice none 0 0) ∧ W.cell? ⟨W1.heap.size,1,none⟩ = some (.slice none 0 0) ∧ W.cell? ⟨W1.heap.size,2,none⟩ = some (.int .i64 0) ∧ W.cell? ⟨W1.heap.size,3,none⟩ = some (.int .i64 0) ∧ W.cell? ⟨W1.heap.size,4,none⟩ = some (.slice none 0 0) ∧ W.cell? ⟨W1.heap.size,5,none⟩ = some (.slice none 0 0) ∧ W.cell? ⟨W1.heap.size,6,none⟩ = some (.bool false) ∧ W.cell? ⟨w.heap.size + 1 + 1,0,none⟩ = some (.string sNil)) (fun _=>false) (by kernel_rfl) hS0 (fun hS=>?_)
    generalize (W1.alloc (.cells #[.slice none 0 0,.slice none 0 0,.int .i64 0,.int .i64 0,.slice none 0 0,.slice none 0 0,.bool false] 36)).drew = W3 at *
    refine wpAnyE.take (i:=0) (v:=?_) rfl (by kernel_rfl) (by kernel_rfl) (by kernel_rfl) (by kernel_rfl) (fun _ _ _ h=>h) (Or.inl ⟨by rfl,?_⟩) (by assumption) ?_
    rotate_left
    · intro w hSw;obtain ⟨z0,z1,z2,z3,z4,z5,z6,z7⟩:=hSw;go_simp;with_reducible rfl
    try simp only [Act.put,uA,uC,uD,uE,uF]
    refine wpAnyE.take (i:=1) (v:=?_) rfl (by kernel_rfl) (by kernel_rfl) (by kernel_rfl) (by kernel_rfl) (fun _ _ _ h=>h) (Or.inl ⟨by rfl,?_⟩) (by assumption) ?_
    rotate_left
    · intro w hSw;obtain ⟨z0,z1,z2,z3,z4,z5,z6,z7⟩:=hSw;go_simp;with_reducible rfl
    try simp only [Act.put,uA,uB,uC,uD,uE,uF]
    refine wpAnyE.take (i:=2) (v:=?_) rfl (by kernel_rfl) (by kernel_rfl) (by kernel_rfl) (by kernel_rfl) (fun _ _ _ h=>h) (Or.inl ⟨by rfl,?_⟩) (by assumption) ?_
    rotate_left
    · intro w hSw;obtain ⟨z0,z1,z2,z3,z4,z5,z6,z7⟩:=hSw;go_simp;with_reducible rfl
    try simp only [Act.put,uA,uB,uC,uD,uE,uF]
    refine wpAnyE.one (i:=3) (by kernel_rfl) rfl (fun K hK=>?_)
    obtain ⟨o0,o1,o2,o3,o4,o5,o6⟩:=c7_of kzD
    have fz0:=f_of (o:=0) kzD
    have fz1:=f_of (o:=1) kzD
    have fz2:=f_of (o:=2) kzD
    have fz3:=f_of (o:=3) kzD
    have fz4:=f_of (o:=4) kzD
    have fz5:=f_of (o:=5) kzD
    have fz6:=f_of (o:=6) kzD
    obtain ⟨s1,s2,s3⟩:=set7_block W3 (w.heap.size + 1) 36 (.slice none 0 0) (.slice none 0 0) (.int .i64 0) (.int .i64 0) (.slice none 0 0) (.slice none 0 0) (.bool false) kzD
    go_simp
    obtain ⟨W4,hW4⟩ : ∃ W4,W4 = (((((((W3.setCell ⟨w.heap.size + 1,0,none⟩ (.slice none 0 0)).setCell ⟨w.heap.size + 1,1,none⟩ (.slice none 0 0)).setCell ⟨w.heap.size + 1,2,none⟩ (.int .i64 0)).setCell ⟨w.heap.size + 1,3,none⟩ (.int .i64 0)).setCell ⟨w.heap.size + 1,4,none⟩ (.slice none 0 0)).setCell ⟨w.heap.size + 1,5,none⟩ (.slice none 0 0)).setCell ⟨w.heap.size + 1,6,none⟩ (.bool false)):=⟨_,rfl⟩
    rw [← hW4] at s1 s2 s3 ⊢
    have kb4:=(s3 W1.heap.size (by omega)).trans kbD
    have kq4:=(s3 (w.heap.size + 1 + 1) (by omega)).trans kqD
    have c84 : W4.cell? ⟨w.heap.size + 1 + 1,0,none⟩ = some (.string sNil):=by rw [cell_of_row _ _ _ _ _ _ kq4];rfl
    have hS4 : W4.cell? ⟨W1.heap.size,0,none⟩ = some (.slice none 0 0) ∧ W4.cell? ⟨W1.heap.size,1,none⟩ = some (.slice none 0 0) ∧ W4.cell? ⟨W1.heap.size,2,none⟩ = some (.int .i64 0) ∧ W4.cell? ⟨W1.heap.size,3,none⟩ = some (.int .i64 0) ∧ W4.cell? ⟨W1.heap.size,4,none⟩ = some (.slice none 0 0) ∧ W4.cell? ⟨W1.heap.size,5,none⟩ = some (.slice none 0 0) ∧ W4.cell? ⟨W1.heap.size,6,none⟩ = some (.bool false) ∧ W4.cell? ⟨w.heap.size + 1 + 1,0,none⟩ = some (.string sNil):=by obtain ⟨u0,u1,u2,u3,u4,u5,u6⟩:=c7_of kb4;exact ⟨u0,u1,u2,u3,u4,u5,u6,c84⟩
    obtain ⟨i0,i1,i2,i3,i4,i5,i6⟩:=c7_of s1
    have hB4:=hBD.trans (s2.mono (by omega))
    clear o0 o1 o2 o3 o4 o5 o6 hW4
    refine hK _ _ (fun _=>hS4) ?_
    clear hK K
    try simp only [Act.put,uA,uB,uC,uD,uE,uF]
    refine wpAnyE.one (i:=4) (by kernel_rfl) rfl (fun K hK=>?_)
    go_simp
    refine hK _ _ (fun _=>hS4) ?_
    clear hK K
    try simp only [Act.put,uA,uB,uC,uD,uE,uF]
    refine wpAnyE.one (i:=5) (by kernel_rfl) rfl (fun K hK=>?_)
    go_simp
    refine hK _ _ (fun _=>hS4) ?_
    clear hK K
    try simp only [Act.put,uA,uB,uC,uD,uE,uF]
    refine wpAnyE.done (by kernel_rfl) ?_
    have HF : Hid (VotePost (duE s l g ph m us f 1) (voteS s l g m us f) s l g 2 m us f w (.returned (.tuple #[zeroV,.string sNil,.int .i64 (duE s l g ph m us f 1)])) W4):=⟨hB4,.inl ⟨hne,rfl⟩⟩
    clear hS4 hS hS0 s1 s2 s3 kb4 kq4 hBD hB4 kbD kqD kzD kz kq kb kk1 kq1 hne
    go_wp2
    refine bodyPost_ret (v:=.tuple #[zeroV,.string sNil,.int .i64 (duE s l g ph m us f 1)]) (by simp [results,Tryz.results97,go_sem,i0,i1,i2,i3,i4,i5,i6]) rfl ?_
    exact HF.out
  · skip
    have hA2:=below_alloc W1 (.cells #[.slice b0 s.length d0,.slice b1 l.length d1,.int .i64 g,.int .i64 2,.slice b2 m.length d2,.slice b3 us.length d3,.bool f] 36)
    have kb:=heap_alloc_new W1 (.cells #[.slice b0 s.length d0,.slice b1 l.length d1,.int .i64 g,.int .i64 2,.slice b2 m.length d2,.slice b3 us.length d3,.bool f] 36)
    have kz:=(hA2.block _ (heap_lt kk1)).trans kk1
    have kq:=(hA2.block _ (heap_lt kq1)).trans kq1
    have hlz:=heap_lt kk1
    have hlq:=heap_lt kq1
    have hB2:=hB1.trans (hA2.mono hB1.size)
    have H2:=H1.below hA2
    clear hA2 H H1
    go_upto_region 3 with fail
    have hdr:=(Below.refl (W1.alloc (.cells #[.slice b0 s.length d0,.slice b1 l.length d1,.int .i64 g,.int .i64 2,.slice b2 m.length d2,.slice b3 us.length d3,.bool f] 36)).heap.size (W1.alloc (.cells #[.slice b0 s.length d0,.slice b1 l.length d1,.int .i64 g,.int .i64 2,.slice b2 m.length d2,.slice b3 us.length d3,.bool f] 36))).drew
    have kbD : (W1.alloc (.cells #[.slice b0 s.length d0,.slice b1 l.length d1,.int .i64 g,.int .i64 2,.slice b2 m.length d2,.slice b3 us.length d3,.bool f] 36)).drew.heap[W1.heap.size]? = _:=kb
    have kqD : (W1.alloc (.cells #[.slice b0 s.length d0,.slice b1 l.length d1,.int .i64 g,.int .i64 2,.slice b2 m.length d2,.slice b3 us.length d3,.bool f] 36)).drew.heap[w.heap.size + 1 + 1]? = _:=kq
    have kzD : (W1.alloc (.cells #[.slice b0 s.length d0,.slice b1 l.length d1,.int .i64 g,.int .i64 2,.slice b2 m.length d2,.slice b3 us.length d3,.bool f] 36)).drew.heap[w.heap.size + 1]? = _:=kz
    have c8 : (W1.alloc (.cells #[.slice b0 s.length d0,.slice b1 l.length d1,.int .i64 g,.int .i64 2,.slice b2 m.length d2,.slice b3 us.length d3,.bool f] 36)).drew.cell? ⟨w.heap.size + 1 + 1,0,none⟩ = some (.string (voteS s l g m us f)):=by rw [cell_of_row _ _ _ _ _ _ kqD];rfl
    have hS0 : (W1.alloc (.cells #[.slice b0 s.length d0,.slice b1 l.length d1,.int .i64 g,.int .i64 2,.slice b2 m.length d2,.slice b3 us.length d3,.bool f] 36)).drew.cell? ⟨W1.heap.size,0,none⟩ = some (.slice b0 s.length d0) ∧ (W1.alloc (.cells #[.slice b0 s.length d0,.slice b1 l.length d1,.int .i64 g,.int .i64 2,.slice b2 m.length d2,.slice b3 us.length d3,.bool f] 36)).drew.cell? ⟨W1.heap.size,1,none⟩ = some (.slice b1 l.length d1) ∧ (W1.alloc (.cells #[.slice b0 s.length d0,.slice b1 l.length d1,.int .i64 g,.int .i64 2,.slice b2 m.length d2,.slice b3 us.length d3,.bool f] 36)).drew.cell? ⟨W1.heap.size,2,none⟩ = some (.int .i64 g) ∧ (W1.alloc (.cells #[.slice b0 s.length d0,.slice b1 l.length d1,.int .i64 g,.int .i64 2,.slice b2 m.length d2,.slice b3 us.length d3,.bool f] 36)).drew.cell? ⟨W1.heap.size,3,none⟩ = some (.int .i64 2) ∧ (W1.alloc (.cells #[.slice b0 s.length d0,.slice b1 l.length d1,.int .i64 g,.int .i64 2,.slice b2 m.length d2,.slice b3 us.length d3,.bool f] 36)).drew.cell? ⟨W1.heap.size,4,none⟩ = some (.slice b2 m.length d2) ∧ (W1.alloc (.cells #[.slice b0 s.length d0,.slice b1 l.length d1,.int .i64 g,.int .i64 2,.slice b2 m.length d2,.slice b3 us.length d3,.bool f] 36)).drew.cell? ⟨W1.heap.size,5,none⟩ = some (.slice b3 us.length d3) ∧ (W1.alloc (.cells #[.slice b0 s.length d0,.slice b1 l.length d1,.int .i64 g,.int .i64 2,.slice b2 m.length d2,.slice b3 us.length d3,.bool f] 36)).drew.cell? ⟨W1.heap.size,6,none⟩ = some (.bool f) ∧ (W1.alloc (.cells #[.slice b0 s.length d0,.slice b1 l.length d1,.int .i64 g,.int .i64 2,.slice b2 m.length d2,.slice b3 us.length d3,.bool f] 36)).drew.cell? ⟨w.heap.size + 1 + 1,0,none⟩ = some (.string (voteS s l g m us f)):=by obtain ⟨u0,u1,u2,u3,u4,u5,u6⟩:=c7_of kbD;exact ⟨u0,u1,u2,u3,u4,u5,u6,c8⟩
    have hBD:=hB2.trans (hdr.mono hB2.size)
    have HD:=H2.below hdr
    refine wp_region_E (fun W=>W.cell? ⟨W1.heap.size,0,none⟩ = some (.slice b0 s.length d0) ∧ W.cell? ⟨W1.heap.size,1,none⟩ = some (.slice b1 l.length d1) ∧ W.cell? ⟨W1.heap.size,2,none⟩ = some (.int .i64 g) ∧ W.cell? ⟨W1.heap.size,3,none⟩ = some (.int .i64 2) ∧ W.cell? ⟨W1.heap.size,4,none⟩ = some (.slice b2 m.length d2) ∧ W.cell? ⟨W1.heap.size,5,none⟩ = some (.slice b3 us.length d3) ∧ W.cell? ⟨W1.heap.size,6,none⟩ = some (.bool f) ∧ W.cell? ⟨w.heap.size + 1 + 1,0,none⟩ = some (.string (voteS s l g m us f))) (fun _=>false) (by kernel_rfl) hS0 (fun hS=>?_)
    generalize (W1.alloc (.cells #[.slice b0 s.length d0,.slice b1 l.length d1,.int .i64 g,.int .i64 2,.slice b2 m.length d2,.slice b3 us.length d3,.bool f] 36)).drew = W3 at *
    refine wpAnyE.take (i:=0) (v:=?_) rfl (by kernel_rfl) (by kernel_rfl) (by kernel_rfl) (by kernel_rfl) (fun _ _ _ h=>h) (Or.inl ⟨by rfl,?_⟩) (by assumption) ?_
    rotate_left
    · intro w hSw;obtain ⟨z0,z1,z2,z3,z4,z5,z6,z7⟩:=hSw;go_simp;with_reducible rfl
    try simp only [Act.put,uA,uC,uD,uE,uF]
    refine wpAnyE.take (i:=1) (v:=?_) rfl (by kernel_rfl) (by kernel_rfl) (by kernel_rfl) (by kernel_rfl) (fun _ _ _ h=>h) (Or.inl ⟨by rfl,?_⟩) (by assumption) ?_
    rotate_left
    · intro w hSw;obtain ⟨z0,z1,z2,z3,z4,z5,z6,z7⟩:=hSw;go_simp;with_reducible rfl
    try simp only [Act.put,uA,uB,uC,uD,uE,uF]
    refine wpAnyE.take (i:=2) (v:=?_) rfl (by kernel_rfl) (by kernel_rfl) (by kernel_rfl) (by kernel_rfl) (fun _ _ _ h=>h) (Or.inl ⟨by rfl,?_⟩) (by assumption) ?_
    rotate_left
    · intro w hSw;obtain ⟨z0,z1,z2,z3,z4,z5,z6,z7⟩:=hSw;go_simp;with_reducible rfl
    try simp only [Act.put,uA,uB,uC,uD,uE,uF]
    refine wpAnyE.one (i:=3) (by kernel_rfl) rfl (fun K hK=>?_)
    obtain ⟨o0,o1,o2,o3,o4,o5,o6⟩:=c7_of kzD
    have fz0:=f_of (o:=0) kzD
    have fz1:=f_of (o:=1) kzD
    have fz2:=f_of (o:=2) kzD
    have fz3:=f_of (o:=3) kzD
    have fz4:=f_of (o:=4) kzD
    have fz5:=f_of (o:=5) kzD
    have fz6:=f_of (o:=6) kzD
    obtain ⟨s1,s2,s3⟩:=set7_block W3 (w.heap.size + 1) 36 (.slice b0 s.length d0) (.slice b1 l.length d1) (.int .i64 g) (.int .i64 2) (.slice b2 m.length d2) (.slice b3 us.length d3) (.bool f) kzD
    go_simp
    obtain ⟨W4,hW4⟩ : ∃ W4,W4 = (((((((W3.setCell ⟨w.heap.size + 1,0,none⟩ (.slice b0 s.length d0)).setCell ⟨w.heap.size + 1,1,none⟩ (.slice b1 l.length d1)).setCell ⟨w.heap.size + 1,2,none⟩ (.int .i64 g)).setCell ⟨w.heap.size + 1,3,none⟩ (.int .i64 2)).setCell ⟨w.heap.size + 1,4,none⟩ (.slice b2 m.length d2)).setCell ⟨w.heap.size + 1,5,none⟩ (.slice b3 us.length d3)).setCell ⟨w.heap.size + 1,6,none⟩ (.bool f)):=⟨_,rfl⟩
    rw [← hW4] at s1 s2 s3 ⊢
    have kb4:=(s3 W1.heap.size (by omega)).trans kbD
    have kq4:=(s3 (w.heap.size + 1 + 1) (by omega)).trans kqD
    have c84 : W4.cell? ⟨w.heap.size + 1 + 1,0,none⟩ = some (.string (voteS s l g m us f)):=by rw [cell_of_row _ _ _ _ _ _ kq4];rfl
    have hS4 : W4.cell? ⟨W1.heap.size,0,none⟩ = some (.slice b0 s.length d0) ∧ W4.cell? ⟨W1.heap.size,1,none⟩ = some (.slice b1 l.length d1) ∧ W4.cell? ⟨W1.heap.size,2,none⟩ = some (.int .i64 g) ∧ W4.cell? ⟨W1.heap.size,3,none⟩ = some (.int .i64 2) ∧ W4.cell? ⟨W1.heap.size,4,none⟩ = some (.slice b2 m.length d2) ∧ W4.cell? ⟨W1.heap.size,5,none⟩ = some (.slice b3 us.length d3) ∧ W4.cell? ⟨W1.heap.size,6,none⟩ = some (.bool f) ∧ W4.cell? ⟨w.heap.size + 1 + 1,0,none⟩ = some (.string (voteS s l g m us f)):=by obtain ⟨u0,u1,u2,u3,u4,u5,u6⟩:=c7_of kb4;exact ⟨u0,u1,u2,u3,u4,u5,u6,c84⟩
    obtain ⟨i0,i1,i2,i3,i4,i5,i6⟩:=c7_of s1
    have hB4:=hBD.trans (s2.mono (by omega))
    have H4:=HD.keep s2.size (fun k hk=>s3 k (by have:=HZ0.out;omega))
    clear o0 o1 o2 o3 o4 o5 o6 hW4
    refine hK _ _ (fun _=>hS4) ?_
    clear hK K
    try simp only [Act.put,uA,uB,uC,uD,uE,uF]
    refine wpAnyE.one (i:=4) (by kernel_rfl) rfl (fun K hK=>?_)
    go_simp
    refine hK _ _ (fun _=>hS4) ?_
    clear hK K
    try simp only [Act.put,uA,uB,uC,uD,uE,uF]
    refine wpAnyE.one (i:=5) (by kernel_rfl) rfl (fun K hK=>?_)
    go_simp
    refine hK _ _ (fun _=>hS4) ?_
    clear hK K
    try simp only [Act.put,uA,uB,uC,uD,uE,uF]
    refine wpAnyE.done (by kernel_rfl) ?_
    have HF : Hid (VotePost (duE s l g ph m us f 1) (voteS s l g m us f) s l g 2 m us f w (.returned (.tuple #[RV b0 d0 s b1 d1 l g 2 b2 d2 m b3 d3 us f,.string (voteS s l g m us f),.int .i64 0])) W4):=⟨hB4,.inr ⟨hz,b0,d0,b1,d1,b2,d2,b3,d3,rfl,H4.from (by have:=HZ0.out;omega)⟩⟩
    clear hS4 hS hS0 s1 s2 s3 kb4 kq4 hBD hB4 kbD kqD kzD kz kq kb kk1 kq1 H4 HD hz
    go_wp2
    refine bodyPost_ret (v:=.tuple #[RV b0 d0 s b1 d1 l g 2 b2 d2 m b3 d3 us f,.string (voteS s l g m us f),.int .i64 0]) (by simp [results,Tryz.results97,go_sem,i0,i1,i2,i3,i4,i5,i6]) rfl ?_
    exact HF.out
end
end Go.Proofs.YtehmlpkapjdhkaaGreatDoor
