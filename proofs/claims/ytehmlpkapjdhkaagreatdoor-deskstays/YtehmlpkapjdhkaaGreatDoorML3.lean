import Derived.Test.YtehmlpkapjdhkaaGreatDoorML2
namespace Go.Proofs.YtehmlpkapjdhkaaGreatDoor
section
open Go.RowKit
set_option maxRecDepth 100000
structure Ld (w : World) (z L B off cap : Nat) (Q : Nat → Rq) (V : Nat → ByteArray) : Prop where
  hL : ∃ cur,w.heap[L]? = some (.cells cur 89)
  hB : ∃ cur,w.heap[B]? = some (.cells cur 36)
  zl : z ≤ L
  zb : z ≤ B
  ne : L ≠ B
  head : w.cell? ⟨L,0,none⟩ = some (.slice (some ⟨B,off,none⟩) 3 cap)
  vote : ∀ i,i < 3 → w.cell? ⟨L,1 + i,none⟩ = some (.string (V i))
  row : ∀ i,i < 3 → QAt w B (off + i * 7) (Q i)
  each : ∀ i,i < 3 → Away w z (fun k=>k = B ∨ k = L) (Q i)
theorem Ld.ltL {w : World} {z L B off cap : Nat} {Q : Nat → Rq} {V : Nat → ByteArray} (h : Ld w z L B off cap Q V) : L < w.heap.size:=by
  obtain ⟨c,q⟩:=h.hL;exact heap_lt q
theorem Ld.ltB {w : World} {z L B off cap : Nat} {Q : Nat → Rq} {V : Nat → ByteArray} (h : Ld w z L B off cap Q V) : B < w.heap.size:=by
  obtain ⟨c,q⟩:=h.hB;exact heap_lt q
theorem Ld.below {w w' : World} {z L B off cap : Nat} {Q : Nat → Rq} {V : Nat → ByteArray} (h : Ld w z L B off cap Q V) (hb : Below w.heap.size w w') : Ld w' z L B off cap Q V:=by
  have l1:=h.ltL
  have l2:=h.ltB
  obtain ⟨c1,q1⟩:=h.hL
  obtain ⟨c2,q2⟩:=h.hB
  exact ⟨⟨c1,(hb.block _ l1).trans q1⟩,⟨c2,(hb.block _ l2).trans q2⟩,h.zl,h.zb,h.ne,(hb.cell (p:=⟨L,0,none⟩) l1).trans h.head,fun i hi=>(hb.cell (p:=⟨L,1 + i,none⟩) l1).trans (h.vote i hi),fun i hi=>(h.row i hi).block (hb.block _ l2),fun i hi=>(h.each i hi).below hb⟩
def upd {α : Type} (f : Nat → α) (k : Nat) (x : α) : Nat → α:=fun i=>if i = k then x else f i
theorem upd_same {α : Type} (f : Nat → α) (k : Nat) (x : α) : upd f k x k = x:=by simp [upd]
theorem upd_other {α : Type} (f : Nat → α) {k i : Nat} (x : α) (h : i ≠ k) : upd f k x i = f i:=by simp [upd,h]
theorem cells_set {w : World} {p o q : Nat} {t : TypeId} (v : Value) (h : ∃ cur,w.heap[q]? = some (.cells cur t)) : ∃ cur,(w.setCell ⟨p,o,none⟩ v).heap[q]? = some (.cells cur t):=by
  obtain ⟨cur,e⟩:=h
  by_cases hq : q = p
  · subst hq;exact ⟨_,heap_setCell_same w q o _ t v e⟩
  · exact ⟨cur,(heap_setCell_other w ⟨p,o,none⟩ q v hq).trans e⟩
theorem cell_off (w : World) (b i o : Nat) (v : Value) (h : o ≠ i) : (w.setCell ⟨b,i,none⟩ v).cell? ⟨b,o,none⟩ = w.cell? ⟨b,o,none⟩:=by
  have:=World.cell?_setCells_out b [v] i w ⟨b,o,none⟩ (fun _ _=>by simp only [List.length_cons,List.length_nil];omega)
  simpa [World.setCells] using this
theorem cell_blk (w : World) (b b' i o : Nat) (v : Value) (h : b' ≠ b) : (w.setCell ⟨b,i,none⟩ v).cell? ⟨b',o,none⟩ = w.cell? ⟨b',o,none⟩ :=
  World.cell?_of_block (a:=⟨b',o,none⟩) (heap_setCell_other w ⟨b,i,none⟩ b' v h)
theorem like_set (w : World) (z b o : Nat) (v : Value) (P : Nat → Prop) (h : P b) : Like z P w (w.setCell ⟨b,o,none⟩ v) :=
  ⟨setcell_size _ _ _,fun k _ _ hn=>heap_setCell_other w ⟨b,o,none⟩ k v (fun e=>hn (by have e' : k = b:=e;rw [e'];exact h))⟩
theorem Ld.vote_set {w : World} {z L B off cap k : Nat} {Q : Nat → Rq} {V : Nat → ByteArray} (h : Ld w z L B off cap Q V) (hk : k < 3) (v : ByteArray) : Ld (w.setCell ⟨L,1 + k,none⟩ (.string v)) z L B off cap Q (upd V k v):=by
  refine ⟨cells_set _ h.hL,cells_set _ h.hB,h.zl,h.zb,h.ne,(cell_off w L (1 + k) 0 _ (by omega)).trans h.head,fun i hi=>?_,fun i hi=>(h.row i hi).block (heap_setCell_other w ⟨L,1 + k,none⟩ B _ (fun e=>h.ne e.symm)),fun i hi=>(h.each i hi).next (like_set w z L (1 + k) _ _ (.inr rfl)) (fun _ _ e=>e)⟩
  by_cases e : i = k
  · subst e;rw [upd_same];exact World.cell?_setCell_same' w _ _ (by rw [h.vote i hi];rfl)
  · rw [upd_other _ _ e,cell_off w L (1 + k) (1 + i) _ (by omega)];exact h.vote i hi
def set7 (w : World) (b o : Nat) (x0 x1 x2 x3 x4 x5 x6 : Value) : World :=
  ((((((w.setCell ⟨b,o,none⟩ x0).setCell ⟨b,o + 1,none⟩ x1).setCell ⟨b,o + 2,none⟩ x2).setCell ⟨b,o + 3,none⟩ x3).setCell ⟨b,o + 4,none⟩ x4).setCell ⟨b,o + 5,none⟩ x5).setCell ⟨b,o + 6,none⟩ x6
theorem set7_off (w : World) (b o p : Nat) (x0 x1 x2 x3 x4 x5 x6 : Value) (h : p < o ∨ o + 7 ≤ p) : (set7 w b o x0 x1 x2 x3 x4 x5 x6).cell? ⟨b,p,none⟩ = w.cell? ⟨b,p,none⟩:=by
  unfold set7
  rw [cell_off _ _ _ _ _ (by omega),cell_off _ _ _ _ _ (by omega),cell_off _ _ _ _ _ (by omega),cell_off _ _ _ _ _ (by omega),cell_off _ _ _ _ _ (by omega),cell_off _ _ _ _ _ (by omega),cell_off _ _ _ _ _ (by omega)]
theorem set7_blk (w : World) (b o k : Nat) (x0 x1 x2 x3 x4 x5 x6 : Value) (h : k ≠ b) : (set7 w b o x0 x1 x2 x3 x4 x5 x6).heap[k]? = w.heap[k]?:=by
  unfold set7
  rw [heap_setCell_other _ ⟨b,o + 6,none⟩ k _ h,heap_setCell_other _ ⟨b,o + 5,none⟩ k _ h,heap_setCell_other _ ⟨b,o + 4,none⟩ k _ h,heap_setCell_other _ ⟨b,o + 3,none⟩ k _ h,heap_setCell_other _ ⟨b,o + 2,none⟩ k _ h,heap_setCell_other _ ⟨b,o + 1,none⟩ k _ h,heap_setCell_other _ ⟨b,o,none⟩ k _ h]
theorem set7_size (w : World) (b o : Nat) (x0 x1 x2 x3 x4 x5 x6 : Value) : (set7 w b o x0 x1 x2 x3 x4 x5 x6).heap.size = w.heap.size:=by simp [set7]
theorem set7_at {w : World} {b o : Nat} {q0 : Rq} (h : QAt w b o q0) (q : Rq) : QAt (set7 w b o (.slice q.aS q.r.s.length q.cs) (.slice q.al q.r.l.length q.cl) (.int .i64 q.r.g) (.int .i64 q.r.ph) (.slice q.a1 q.r.m.length q.c1) (.slice q.a2 q.r.us.length q.c2) (.bool q.r.f)) b o q:=by
  obtain ⟨h0,h1,h2,h3,h4,h5,h6⟩:=h
  have s0 : ∀ (W : World) (p : Nat) (v : Value),(W.cell? ⟨b,p,none⟩).isSome = true → (W.setCell ⟨b,p,none⟩ v).cell? ⟨b,p,none⟩ = some v:=fun W p v hs=>World.cell?_setCell_same' W _ v hs
  unfold set7
  constructor
  · rw [cell_off _ _ _ _ _ (by omega), cell_off _ _ _ _ _ (by omega), cell_off _ _ _ _ _ (by omega), cell_off _ _ _ _ _ (by omega), cell_off _ _ _ _ _ (by omega), cell_off _ _ _ _ _ (by omega)]
    exact s0 _ _ _ (by rw [h0];rfl)
  · rw [cell_off _ _ _ _ _ (by omega), cell_off _ _ _ _ _ (by omega), cell_off _ _ _ _ _ (by omega), cell_off _ _ _ _ _ (by omega), cell_off _ _ _ _ _ (by omega)]
    exact s0 _ _ _ (by rw [cell_off _ _ _ _ _ (by omega),h1];rfl)
  · rw [cell_off _ _ _ _ _ (by omega), cell_off _ _ _ _ _ (by omega), cell_off _ _ _ _ _ (by omega), cell_off _ _ _ _ _ (by omega)]
    exact s0 _ _ _ (by rw [cell_off _ _ _ _ _ (by omega),cell_off _ _ _ _ _ (by omega),h2];rfl)
  · rw [cell_off _ _ _ _ _ (by omega), cell_off _ _ _ _ _ (by omega), cell_off _ _ _ _ _ (by omega)]
    exact s0 _ _ _ (by rw [cell_off _ _ _ _ _ (by omega),cell_off _ _ _ _ _ (by omega),cell_off _ _ _ _ _ (by omega),h3];rfl)
  · rw [cell_off _ _ _ _ _ (by omega), cell_off _ _ _ _ _ (by omega)]
    exact s0 _ _ _ (by rw [cell_off _ _ _ _ _ (by omega),cell_off _ _ _ _ _ (by omega),cell_off _ _ _ _ _ (by omega),cell_off _ _ _ _ _ (by omega),h4];rfl)
  · rw [cell_off _ _ _ _ _ (by omega)]
    exact s0 _ _ _ (by rw [cell_off _ _ _ _ _ (by omega),cell_off _ _ _ _ _ (by omega),cell_off _ _ _ _ _ (by omega),cell_off _ _ _ _ _ (by omega),cell_off _ _ _ _ _ (by omega),h5];rfl)
  · exact s0 _ _ _ (by rw [cell_off _ _ _ _ _ (by omega),cell_off _ _ _ _ _ (by omega),cell_off _ _ _ _ _ (by omega),cell_off _ _ _ _ _ (by omega),cell_off _ _ _ _ _ (by omega),cell_off _ _ _ _ _ (by omega),h6];rfl)
theorem set7_like (w : World) (z b o : Nat) (x0 x1 x2 x3 x4 x5 x6 : Value) (P : Nat → Prop) (h : P b) : Like z P w (set7 w b o x0 x1 x2 x3 x4 x5 x6) :=
  ⟨Nat.le_of_eq (set7_size _ _ _ _ _ _ _ _ _ _).symm,fun k _ _ hn=>set7_blk w b o k _ _ _ _ _ _ _ (fun e=>hn (by rw [e];exact h))⟩
theorem Ld.row_set {w : World} {z L B off cap k : Nat} {Q : Nat → Rq} {V : Nat → ByteArray} (h : Ld w z L B off cap Q V) (hk : k < 3) (q : Rq) (hq : Away w z (fun k=>k = B ∨ k = L) q) :
    Ld (set7 w B (off + k * 7) (.slice q.aS q.r.s.length q.cs) (.slice q.al q.r.l.length q.cl) (.int .i64 q.r.g) (.int .i64 q.r.ph) (.slice q.a1 q.r.m.length q.c1) (.slice q.a2 q.r.us.length q.c2) (.bool q.r.f)) z L B off cap (upd Q k q) V:=by
  have hl:=set7_like w z B (off + k * 7) (.slice q.aS q.r.s.length q.cs) (.slice q.al q.r.l.length q.cl) (.int .i64 q.r.g) (.int .i64 q.r.ph) (.slice q.a1 q.r.m.length q.c1) (.slice q.a2 q.r.us.length q.c2) (.bool q.r.f) (fun k=>k = B ∨ k = L) (.inl rfl)
  have hLb:=set7_blk w B (off + k * 7) L (.slice q.aS q.r.s.length q.cs) (.slice q.al q.r.l.length q.cl) (.int .i64 q.r.g) (.int .i64 q.r.ph) (.slice q.a1 q.r.m.length q.c1) (.slice q.a2 q.r.us.length q.c2) (.bool q.r.f) h.ne
  refine ⟨?_,?_,h.zl,h.zb,h.ne,(World.cell?_of_block (a:=⟨L,0,none⟩) hLb).trans h.head,fun i hi=>(World.cell?_of_block (a:=⟨L,1 + i,none⟩) hLb).trans (h.vote i hi),fun i hi=>?_,fun i hi=>?_⟩
  · obtain ⟨c,e⟩:=h.hL;exact ⟨c,hLb.trans e⟩
  · unfold set7
    exact cells_set _ (cells_set _ (cells_set _ (cells_set _ (cells_set _ (cells_set _ (cells_set _ h.hB))))))
  · by_cases e : i = k
    · subst e;rw [upd_same];exact set7_at (h.row i hi) q
    · rw [upd_other _ _ e]
      obtain ⟨h0,h1,h2,h3,h4,h5,h6⟩:=h.row i hi
      constructor
      · rw [set7_off _ _ _ _ _ _ _ _ _ _ _ (by omega)];exact h0
      · rw [set7_off _ _ _ _ _ _ _ _ _ _ _ (by omega)];exact h1
      · rw [set7_off _ _ _ _ _ _ _ _ _ _ _ (by omega)];exact h2
      · rw [set7_off _ _ _ _ _ _ _ _ _ _ _ (by omega)];exact h3
      · rw [set7_off _ _ _ _ _ _ _ _ _ _ _ (by omega)];exact h4
      · rw [set7_off _ _ _ _ _ _ _ _ _ _ _ (by omega)];exact h5
      · rw [set7_off _ _ _ _ _ _ _ _ _ _ _ (by omega)];exact h6
  · by_cases e : i = k
    · subst e;rw [upd_same];exact hq.next hl (fun _ _ e=>e)
    · rw [upd_other _ _ e];exact (h.each i hi).next hl (fun _ _ e=>e)
theorem below_set7 {n : Nat} {w0 w : World} {b o : Nat} (x0 x1 x2 x3 x4 x5 x6 : Value) (h : Below n w0 w) (hb : n ≤ b) : Below n w0 (set7 w b o x0 x1 x2 x3 x4 x5 x6):=by
  unfold set7
  exact ((((((h.setCell hb _).setCell hb _).setCell hb _).setCell hb _).setCell hb _).setCell hb _).setCell hb _
def Kp2 (B L : Nat) (w w' : World) : Prop:=w.heap.size ≤ w'.heap.size ∧ ∀ j,j < w.heap.size → j ≠ B → j ≠ L → w'.heap[j]? = w.heap[j]?
theorem Kp2.below {B L : Nat} {w w1 w2 : World} (h : Kp2 B L w w1) (hb : Below w1.heap.size w1 w2) : Kp2 B L w w2 :=
  ⟨Nat.le_trans h.1 hb.size,fun j hj hn hm=>(hb.block j (Nat.lt_of_lt_of_le hj h.1)).trans (h.2 j hj hn hm)⟩
theorem Kp2.of {B L : Nat} {w w1 : World} (hb : Below w.heap.size w w1) : Kp2 B L w w1:=⟨hb.size,fun j hj _ _=>hb.block j hj⟩
theorem Kp2.next {B L : Nat} {w w1 w2 : World} (h : Kp2 B L w w1) (hs : w1.heap.size ≤ w2.heap.size) (hk : ∀ j,j < w1.heap.size → j ≠ B → j ≠ L → w2.heap[j]? = w1.heap[j]?) : Kp2 B L w w2 :=
  ⟨Nat.le_trans h.1 hs,fun j hj hn hm=>(hk j (Nat.lt_of_lt_of_le hj h.1) hn hm).trans (h.2 j hj hn hm)⟩
def askB (up : Int) (r : Rp) (i : Nat) : Bool:=bitB up i && (r.ph == 0)
def askR (m : List Ob) (us : List Up) (f : Bool) (up : Int) (r : Rp) (i : Nat) : Rp:=if askB up r i = true then ⟨r.s,r.l,r.g,2,m,us,f⟩ else r
def askV (m : List Ob) (us : List Up) (f : Bool) (up : Int) (r : Rp) (i : Nat) : ByteArray:=if askB up r i = true then voteS r.s r.l r.g m us f else sNil
theorem rep_held {s : List Ob} {l : List Rf} {g ph : Int} {m : List Ob} {us : List Up} {f : Bool} {m2 : List Ob} {us2 : List Up} {f2 : Bool} {n : Int} (h : repE s l g ph m us f = 0) (hp : pushE m2 us2 = 0) (hn : 1 ≤ n ∧ n ≤ 2) : repE s l g n m2 us2 f2 = 0:=by
  obtain ⟨h1,h2,_⟩:=repE_iff.1 h
  exact repE_iff.2 ⟨h1,h2,by omega,fun _=>hp,fun e=>by omega⟩
end

section
open Go.RowKit
set_option maxRecDepth 100000
theorem Ld.same {w : World} {z L B off cap : Nat} {Q : Nat → Rq} {V V' : Nat → ByteArray} (h : Ld w z L B off cap Q V) (e : ∀ i,i < 3 → V i = V' i) : Ld w z L B off cap Q V' :=
  ⟨h.hL,h.hB,h.zl,h.zb,h.ne,h.head,fun i hi=>by rw [← e i hi];exact h.vote i hi,h.row,h.each⟩
set_option maxHeartbeats 4000000 in
theorem ask_any (w0 : World) (L B off cap : Nat) (Q : Nat → Rq) (am : Option Addr) (cm : Nat) (m : List Ob) (au : Option Addr) (cu : Nat) (us : List Up) (f : Bool) (up : Int) (w : World) (hg : Glob w0) (ht : Tab w0)
    (hm : HoldsS w0 am m) (hu : HoldsU w0 au us) (hp : pushE m us = 0) (hu0 : 0 ≤ up) (hu1 : up < 8) (hE : ∀ i,i < 3 → (Q i).r.err = 0) (hb0 : Below w0.heap.size w0 w) (hd : Ld w w0.heap.size L B off cap Q (fun _=>sNil)) :
    Calls Tryz.prog 45 #[.pointer (some ⟨L,0,none⟩),pushV am m.length cm au us.length cu f,.int .i64 up] w fun e w'=>e = .returned (.int .i64 0) ∧ Below w0.heap.size w0 w' ∧ Kp2 B L w w' ∧ ∃ Q',Ld w' w0.heap.size L B off cap Q' (fun i=>askV m us f up (Q i).r i) ∧ ∀ i,i < 3 → (Q' i).r = askR m us f up (Q i).r i:=by
  have hml : m.length ≤ 12:=(pushE_iff.1 hp).1
  have hul : us.length ≤ 4:=(checkU_iff.1 (pushE_iff.1 hp).2.2).2.1
  have hA:=below_alloc w (.cells #[.slice am m.length cm,.slice au us.length cu,.bool f] 28)
  have hk1:=heap_alloc_new w (.cells #[.slice am m.length cm,.slice au us.length cu,.bool f] 28)
  have hdA:=hd.below hA
  have hbA:=hb0.trans (hA.mono hb0.size)
  have hLw:=hd.ltL
  have hBw:=hd.ltB
  have yh:=hdA.head
  have HKA : Kp2 B L w (w.alloc (.cells #[.slice am m.length cm,.slice au us.length cu,.bool f] 28)):=Kp2.of hA
  have HPU : Hid (pushE m us = 0):=hp
  clear hp hb0 hd hA
  go_enter Tryz.func45,Tryz.ntmps45
  go_wp2_with fail
  generalize w.alloc (.cells #[.slice am m.length cm,.slice au us.length cu,.bool f] 28) = W0 at *
  go_loopw [17] (fun i wr=>∃ (k : Nat) (Qk : Nat → Rq) (Vk : Nat → ByteArray),i = .int .i64 k ∧ k ≤ 3 ∧ Below w0.heap.size w0 wr ∧ Kp2 B L w wr ∧ Ld wr w0.heap.size L B off cap Qk Vk ∧ wr.heap[w.heap.size]? = some (.cells #[.slice am m.length cm,.slice au us.length cu,.bool f] 28) ∧ Hid (∀ i,i < 3 → i < k → (Qk i).r = askR m us f up (Q i).r i ∧ Vk i = askV m us f up (Q i).r i) ∧ Hid (∀ i,i < 3 → k ≤ i → Qk i = Q i ∧ Vk i = sNil)) (fun i _=>3 - (intOf i).toNat)
  case atStart=>exact ⟨0,Q,_,rfl,Nat.zero_le _,hbA,HKA,hdA,hk1,fun i _ h=>absurd h (Nat.not_lt_zero _),fun i _ _=>⟨rfl,rfl⟩⟩
  case round =>
    clear hdA hbA yh hk1 HKA
    obtain ⟨k,Qk,Vk,rfl,hk,HB,HK,HL,kp,HI,HJ⟩:=hrel
    by_cases hlt : k < 3
    · have hlt' : (k : Int) < 3 := by omega
      obtain ⟨x0,x1,x2,x3,x4,x5,x6⟩:=HL.row k hlt
      have HQ : Hid (Qk k = Q k ∧ Vk k = sNil):=HJ.out k hlt (Nat.le_refl _)
      have HQE : Hid ((Qk k).r.err = 0):=by have:=hE k hlt;unfold Hid;rw [HQ.out.1];exact this
      have hA:=below_alloc wr (Qk k).blk
      have hn0:=heap_alloc_new wr (Qk k).blk
      have HB1:=HB.trans (hA.mono HB.size)
      have HL1:=HL.below hA
      have HK1:=HK.below hA
      have kp1:=(hA.block _ (heap_lt kp)).trans kp
      obtain ⟨z0,z1,z2,z3,z4,z5,z6⟩:=c7_of hn0
      have hbit:=hasBit_any up k (wr.alloc (Qk k).blk) hu0 hu1 hlt
      obtain ⟨bb,HBB⟩ : ∃ b,Hid (bitB up k = b):=⟨_,rfl⟩
      rw [HBB.out] at hbit
      have hkw : w.heap.size < wr.heap.size:=heap_lt kp
      clear HL HB HK kp hA
      go_wp2_with fail
      generalize wr.alloc (Qk k).blk = W at *
      refine hbit.mono ?_
      clear hbit
      rintro e W1 ⟨rfl,hb1⟩
      have HB2:=HB1.trans (hb1.mono HB1.size)
      have HL2:=HL1.below hb1
      have HK2:=HK1.below hb1
      have kp2:=(hb1.block _ (heap_lt kp1)).trans kp1
      have kn2:=(hb1.block _ (heap_lt hn0)).trans hn0
      clear hb1 HB1 HL1 HK1 kp1 hn0 x0 x1 x2 x3 x4 x5 x6 z0 z1 z2 z3 z4 z5 z6
      have HNO : Hid (askB up (Q k).r k = false → ∀ (W' : World),Below w0.heap.size w0 W' → Kp2 B L w W' → Ld W' w0.heap.size L B off cap Qk Vk → W'.heap[w.heap.size]? = some (.cells #[.slice am m.length cm,.slice au us.length cu,.bool f] 28) → ∃ (k' : Nat) (Qk' : Nat → Rq) (Vk' : Nat → ByteArray),Value.int .i64 ((k : Int) + 1) = .int .i64 k' ∧ k' ≤ 3 ∧ Below w0.heap.size w0 W' ∧ Kp2 B L w W' ∧ Ld W' w0.heap.size L B off cap Qk' Vk' ∧ W'.heap[w.heap.size]? = some (.cells #[.slice am m.length cm,.slice au us.length cu,.bool f] 28) ∧ Hid (∀ i,i < 3 → i < k' → (Qk' i).r = askR m us f up (Q i).r i ∧ Vk' i = askV m us f up (Q i).r i) ∧ Hid (∀ i,i < 3 → k' ≤ i → Qk' i = Q i ∧ Vk' i = sNil)):=by
        intro hno W' q1 qk q2 q3
        refine ⟨k + 1,Qk,Vk,by simp,by omega,q1,qk,q2,q3,fun i hi hik=>?_,fun i hi hik=>HJ.out i hi (by omega)⟩
        by_cases e : i = k
        · subst e
          rw [HQ.out.1,HQ.out.2]
          unfold askR askV
          rw [hno];exact ⟨rfl,rfl⟩
        · exact HI.out i hi (by omega)
      cases bb with
      | false =>
        have HA0 : Hid (askB up (Q k).r k = false):=by unfold Hid askB;rw [HBB.out];rfl
        go_wp2
        go_roundw
        case rel=>exact HNO.out HA0.out _ HB2 HK2 HL2 kp2
        case measure=>simp [intOf];omega
      | true =>
      obtain ⟨z0,z1,z2,z3,z4,z5,z6⟩:=c7_of kn2
      by_cases hph : (Qk k).r.ph = 0
      case neg =>
        have HA0 : Hid (askB up (Q k).r k = false):=by unfold Hid askB;rw [← HQ.out.1,HBB.out];simpa using hph
        have hne : ((Qk k).r.ph != 0) = true:=by simpa using hph
        go_wp2
        go_roundw
        case rel=>exact HNO.out HA0.out _ HB2 HK2 HL2 kp2
        case measure=>simp [intOf];omega
      have HA1 : Hid (askB up (Q k).r k = true):=by unfold Hid askB;rw [← HQ.out.1,HBB.out];simpa using hph
      have hne : ((Qk k).r.ph != 0) = false:=by simpa using hph
      have y0 : W1.cell? ⟨w.heap.size,0,none⟩ = some (.slice am m.length cm):=by rw [cell_of_row _ _ _ _ _ _ kp2];rfl
      have y1 : W1.cell? ⟨w.heap.size,1,none⟩ = some (.slice au us.length cu):=by rw [cell_of_row _ _ _ _ _ _ kp2];rfl
      have y2 : W1.cell? ⟨w.heap.size,2,none⟩ = some (.bool f):=by rw [cell_of_row _ _ _ _ _ _ kp2];rfl
      have HPE : Hid (prepE (Qk k).r.s (Qk k).r.l (Qk k).r.g (Qk k).r.ph (Qk k).r.m (Qk k).r.us (Qk k).r.f m us = 0):=by
        unfold Hid prepE
        rw [if_neg (fun e=>e (duE_iff.2 ⟨HQE.out,hph⟩))];exact HPU.out
      have hpr:=prepare_any (Qk k).aS (Qk k).cs (Qk k).r.s (Qk k).al (Qk k).cl (Qk k).r.l (Qk k).r.g (Qk k).r.ph (Qk k).a1 (Qk k).c1 (Qk k).r.m (Qk k).a2 (Qk k).c2 (Qk k).r.us (Qk k).r.f am cm m au cu us f W1 (hg.below HB2) (HL2.each k hlt).self (hm.below HB2) (by omega) (hu.below HB2) (by omega)
      clear HNO hph
      go_wp2_with fail
      refine hpr.mono ?_
      clear hpr
      rintro e W2 ⟨hb2,hpost⟩
      rcases hpost with ⟨hne2,-⟩ | ⟨-,b0,d0,b1,d1,b2,d2,b3,d3,rfl,F2⟩
      · exact absurd HPE.out hne2
      have HB3:=HB2.trans (hb2.mono HB2.size)
      have HL3:=HL2.below hb2
      have HK3:=HK2.below hb2
      have kp3:=(hb2.block _ (heap_lt kp2)).trans kp2
      have hA3:=below_alloc W2 (RB b0 d0 (Qk k).r.s b1 d1 (Qk k).r.l (Qk k).r.g 1 b2 d2 m b3 d3 us f)
      have kn4:=heap_alloc_new W2 (RB b0 d0 (Qk k).r.s b1 d1 (Qk k).r.l (Qk k).r.g 1 b2 d2 m b3 d3 us f)
      have HB4:=HB3.trans (hA3.mono HB3.size)
      have HL4:=HL3.below hA3
      have HK4:=HK3.below hA3
      have kp4:=(hA3.block _ (heap_lt kp3)).trans kp3
      have F4:=F2.below hA3
      have hW2 : w.heap.size < W2.heap.size:=heap_lt kp3
      clear hb2 HB2 HL2 HK2 kp2 kn2 HB3 HL3 HK3 kp3 F2 hA3 z0 z1 z2 z3 z4 z5 z6 y0 y1 y2 hne HPE
      go_upto_region 8 with fail
      generalize W2.alloc (RB b0 d0 (Qk k).r.s b1 d1 (Qk k).r.l (Qk k).r.g 1 b2 d2 m b3 d3 us f) = W3 at *
      have hdr:=(Below.refl W3.heap.size W3).drew
      have HBD:=HB4.trans (hdr.mono HB4.size)
      have HLD:=HL4.below hdr
      have HKD:=HK4.below hdr
      have kpD : W3.drew.heap[w.heap.size]? = some (.cells #[.slice am m.length cm,.slice au us.length cu,.bool f] 28):=kp4
      have knD : W3.drew.heap[W2.heap.size]? = some (RB b0 d0 (Qk k).r.s b1 d1 (Qk k).r.l (Qk k).r.g 1 b2 d2 m b3 d3 us f):=kn4
      have FD:=F4.below hdr
      have hS0 : W3.drew.cell? ⟨L,0,none⟩ = some (.slice (some ⟨B,off,none⟩) 3 cap) ∧ (W3.drew.cell? ⟨W2.heap.size,0,none⟩ = some (.slice b0 (Qk k).r.s.length d0) ∧ W3.drew.cell? ⟨W2.heap.size,1,none⟩ = some (.slice b1 (Qk k).r.l.length d1) ∧ W3.drew.cell? ⟨W2.heap.size,2,none⟩ = some (.int .i64 (Qk k).r.g) ∧ W3.drew.cell? ⟨W2.heap.size,3,none⟩ = some (.int .i64 1) ∧ W3.drew.cell? ⟨W2.heap.size,4,none⟩ = some (.slice b2 m.length d2) ∧ W3.drew.cell? ⟨W2.heap.size,5,none⟩ = some (.slice b3 us.length d3) ∧ W3.drew.cell? ⟨W2.heap.size,6,none⟩ = some (.bool f)):=⟨HLD.head,c7_of knD⟩
      refine wp_region_E (fun W=>W.cell? ⟨L,0,none⟩ = some (.slice (some ⟨B,off,none⟩) 3 cap) ∧ (W.cell? ⟨W2.heap.size,0,none⟩ = some (.slice b0 (Qk k).r.s.length d0) ∧ W.cell? ⟨W2.heap.size,1,none⟩ = some (.slice b1 (Qk k).r.l.length d1) ∧ W.cell? ⟨W2.heap.size,2,none⟩ = some (.int .i64 (Qk k).r.g) ∧ W.cell? ⟨W2.heap.size,3,none⟩ = some (.int .i64 1) ∧ W.cell? ⟨W2.heap.size,4,none⟩ = some (.slice b2 m.length d2) ∧ W.cell? ⟨W2.heap.size,5,none⟩ = some (.slice b3 us.length d3) ∧ W.cell? ⟨W2.heap.size,6,none⟩ = some (.bool f))) (fun _=>false) (by kernel_rfl) hS0 (fun hS=>?_)
      generalize W3.drew = W4 at *
      clear hS0 hdr HB4 HL4 HK4 kp4 kn4 F4
      refine wpAnyE.take (i:=0) (v:=?_) rfl (by kernel_rfl) (by kernel_rfl) (by kernel_rfl) (by kernel_rfl) (fun _ _ _ h=>h) (Or.inl ⟨by rfl,?_⟩) (by assumption) ?_
      rotate_left
      · intro w hSw;obtain ⟨s0,r0,r1,r2,r3,r4,r5,r6⟩:=hSw;go_simp;with_reducible rfl
      try simp only [Act.put,uA,uC,uD,uE,uF]
      refine wpAnyE.take (i:=1) (v:=?_) rfl (by kernel_rfl) (by kernel_rfl) (by kernel_rfl) (by kernel_rfl) (fun _ _ _ h=>h) (Or.inl ⟨by rfl,?_⟩) (by assumption) ?_
      rotate_left
      · intro w hSw;obtain ⟨s0,r0,r1,r2,r3,r4,r5,r6⟩:=hSw;go_simp;with_reducible rfl
      try simp only [Act.put,uA,uB,uC,uD,uE,uF]
      refine wpAnyE.take (i:=2) (v:=?_) rfl (by kernel_rfl) (by kernel_rfl) (by kernel_rfl) (by kernel_rfl) (fun _ _ _ h=>h) (Or.inl ⟨by rfl,?_⟩) (by assumption) ?_
      rotate_left
      · intro w hSw;obtain ⟨s0,r0,r1,r2,r3,r4,r5,r6⟩:=hSw;go_simp;with_reducible rfl
      try simp only [Act.put,uA,uB,uC,uD,uE,uF]
      refine wpAnyE.take (i:=3) (v:=?_) rfl (by kernel_rfl) (by kernel_rfl) (by kernel_rfl) (by kernel_rfl) (fun _ _ _ h=>h) (Or.inl ⟨by rfl,?_⟩) (by assumption) ?_
      rotate_left
      · intro w hSw;obtain ⟨s0,r0,r1,r2,r3,r4,r5,r6⟩:=hSw;go_simp;with_reducible rfl
      try simp only [Act.put,uA,uB,uC,uD,uE,uF]
      refine wpAnyE.take (i:=4) (v:=?_) rfl (by kernel_rfl) (by kernel_rfl) (by kernel_rfl) (by kernel_rfl) (fun _ _ _ h=>h) (Or.inl ⟨by rfl,?_⟩) (by assumption) ?_
      rotate_left
      · intro w hSw;obtain ⟨s0,r0,r1,r2,r3,r4,r5,r6⟩:=hSw;go_simp;with_reducible rfl
      try simp only [Act.put,uA,uB,uC,uD,uE,uF]
      refine wpAnyE.take (i:=5) (v:=?_) rfl (by kernel_rfl) (by kernel_rfl) (by kernel_rfl) (by kernel_rfl) (fun _ _ _ h=>h) (Or.inl ⟨by rfl,?_⟩) (by assumption) ?_
      rotate_left
      · intro w hSw;obtain ⟨s0,r0,r1,r2,r3,r4,r5,r6⟩:=hSw;go_simp;with_reducible rfl
      try simp only [Act.put,uA,uB,uC,uD,uE,uF]
      refine wpAnyE.take (i:=6) (v:=?_) rfl (by kernel_rfl) (by kernel_rfl) (by kernel_rfl) (by kernel_rfl) (fun _ _ _ h=>h) (Or.inl ⟨by rfl,?_⟩) (by assumption) ?_
      rotate_left
      · intro w hSw;obtain ⟨s0,r0,r1,r2,r3,r4,r5,r6⟩:=hSw;go_simp;with_reducible rfl
      try simp only [Act.put,uA,uB,uC,uD,uE,uF]
      refine wpAnyE.take (i:=7) (v:=?_) rfl (by kernel_rfl) (by kernel_rfl) (by kernel_rfl) (by kernel_rfl) (fun _ _ _ h=>h) (Or.inl ⟨by rfl,?_⟩) (by assumption) ?_
      rotate_left
      · intro w hSw;obtain ⟨s0,r0,r1,r2,r3,r4,r5,r6⟩:=hSw;go_simp;with_reducible rfl
      try simp only [Act.put,uA,uB,uC,uD,uE,uF]
      refine wpAnyE.take (i:=8) (v:=?_) rfl (by kernel_rfl) (by kernel_rfl) (by kernel_rfl) (by kernel_rfl) (fun _ _ _ h=>h) (Or.inl ⟨by rfl,?_⟩) (by assumption) ?_
      rotate_left
      · intro w hSw;obtain ⟨s0,r0,r1,r2,r3,r4,r5,r6⟩:=hSw;go_simp;with_reducible rfl
      try simp only [Act.put,uA,uB,uC,uD,uE,uF]
      refine wpAnyE.take (i:=16) (v:=?_) rfl (by kernel_rfl) (by kernel_rfl) (by kernel_rfl) (by kernel_rfl) (fun _ _ _ h=>h) (Or.inl ⟨by rfl,?_⟩) (by assumption) ?_
      rotate_left
      · intro w hSw;obtain ⟨s0,r0,r1,r2,r3,r4,r5,r6⟩:=hSw;go_simp;with_reducible rfl
      try simp only [Act.put,uA,uB,uC,uD,uE,uF]
      refine wpAnyE.take (i:=17) (v:=?_) rfl (by kernel_rfl) (by kernel_rfl) (by kernel_rfl) (by kernel_rfl) (fun _ _ _ h=>h) (Or.inl ⟨by rfl,?_⟩) (by assumption) ?_
      rotate_left
      · intro w hSw;obtain ⟨s0,r0,r1,r2,r3,r4,r5,r6⟩:=hSw;go_simp;with_reducible rfl
      try simp only [Act.put,uA,uB,uC,uD,uE,uF]
      refine wpAnyE.one (i:=9) (by kernel_rfl) rfl (fun K hK=>?_)
      go_simp
      refine (vote_any b0 d0 (Qk k).r.s b1 d1 (Qk k).r.l (Qk k).r.g 1 b2 d2 m b3 d3 us f W4 (hg.below HBD) (ht.below HBD) FD.h).mono ?_
      rintro e W5 ⟨hb5,hpost⟩
      have HVE : Hid (duE (Qk k).r.s (Qk k).r.l (Qk k).r.g 1 m us f 1 = 0):=duE_iff.2 ⟨rep_held HQE.out HPU.out (by omega),rfl⟩
      rcases hpost with ⟨hne2,-⟩ | ⟨-,e0,g0,e1,g1,e2,g2,e3,g3,rfl,F5⟩
      · exact absurd HVE.out hne2
      have HB5:=HBD.trans (hb5.mono HBD.size)
      have HL5:=HLD.below hb5
      have HK5:=HKD.below hb5
      have kp5:=(hb5.block _ (heap_lt kpD)).trans kpD
      have kn5:=(hb5.block _ (heap_lt knD)).trans knD
      have hS5 : W5.cell? ⟨L,0,none⟩ = some (.slice (some ⟨B,off,none⟩) 3 cap) ∧ (W5.cell? ⟨W2.heap.size,0,none⟩ = some (.slice b0 (Qk k).r.s.length d0) ∧ W5.cell? ⟨W2.heap.size,1,none⟩ = some (.slice b1 (Qk k).r.l.length d1) ∧ W5.cell? ⟨W2.heap.size,2,none⟩ = some (.int .i64 (Qk k).r.g) ∧ W5.cell? ⟨W2.heap.size,3,none⟩ = some (.int .i64 1) ∧ W5.cell? ⟨W2.heap.size,4,none⟩ = some (.slice b2 m.length d2) ∧ W5.cell? ⟨W2.heap.size,5,none⟩ = some (.slice b3 us.length d3) ∧ W5.cell? ⟨W2.heap.size,6,none⟩ = some (.bool f)):=⟨HL5.head,c7_of kn5⟩
      have hL4:=HLD.ltL
      have hB4:=HLD.ltB
      have h04 : w0.heap.size ≤ W4.heap.size:=HBD.size
      have hA5 : Away W5 w0.heap.size (fun j=>j = B ∨ j = L) ⟨⟨(Qk k).r.s,(Qk k).r.l,(Qk k).r.g,2,m,us,f⟩,e0,g0,e1,g1,e2,g2,e3,g3⟩:=Away.fresh (z':=W4.heap.size) F5 h04 (fun j hj=>by rcases hj with rfl | rfl <;> assumption)
      refine hK _ _ (fun _=>hS5) ?_
      clear hK K hS hb5 HBD HLD HKD kpD knD FD F5
      try simp only [Act.put,uA,uB,uC,uD,uE,uF]
      refine wpAnyE.take (i:=10) (v:=?_) rfl (by kernel_rfl) (by kernel_rfl) (by kernel_rfl) (by kernel_rfl) (fun _ _ _ h=>h) (Or.inl ⟨by rfl,?_⟩) (by assumption) ?_
      rotate_left
      · intro w hSw;obtain ⟨s0,r0,r1,r2,r3,r4,r5,r6⟩:=hSw;go_simp;with_reducible rfl
      try simp only [Act.put,uA,uB,uC,uD,uE,uF]
      refine wpAnyE.take (i:=11) (v:=?_) rfl (by kernel_rfl) (by kernel_rfl) (by kernel_rfl) (by kernel_rfl) (fun _ _ _ h=>h) (Or.inl ⟨by rfl,?_⟩) (by assumption) ?_
      rotate_left
      · intro w hSw;obtain ⟨s0,r0,r1,r2,r3,r4,r5,r6⟩:=hSw;go_simp;with_reducible rfl
      try simp only [Act.put,uA,uB,uC,uD,uE,uF]
      refine wpAnyE.take (i:=12) (v:=?_) rfl (by kernel_rfl) (by kernel_rfl) (by kernel_rfl) (by kernel_rfl) (fun _ _ _ h=>h) (Or.inl ⟨by rfl,?_⟩) (by assumption) ?_
      rotate_left
      · intro w hSw;obtain ⟨s0,r0,r1,r2,r3,r4,r5,r6⟩:=hSw;go_simp;with_reducible rfl
      try simp only [Act.put,uA,uB,uC,uD,uE,uF]
      refine wpAnyE.take (i:=13) (v:=?_) rfl (by kernel_rfl) (by kernel_rfl) (by kernel_rfl) (by kernel_rfl) (fun _ _ _ h=>h) (Or.inl ⟨by rfl,?_⟩) (by assumption) ?_
      rotate_left
      · intro w hSw;obtain ⟨s0,r0,r1,r2,r3,r4,r5,r6⟩:=hSw;go_simp;with_reducible rfl
      try simp only [Act.put,uA,uB,uC,uD,uE,uF]
      refine wpAnyE.take (i:=14) (v:=?_) rfl (by kernel_rfl) (by kernel_rfl) (by kernel_rfl) (by kernel_rfl) (fun _ _ _ h=>h) (Or.inl ⟨by rfl,?_⟩) (by assumption) ?_
      rotate_left
      · intro w hSw;obtain ⟨s0,r0,r1,r2,r3,r4,r5,r6⟩:=hSw;go_simp;with_reducible rfl
      try simp only [Act.put,uA,uB,uC,uD,uE,uF]
      refine wpAnyE.one (i:=15) (by kernel_rfl) rfl (fun K hK=>?_)
      obtain ⟨u0,u1,u2,u3,u4,u5,u6⟩:=HL5.row k hlt
      obtain ⟨cb,kb5⟩:=HL5.hB
      have fb0:=f_of (o:=off + k * 7) kb5
      have fb1:=f_of (o:=off + k * 7 + 1) kb5
      have fb2:=f_of (o:=off + k * 7 + 2) kb5
      have fb3:=f_of (o:=off + k * 7 + 3) kb5
      have fb4:=f_of (o:=off + k * 7 + 4) kb5
      have fb5:=f_of (o:=off + k * 7 + 5) kb5
      have fb6:=f_of (o:=off + k * 7 + 6) kb5
      have HL6:=HL5.row_set hlt _ hA5
      have HB6 : Below w0.heap.size w0 (set7 W5 B (off + k * 7) (.slice e0 (Qk k).r.s.length g0) (.slice e1 (Qk k).r.l.length g1) (.int .i64 (Qk k).r.g) (.int .i64 2) (.slice e2 m.length g2) (.slice e3 us.length g3) (.bool f)):=below_set7 _ _ _ _ _ _ _ HB5 HL5.zb
      have HK6 : Kp2 B L w (set7 W5 B (off + k * 7) (.slice e0 (Qk k).r.s.length g0) (.slice e1 (Qk k).r.l.length g1) (.int .i64 (Qk k).r.g) (.int .i64 2) (.slice e2 m.length g2) (.slice e3 us.length g3) (.bool f)):=HK5.next (Nat.le_of_eq (set7_size _ _ _ _ _ _ _ _ _ _).symm) (fun j _ hn _=>set7_blk W5 B (off + k * 7) j _ _ _ _ _ _ _ hn)
      have hwB : w.heap.size ≠ B:=by omega
      have hwL : w.heap.size ≠ L:=by omega
      have kp6 : (set7 W5 B (off + k * 7) (.slice e0 (Qk k).r.s.length g0) (.slice e1 (Qk k).r.l.length g1) (.int .i64 (Qk k).r.g) (.int .i64 2) (.slice e2 m.length g2) (.slice e3 us.length g3) (.bool f)).heap[w.heap.size]? = some (.cells #[.slice am m.length cm,.slice au us.length cu,.bool f] 28):=(set7_blk W5 B (off + k * 7) w.heap.size _ _ _ _ _ _ _ hwB).trans kp5
      have hB2 : W2.heap.size ≠ B:=by omega
      have kn6 : (set7 W5 B (off + k * 7) (.slice e0 (Qk k).r.s.length g0) (.slice e1 (Qk k).r.l.length g1) (.int .i64 (Qk k).r.g) (.int .i64 2) (.slice e2 m.length g2) (.slice e3 us.length g3) (.bool f)).heap[W2.heap.size]? = some (RB b0 d0 (Qk k).r.s b1 d1 (Qk k).r.l (Qk k).r.g 1 b2 d2 m b3 d3 us f):=(set7_blk W5 B (off + k * 7) W2.heap.size _ _ _ _ _ _ _ hB2).trans kn5
      have hS6 : (set7 W5 B (off + k * 7) (.slice e0 (Qk k).r.s.length g0) (.slice e1 (Qk k).r.l.length g1) (.int .i64 (Qk k).r.g) (.int .i64 2) (.slice e2 m.length g2) (.slice e3 us.length g3) (.bool f)).cell? ⟨L,0,none⟩ = some (.slice (some ⟨B,off,none⟩) 3 cap) ∧ ((set7 W5 B (off + k * 7) (.slice e0 (Qk k).r.s.length g0) (.slice e1 (Qk k).r.l.length g1) (.int .i64 (Qk k).r.g) (.int .i64 2) (.slice e2 m.length g2) (.slice e3 us.length g3) (.bool f)).cell? ⟨W2.heap.size,0,none⟩ = some (.slice b0 (Qk k).r.s.length d0) ∧ (set7 W5 B (off + k * 7) (.slice e0 (Qk k).r.s.length g0) (.slice e1 (Qk k).r.l.length g1) (.int .i64 (Qk k).r.g) (.int .i64 2) (.slice e2 m.length g2) (.slice e3 us.length g3) (.bool f)).cell? ⟨W2.heap.size,1,none⟩ = some (.slice b1 (Qk k).r.l.length d1) ∧ (set7 W5 B (off + k * 7) (.slice e0 (Qk k).r.s.length g0) (.slice e1 (Qk k).r.l.length g1) (.int .i64 (Qk k).r.g) (.int .i64 2) (.slice e2 m.length g2) (.slice e3 us.length g3) (.bool f)).cell? ⟨W2.heap.size,2,none⟩ = some (.int .i64 (Qk k).r.g) ∧ (set7 W5 B (off + k * 7) (.slice e0 (Qk k).r.s.length g0) (.slice e1 (Qk k).r.l.length g1) (.int .i64 (Qk k).r.g) (.int .i64 2) (.slice e2 m.length g2) (.slice e3 us.length g3) (.bool f)).cell? ⟨W2.heap.size,3,none⟩ = some (.int .i64 1) ∧ (set7 W5 B (off + k * 7) (.slice e0 (Qk k).r.s.length g0) (.slice e1 (Qk k).r.l.length g1) (.int .i64 (Qk k).r.g) (.int .i64 2) (.slice e2 m.length g2) (.slice e3 us.length g3) (.bool f)).cell? ⟨W2.heap.size,4,none⟩ = some (.slice b2 m.length d2) ∧ (set7 W5 B (off + k * 7) (.slice e0 (Qk k).r.s.length g0) (.slice e1 (Qk k).r.l.length g1) (.int .i64 (Qk k).r.g) (.int .i64 2) (.slice e2 m.length g2) (.slice e3 us.length g3) (.bool f)).cell? ⟨W2.heap.size,5,none⟩ = some (.slice b3 us.length d3) ∧ (set7 W5 B (off + k * 7) (.slice e0 (Qk k).r.s.length g0) (.slice e1 (Qk k).r.l.length g1) (.int .i64 (Qk k).r.g) (.int .i64 2) (.slice e2 m.length g2) (.slice e3 us.length g3) (.bool f)).cell? ⟨W2.heap.size,6,none⟩ = some (.bool f)):=⟨HL6.head,c7_of kn6⟩
      go_simp
      refine hK _ _ (fun _=>hS6) ?_
      clear hK K
      try simp only [Act.put,uA,uB,uC,uD,uE,uF]
      generalize hW6 : (set7 W5 B (off + k * 7) (.slice e0 (Qk k).r.s.length g0) (.slice e1 (Qk k).r.l.length g1) (.int .i64 (Qk k).r.g) (.int .i64 2) (.slice e2 m.length g2) (.slice e3 us.length g3) (.bool f)) = W6 at HL6 HB6 HK6 kp6 kn6 hS6
      unfold set7 at hW6
      rw [hW6]
      clear hW6 u0 u1 u2 u3 u4 u5 u6 fb0 fb1 fb2 fb3 fb4 fb5 fb6 kb5 HL5 HB5 HK5 kp5 kn5 hS5 hA5
      refine wpAnyE.take (i:=18) (v:=?_) rfl (by kernel_rfl) (by kernel_rfl) (by kernel_rfl) (by kernel_rfl) (fun _ _ _ h=>h) (Or.inl ⟨by rfl,?_⟩) (by assumption) ?_
      rotate_left
      · intro w hSw;obtain ⟨s0,r0,r1,r2,r3,r4,r5,r6⟩:=hSw;go_simp;with_reducible rfl
      try simp only [Act.put,uA,uB,uC,uD,uE,uF]
      refine wpAnyE.one (i:=19) (by kernel_rfl) rfl (fun K hK=>?_)
      have v0:=HL6.vote k hlt
      obtain ⟨cl,kl6⟩:=HL6.hL
      have fl:=f_of (o:=1 + k) kl6
      have HL7:=HL6.vote_set hlt (voteS (Qk k).r.s (Qk k).r.l (Qk k).r.g m us f)
      have HB7 : Below w0.heap.size w0 (W6.setCell ⟨L,1 + k,none⟩ (.string (voteS (Qk k).r.s (Qk k).r.l (Qk k).r.g m us f))):=HB6.setCell HL6.zl _
      have HK7 : Kp2 B L w (W6.setCell ⟨L,1 + k,none⟩ (.string (voteS (Qk k).r.s (Qk k).r.l (Qk k).r.g m us f))):=HK6.next (setcell_size _ _ _) (fun j _ _ hm=>heap_setCell_other W6 ⟨L,1 + k,none⟩ j _ hm)
      have kp7:=(heap_setCell_other W6 ⟨L,1 + k,none⟩ w.heap.size (.string (voteS (Qk k).r.s (Qk k).r.l (Qk k).r.g m us f)) hwL).trans kp6
      have hL2 : W2.heap.size ≠ L:=by omega
      have kn7:=(heap_setCell_other W6 ⟨L,1 + k,none⟩ W2.heap.size (.string (voteS (Qk k).r.s (Qk k).r.l (Qk k).r.g m us f)) hL2).trans kn6
      have hS7 : (W6.setCell ⟨L,1 + k,none⟩ (.string (voteS (Qk k).r.s (Qk k).r.l (Qk k).r.g m us f))).cell? ⟨L,0,none⟩ = some (.slice (some ⟨B,off,none⟩) 3 cap) ∧ ((W6.setCell ⟨L,1 + k,none⟩ (.string (voteS (Qk k).r.s (Qk k).r.l (Qk k).r.g m us f))).cell? ⟨W2.heap.size,0,none⟩ = some (.slice b0 (Qk k).r.s.length d0) ∧ (W6.setCell ⟨L,1 + k,none⟩ (.string (voteS (Qk k).r.s (Qk k).r.l (Qk k).r.g m us f))).cell? ⟨W2.heap.size,1,none⟩ = some (.slice b1 (Qk k).r.l.length d1) ∧ (W6.setCell ⟨L,1 + k,none⟩ (.string (voteS (Qk k).r.s (Qk k).r.l (Qk k).r.g m us f))).cell? ⟨W2.heap.size,2,none⟩ = some (.int .i64 (Qk k).r.g) ∧ (W6.setCell ⟨L,1 + k,none⟩ (.string (voteS (Qk k).r.s (Qk k).r.l (Qk k).r.g m us f))).cell? ⟨W2.heap.size,3,none⟩ = some (.int .i64 1) ∧ (W6.setCell ⟨L,1 + k,none⟩ (.string (voteS (Qk k).r.s (Qk k).r.l (Qk k).r.g m us f))).cell? ⟨W2.heap.size,4,none⟩ = some (.slice b2 m.length d2) ∧ (W6.setCell ⟨L,1 + k,none⟩ (.string (voteS (Qk k).r.s (Qk k).r.l (Qk k).r.g m us f))).cell? ⟨W2.heap.size,5,none⟩ = some (.slice b3 us.length d3) ∧ (W6.setCell ⟨L,1 + k,none⟩ (.string (voteS (Qk k).r.s (Qk k).r.l (Qk k).r.g m us f))).cell? ⟨W2.heap.size,6,none⟩ = some (.bool f)):=⟨HL7.head,c7_of kn7⟩
      go_simp
      refine hK _ _ (fun _=>hS7) ?_
      clear hK K
      try simp only [Act.put,uA,uB,uC,uD,uE,uF]
      refine wpAnyE.one (i:=20) (by kernel_rfl) rfl (fun K hK=>?_)
      go_simp
      refine hK _ _ (fun _=>hS7) ?_
      clear hK K
      try simp only [Act.put,uA,uB,uC,uD,uE,uF]
      refine wpAnyE.done (by kernel_rfl) ?_
      have HI' : Hid (∀ i,i < 3 → i < k + 1 → (upd Qk k ⟨⟨(Qk k).r.s,(Qk k).r.l,(Qk k).r.g,2,m,us,f⟩,e0,g0,e1,g1,e2,g2,e3,g3⟩ i).r = askR m us f up (Q i).r i ∧ upd Vk k (voteS (Qk k).r.s (Qk k).r.l (Qk k).r.g m us f) i = askV m us f up (Q i).r i):=fun i hi hik=>by
        by_cases e : i = k
        · subst e
          rw [upd_same,upd_same,HQ.out.1]
          unfold askR askV
          rw [HA1.out];exact ⟨rfl,rfl⟩
        · rw [upd_other _ _ e,upd_other _ _ e];exact HI.out i hi (by omega)
      have HJ' : Hid (∀ i,i < 3 → k + 1 ≤ i → upd Qk k ⟨⟨(Qk k).r.s,(Qk k).r.l,(Qk k).r.g,2,m,us,f⟩,e0,g0,e1,g1,e2,g2,e3,g3⟩ i = Q i ∧ upd Vk k (voteS (Qk k).r.s (Qk k).r.l (Qk k).r.g m us f) i = sNil):=fun i hi hik=>by
        rw [upd_other _ _ (by omega : i ≠ k),upd_other _ _ (by omega : i ≠ k)];exact HJ.out i hi (by omega)
      generalize hW7 : W6.setCell ⟨L,1 + k,none⟩ (.string (voteS (Qk k).r.s (Qk k).r.l (Qk k).r.g m us f)) = W7 at *
      clear hS6 hS7 kn7 kn6 kp6 HB6 HL6 HK6 fl v0 HI HJ
      go_wp2
      go_roundw
      case rel=>exact ⟨k + 1,_,_,by go_num,by omega,HB7,HK7,HL7,kp7,HI',HJ'⟩
      case measure=>simp [intOf];omega
    · have hk3 : k = 3 := by omega
      subst hk3
      have HF : Hid (Below w0.heap.size w0 wr ∧ Kp2 B L w wr ∧ ∃ Q',Ld wr w0.heap.size L B off cap Q' (fun i=>askV m us f up (Q i).r i) ∧ ∀ i,i < 3 → (Q' i).r = askR m us f up (Q i).r i):=⟨HB,HK,Qk,HL.same (fun i hi=>(HI.out i hi hi).2),fun i hi=>(HI.out i hi hi).1⟩
      clear HI HJ HB HL HK kp
      go_wp2
      go_ret
      exact ⟨rfl,HF.out⟩
end

section
open Go.RowKit
set_option maxRecDepth 100000
theorem below_refl_drew (w : World) : Below w.heap.size w w.drew:=(Below.refl _ _).drew
def wouldB (won : Bool) (v said : ByteArray) (late : Int) (i : Nat) : Bool:=won && (v.toList == said.toList) && !bitB late i
def finR (r : Rp) (v : ByteArray) (c : Bool) : Rp:=if v.toList.isEmpty = true then r else ⟨finS r.s r.m c,finL r.l r.us c,finG r.g c,0,[],[],false⟩
def finV (r : Rp) (v : ByteArray) (c : Bool) : Int:=if v.toList.isEmpty = true then 0 else finE r.s r.l r.g r.ph r.m r.us r.f c
def fstE (g : Nat → Int) : Int:=if g 0 ≠ 0 then g 0 else if g 1 ≠ 0 then g 1 else g 2
theorem fstE_at {g : Nat → Int} {k : Nat} (hk : k < 3) (h : ∀ i,i < k → g i = 0) (hn : g k ≠ 0) : fstE g = g k:=by
  unfold fstE
  have : k = 0 ∨ k = 1 ∨ k = 2:=by omega
  rcases this with rfl | rfl | rfl
  · rw [if_pos hn]
  · rw [if_neg (fun e=>e (h 0 (by omega))),if_pos hn]
  · rw [if_neg (fun e=>e (h 0 (by omega))),if_neg (fun e=>e (h 1 (by omega)))]
theorem fstE_zero {g : Nat → Int} : fstE g = 0 ↔ ∀ i,i < 3 → g i = 0:=by
  constructor
  · intro h i hi
    refine Classical.byContradiction fun hn=>?_
    have : i = 0 ∨ i = 1 ∨ i = 2:=by omega
    unfold fstE at h
    rcases this with rfl | rfl | rfl
    · rw [if_pos hn] at h;exact hn h
    · split at h
      · rename_i q;exact q h
      · first | exact hn h | (rw [if_pos hn] at h;exact hn h)
    · split at h
      · rename_i q;exact q h
      · split at h
        · rename_i q;exact q h
        · exact hn h
  · intro h;unfold fstE;rw [if_neg (fun e=>e (h 0 (by omega))),if_neg (fun e=>e (h 1 (by omega)))];exact h 2 (by omega)
set_option maxHeartbeats 2000000 in
theorem would_any (i : Nat) (hi : i < 3) (pw pl ps pt L : Nat) (won : Bool) (said v : ByteArray) (late : Int) (w : World) (hl0 : 0 ≤ late) (hl1 : late < 8)
    (kw : w.heap[pw]? = some (.cells #[.bool won] 4)) (kl : w.heap[pl]? = some (.cells #[.pointer (some ⟨L,0,none⟩)] 85)) (ks : w.heap[ps]? = some (.cells #[.string said] 9)) (kt : w.heap[pt]? = some (.cells #[.int .i64 late] 3)) (hL : L < w.heap.size) (kv : w.cell? ⟨L,1 + i,none⟩ = some (.string v)) :
    Calls Tryz.prog 47 #[.int .i64 i,.pointer (some ⟨pw,0,none⟩),.pointer (some ⟨pl,0,none⟩),.pointer (some ⟨ps,0,none⟩),.pointer (some ⟨pt,0,none⟩)] w fun e w'=>e = .returned (.bool (wouldB won v said late i)) ∧ Below w.heap.size w w':=by
  have hi' : (i : Int) < 3:=by omega
  have y0 : w.cell? ⟨pw,0,none⟩ = some (.bool won):=by rw [cell_of_row _ _ _ _ _ _ kw];rfl
  have y1 : w.cell? ⟨pl,0,none⟩ = some (.pointer (some ⟨L,0,none⟩)):=by rw [cell_of_row _ _ _ _ _ _ kl];rfl
  have y2 : w.cell? ⟨ps,0,none⟩ = some (.string said):=by rw [cell_of_row _ _ _ _ _ _ ks];rfl
  have y3 : w.cell? ⟨pt,0,none⟩ = some (.int .i64 late):=by rw [cell_of_row _ _ _ _ _ _ kt];rfl
  have hW:=below_refl_drew w
  have hS0 : w.drew.cell? ⟨pw,0,none⟩ = some (.bool won) ∧ w.drew.cell? ⟨pl,0,none⟩ = some (.pointer (some ⟨L,0,none⟩)) ∧ w.drew.cell? ⟨ps,0,none⟩ = some (.string said) ∧ w.drew.cell? ⟨pt,0,none⟩ = some (.int .i64 late) ∧ w.drew.cell? ⟨L,1 + i,none⟩ = some (.string v):=⟨y0,y1,y2,y3,kv⟩
  have hp0:=heap_lt kw
  have hp1:=heap_lt kl
  have hp2:=heap_lt ks
  have hp3:=heap_lt kt
  obtain ⟨RB,HR⟩ : ∃ b,Hid (wouldB won v said late i = b):=⟨_,rfl⟩
  rw [HR.out]
  clear y0 y1 y2 y3 kw kl ks kt kv
  go_enter Tryz.func47,Tryz.ntmps47
  go_wp2_with fail
  refine wp_region_E (fun W=>W.cell? ⟨pw,0,none⟩ = some (.bool won) ∧ W.cell? ⟨pl,0,none⟩ = some (.pointer (some ⟨L,0,none⟩)) ∧ W.cell? ⟨ps,0,none⟩ = some (.string said) ∧ W.cell? ⟨pt,0,none⟩ = some (.int .i64 late) ∧ W.cell? ⟨L,1 + i,none⟩ = some (.string v)) (fun _=>false) (by kernel_rfl) hS0 (fun hS=>?_)
  generalize w.drew = W1 at *
  clear hS0
  cases won with
  | false =>
    have HR0 : Hid (false = RB):=by rw [← HR.out];rfl
    refine wpAnyE.take (i:=0) (v:=?_) rfl (by kernel_rfl) (by kernel_rfl) (by kernel_rfl) (by kernel_rfl) (fun _ _ _ h=>h) (Or.inl ⟨by rfl,?_⟩) (by assumption) ?_
    rotate_left
    · intro w hSw;obtain ⟨s0,s1,s2,s3,s4⟩:=hSw;go_simp;with_reducible rfl
    try simp only [Act.put,uA,uC,uD,uE,uF]
    refine wpAnyE.take (i:=1) (v:=?_) rfl (by kernel_rfl) (by kernel_rfl) (by kernel_rfl) (by kernel_rfl) (fun _ _ _ h=>h) (Or.inl ⟨by rfl,?_⟩) (by assumption) ?_
    rotate_left
    · intro w hSw;obtain ⟨s0,s1,s2,s3,s4⟩:=hSw;go_simp;with_reducible rfl
    try simp only [Act.put,uA,uB,uC,uD,uE,uF]
    refine wpAnyE.take (i:=2) (v:=undef) rfl (by kernel_rfl) (by kernel_rfl) (by kernel_rfl) (by kernel_rfl) (fun _ _ _ h=>h) (Or.inr ⟨by rfl,rfl⟩) (by assumption) ?_
    try simp only [Act.put,uA,uB,uC,uD,uE,uF]
    refine wpAnyE.take (i:=3) (v:=undef) rfl (by kernel_rfl) (by kernel_rfl) (by kernel_rfl) (by kernel_rfl) (fun _ _ _ h=>h) (Or.inr ⟨by rfl,rfl⟩) (by assumption) ?_
    try simp only [Act.put,uA,uB,uC,uD,uE,uF]
    refine wpAnyE.take (i:=4) (v:=undef) rfl (by kernel_rfl) (by kernel_rfl) (by kernel_rfl) (by kernel_rfl) (fun _ _ _ h=>h) (Or.inr ⟨by rfl,rfl⟩) (by assumption) ?_
    try simp only [Act.put,uA,uB,uC,uD,uE,uF]
    refine wpAnyE.take (i:=5) (v:=undef) rfl (by kernel_rfl) (by kernel_rfl) (by kernel_rfl) (by kernel_rfl) (fun _ _ _ h=>h) (Or.inr ⟨by rfl,rfl⟩) (by assumption) ?_
    try simp only [Act.put,uA,uB,uC,uD,uE,uF]
    refine wpAnyE.take (i:=6) (v:=undef) rfl (by kernel_rfl) (by kernel_rfl) (by kernel_rfl) (by kernel_rfl) (fun _ _ _ h=>h) (Or.inr ⟨by rfl,rfl⟩) (by assumption) ?_
    try simp only [Act.put,uA,uB,uC,uD,uE,uF]
    refine wpAnyE.take (i:=7) (v:=undef) rfl (by kernel_rfl) (by kernel_rfl) (by kernel_rfl) (by kernel_rfl) (fun _ _ _ h=>h) (Or.inr ⟨by rfl,rfl⟩) (by assumption) ?_
    try simp only [Act.put,uA,uB,uC,uD,uE,uF]
    refine wpAnyE.take (i:=8) (v:=undef) rfl (by kernel_rfl) (by kernel_rfl) (by kernel_rfl) (by kernel_rfl) (fun _ _ _ h=>h) (Or.inr ⟨by rfl,rfl⟩) (by assumption) ?_
    try simp only [Act.put,uA,uB,uC,uD,uE,uF]
    refine wpAnyE.take (i:=9) (v:=undef) rfl (by kernel_rfl) (by kernel_rfl) (by kernel_rfl) (by kernel_rfl) (fun _ _ _ h=>h) (Or.inr ⟨by rfl,rfl⟩) (by assumption) ?_
    try simp only [Act.put,uA,uB,uC,uD,uE,uF]
    refine wpAnyE.take (i:=10) (v:=?_) rfl (by kernel_rfl) (by kernel_rfl) (by kernel_rfl) (by kernel_rfl) (fun _ _ _ h=>h) (Or.inl ⟨by rfl,?_⟩) (by assumption) ?_
    rotate_left
    · intro w hSw;obtain ⟨s0,s1,s2,s3,s4⟩:=hSw;go_simp;with_reducible rfl
    try simp only [Act.put,uA,uB,uC,uD,uE,uF]
    refine wpAnyE.take (i:=11) (v:=?_) rfl (by kernel_rfl) (by kernel_rfl) (by kernel_rfl) (by kernel_rfl) (fun _ _ _ h=>h) (Or.inl ⟨by rfl,?_⟩) (by assumption) ?_
    rotate_left
    · intro w hSw;obtain ⟨s0,s1,s2,s3,s4⟩:=hSw;go_simp;with_reducible rfl
    try simp only [Act.put,uA,uB,uC,uD,uE,uF]
    refine wpAnyE.take (i:=12) (v:=undef) rfl (by kernel_rfl) (by kernel_rfl) (by kernel_rfl) (by kernel_rfl) (fun _ _ _ h=>h) (Or.inr ⟨by rfl,rfl⟩) (by assumption) ?_
    try simp only [Act.put,uA,uB,uC,uD,uE,uF]
    refine wpAnyE.take (i:=13) (v:=undef) rfl (by kernel_rfl) (by kernel_rfl) (by kernel_rfl) (by kernel_rfl) (fun _ _ _ h=>h) (Or.inr ⟨by rfl,rfl⟩) (by assumption) ?_
    try simp only [Act.put,uA,uB,uC,uD,uE,uF]
    refine wpAnyE.take (i:=14) (v:=undef) rfl (by kernel_rfl) (by kernel_rfl) (by kernel_rfl) (by kernel_rfl) (fun _ _ _ h=>h) (Or.inr ⟨by rfl,rfl⟩) (by assumption) ?_
    try simp only [Act.put,uA,uB,uC,uD,uE,uF]
    refine wpAnyE.take (i:=15) (v:=undef) rfl (by kernel_rfl) (by kernel_rfl) (by kernel_rfl) (by kernel_rfl) (fun _ _ _ h=>h) (Or.inr ⟨by rfl,rfl⟩) (by assumption) ?_
    try simp only [Act.put,uA,uB,uC,uD,uE,uF]
    refine wpAnyE.take (i:=16) (v:=?_) rfl (by kernel_rfl) (by kernel_rfl) (by kernel_rfl) (by kernel_rfl) (fun _ _ _ h=>h) (Or.inl ⟨by rfl,?_⟩) (by assumption) ?_
    rotate_left
    · intro w hSw;obtain ⟨s0,s1,s2,s3,s4⟩:=hSw;go_simp;with_reducible rfl
    try simp only [Act.put,uA,uB,uC,uD,uE,uF]
    refine wpAnyE.one (i:=17) (by kernel_rfl) rfl (fun K hK=>?_)
    go_simp
    refine hK _ _ (fun _=>hS) ?_
    clear hK K
    try simp only [Act.put,uA,uB,uC,uD,uE,uF]
    refine wpAnyE.done (by kernel_rfl) ?_
    go_wp2
    go_ret
    exact ⟨ret_bool HR0.out,hW⟩
  | true =>
  cases he : (v.toList == said.toList) with
  | false =>
    have HR0 : Hid (false = RB):=by rw [← HR.out];unfold wouldB;rw [he];rfl
    refine wpAnyE.take (i:=0) (v:=?_) rfl (by kernel_rfl) (by kernel_rfl) (by kernel_rfl) (by kernel_rfl) (fun _ _ _ h=>h) (Or.inl ⟨by rfl,?_⟩) (by assumption) ?_
    rotate_left
    · intro w hSw;obtain ⟨s0,s1,s2,s3,s4⟩:=hSw;go_simp;with_reducible rfl
    try simp only [Act.put,uA,uC,uD,uE,uF]
    refine wpAnyE.take (i:=1) (v:=?_) rfl (by kernel_rfl) (by kernel_rfl) (by kernel_rfl) (by kernel_rfl) (fun _ _ _ h=>h) (Or.inl ⟨by rfl,?_⟩) (by assumption) ?_
    rotate_left
    · intro w hSw;obtain ⟨s0,s1,s2,s3,s4⟩:=hSw;go_simp;with_reducible rfl
    try simp only [Act.put,uA,uB,uC,uD,uE,uF]
    refine wpAnyE.take (i:=2) (v:=?_) rfl (by kernel_rfl) (by kernel_rfl) (by kernel_rfl) (by kernel_rfl) (fun _ _ _ h=>h) (Or.inl ⟨by rfl,?_⟩) (by assumption) ?_
    rotate_left
    · intro w hSw;obtain ⟨s0,s1,s2,s3,s4⟩:=hSw;go_simp;with_reducible rfl
    try simp only [Act.put,uA,uB,uC,uD,uE,uF]
    refine wpAnyE.take (i:=3) (v:=?_) rfl (by kernel_rfl) (by kernel_rfl) (by kernel_rfl) (by kernel_rfl) (fun _ _ _ h=>h) (Or.inl ⟨by rfl,?_⟩) (by assumption) ?_
    rotate_left
    · intro w hSw;obtain ⟨s0,s1,s2,s3,s4⟩:=hSw;go_simp;with_reducible rfl
    try simp only [Act.put,uA,uB,uC,uD,uE,uF]
    refine wpAnyE.take (i:=4) (v:=?_) rfl (by kernel_rfl) (by kernel_rfl) (by kernel_rfl) (by kernel_rfl) (fun _ _ _ h=>h) (Or.inl ⟨by rfl,?_⟩) (by assumption) ?_
    rotate_left
    · intro w hSw;obtain ⟨s0,s1,s2,s3,s4⟩:=hSw;go_simp;with_reducible rfl
    try simp only [Act.put,uA,uB,uC,uD,uE,uF]
    refine wpAnyE.take (i:=5) (v:=?_) rfl (by kernel_rfl) (by kernel_rfl) (by kernel_rfl) (by kernel_rfl) (fun _ _ _ h=>h) (Or.inl ⟨by rfl,?_⟩) (by assumption) ?_
    rotate_left
    · intro w hSw;obtain ⟨s0,s1,s2,s3,s4⟩:=hSw;go_simp;with_reducible rfl
    try simp only [Act.put,uA,uB,uC,uD,uE,uF]
    refine wpAnyE.take (i:=6) (v:=?_) rfl (by kernel_rfl) (by kernel_rfl) (by kernel_rfl) (by kernel_rfl) (fun _ _ _ h=>h) (Or.inl ⟨by rfl,?_⟩) (by assumption) ?_
    rotate_left
    · intro w hSw;obtain ⟨s0,s1,s2,s3,s4⟩:=hSw;go_simp;with_reducible rfl
    try simp only [Act.put,uA,uB,uC,uD,uE,uF]
    refine wpAnyE.take (i:=7) (v:=?_) rfl (by kernel_rfl) (by kernel_rfl) (by kernel_rfl) (by kernel_rfl) (fun _ _ _ h=>h) (Or.inl ⟨by rfl,?_⟩) (by assumption) ?_
    rotate_left
    · intro w hSw;obtain ⟨s0,s1,s2,s3,s4⟩:=hSw;go_simp;with_reducible rfl
    try simp only [Act.put,uA,uB,uC,uD,uE,uF]
    refine wpAnyE.take (i:=8) (v:=?_) rfl (by kernel_rfl) (by kernel_rfl) (by kernel_rfl) (by kernel_rfl) (fun _ _ _ h=>h) (Or.inl ⟨by rfl,?_⟩) (by assumption) ?_
    rotate_left
    · intro w hSw;obtain ⟨s0,s1,s2,s3,s4⟩:=hSw;go_simp;with_reducible rfl
    try simp only [Act.put,uA,uB,uC,uD,uE,uF]
    refine wpAnyE.take (i:=9) (v:=?_) rfl (by kernel_rfl) (by kernel_rfl) (by kernel_rfl) (by kernel_rfl) (fun _ _ _ h=>h) (Or.inl ⟨by rfl,?_⟩) (by assumption) ?_
    rotate_left
    · intro w hSw;obtain ⟨s0,s1,s2,s3,s4⟩:=hSw;go_simp;with_reducible rfl
    try simp only [Act.put,uA,uB,uC,uD,uE,uF]
    refine wpAnyE.take (i:=10) (v:=?_) rfl (by kernel_rfl) (by kernel_rfl) (by kernel_rfl) (by kernel_rfl) (fun _ _ _ h=>h) (Or.inl ⟨by rfl,?_⟩) (by assumption) ?_
    rotate_left
    · intro w hSw;obtain ⟨s0,s1,s2,s3,s4⟩:=hSw;go_simp;with_reducible rfl
    try simp only [Act.put,uA,uB,uC,uD,uE,uF]
    refine wpAnyE.take (i:=11) (v:=?_) rfl (by kernel_rfl) (by kernel_rfl) (by kernel_rfl) (by kernel_rfl) (fun _ _ _ h=>h) (Or.inl ⟨by rfl,?_⟩) (by assumption) ?_
    rotate_left
    · intro w hSw;obtain ⟨s0,s1,s2,s3,s4⟩:=hSw;go_simp;with_reducible rfl
    try simp only [Act.put,uA,uB,uC,uD,uE,uF]
    refine wpAnyE.take (i:=12) (v:=undef) rfl (by kernel_rfl) (by kernel_rfl) (by kernel_rfl) (by kernel_rfl) (fun _ _ _ h=>h) (Or.inr ⟨by rfl,rfl⟩) (by assumption) ?_
    try simp only [Act.put,uA,uB,uC,uD,uE,uF]
    refine wpAnyE.take (i:=13) (v:=undef) rfl (by kernel_rfl) (by kernel_rfl) (by kernel_rfl) (by kernel_rfl) (fun _ _ _ h=>h) (Or.inr ⟨by rfl,rfl⟩) (by assumption) ?_
    try simp only [Act.put,uA,uB,uC,uD,uE,uF]
    refine wpAnyE.take (i:=14) (v:=undef) rfl (by kernel_rfl) (by kernel_rfl) (by kernel_rfl) (by kernel_rfl) (fun _ _ _ h=>h) (Or.inr ⟨by rfl,rfl⟩) (by assumption) ?_
    try simp only [Act.put,uA,uB,uC,uD,uE,uF]
    refine wpAnyE.take (i:=15) (v:=undef) rfl (by kernel_rfl) (by kernel_rfl) (by kernel_rfl) (by kernel_rfl) (fun _ _ _ h=>h) (Or.inr ⟨by rfl,rfl⟩) (by assumption) ?_
    try simp only [Act.put,uA,uB,uC,uD,uE,uF]
    refine wpAnyE.take (i:=16) (v:=?_) rfl (by kernel_rfl) (by kernel_rfl) (by kernel_rfl) (by kernel_rfl) (fun _ _ _ h=>h) (Or.inl ⟨by rfl,?_⟩) (by assumption) ?_
    rotate_left
    · intro w hSw;obtain ⟨s0,s1,s2,s3,s4⟩:=hSw;go_simp;with_reducible rfl
    try simp only [Act.put,uA,uB,uC,uD,uE,uF]
    refine wpAnyE.one (i:=17) (by kernel_rfl) rfl (fun K hK=>?_)
    go_simp
    refine hK _ _ (fun _=>hS) ?_
    clear hK K
    try simp only [Act.put,uA,uB,uC,uD,uE,uF]
    refine wpAnyE.done (by kernel_rfl) ?_
    go_wp2
    go_ret
    exact ⟨ret_bool HR0.out,hW⟩
  | true =>
    have HR0 : Hid ((!bitB late i) = RB):=by rw [← HR.out];unfold wouldB Hid;rw [he];simp
    refine wpAnyE.take (i:=0) (v:=?_) rfl (by kernel_rfl) (by kernel_rfl) (by kernel_rfl) (by kernel_rfl) (fun _ _ _ h=>h) (Or.inl ⟨by rfl,?_⟩) (by assumption) ?_
    rotate_left
    · intro w hSw;obtain ⟨s0,s1,s2,s3,s4⟩:=hSw;go_simp;with_reducible rfl
    try simp only [Act.put,uA,uC,uD,uE,uF]
    refine wpAnyE.take (i:=1) (v:=?_) rfl (by kernel_rfl) (by kernel_rfl) (by kernel_rfl) (by kernel_rfl) (fun _ _ _ h=>h) (Or.inl ⟨by rfl,?_⟩) (by assumption) ?_
    rotate_left
    · intro w hSw;obtain ⟨s0,s1,s2,s3,s4⟩:=hSw;go_simp;with_reducible rfl
    try simp only [Act.put,uA,uB,uC,uD,uE,uF]
    refine wpAnyE.take (i:=2) (v:=?_) rfl (by kernel_rfl) (by kernel_rfl) (by kernel_rfl) (by kernel_rfl) (fun _ _ _ h=>h) (Or.inl ⟨by rfl,?_⟩) (by assumption) ?_
    rotate_left
    · intro w hSw;obtain ⟨s0,s1,s2,s3,s4⟩:=hSw;go_simp;with_reducible rfl
    try simp only [Act.put,uA,uB,uC,uD,uE,uF]
    refine wpAnyE.take (i:=3) (v:=?_) rfl (by kernel_rfl) (by kernel_rfl) (by kernel_rfl) (by kernel_rfl) (fun _ _ _ h=>h) (Or.inl ⟨by rfl,?_⟩) (by assumption) ?_
    rotate_left
    · intro w hSw;obtain ⟨s0,s1,s2,s3,s4⟩:=hSw;go_simp;with_reducible rfl
    try simp only [Act.put,uA,uB,uC,uD,uE,uF]
    refine wpAnyE.take (i:=4) (v:=?_) rfl (by kernel_rfl) (by kernel_rfl) (by kernel_rfl) (by kernel_rfl) (fun _ _ _ h=>h) (Or.inl ⟨by rfl,?_⟩) (by assumption) ?_
    rotate_left
    · intro w hSw;obtain ⟨s0,s1,s2,s3,s4⟩:=hSw;go_simp;with_reducible rfl
    try simp only [Act.put,uA,uB,uC,uD,uE,uF]
    refine wpAnyE.take (i:=5) (v:=?_) rfl (by kernel_rfl) (by kernel_rfl) (by kernel_rfl) (by kernel_rfl) (fun _ _ _ h=>h) (Or.inl ⟨by rfl,?_⟩) (by assumption) ?_
    rotate_left
    · intro w hSw;obtain ⟨s0,s1,s2,s3,s4⟩:=hSw;go_simp;with_reducible rfl
    try simp only [Act.put,uA,uB,uC,uD,uE,uF]
    refine wpAnyE.take (i:=6) (v:=?_) rfl (by kernel_rfl) (by kernel_rfl) (by kernel_rfl) (by kernel_rfl) (fun _ _ _ h=>h) (Or.inl ⟨by rfl,?_⟩) (by assumption) ?_
    rotate_left
    · intro w hSw;obtain ⟨s0,s1,s2,s3,s4⟩:=hSw;go_simp;with_reducible rfl
    try simp only [Act.put,uA,uB,uC,uD,uE,uF]
    refine wpAnyE.take (i:=7) (v:=?_) rfl (by kernel_rfl) (by kernel_rfl) (by kernel_rfl) (by kernel_rfl) (fun _ _ _ h=>h) (Or.inl ⟨by rfl,?_⟩) (by assumption) ?_
    rotate_left
    · intro w hSw;obtain ⟨s0,s1,s2,s3,s4⟩:=hSw;go_simp;with_reducible rfl
    try simp only [Act.put,uA,uB,uC,uD,uE,uF]
    refine wpAnyE.take (i:=8) (v:=?_) rfl (by kernel_rfl) (by kernel_rfl) (by kernel_rfl) (by kernel_rfl) (fun _ _ _ h=>h) (Or.inl ⟨by rfl,?_⟩) (by assumption) ?_
    rotate_left
    · intro w hSw;obtain ⟨s0,s1,s2,s3,s4⟩:=hSw;go_simp;with_reducible rfl
    try simp only [Act.put,uA,uB,uC,uD,uE,uF]
    refine wpAnyE.take (i:=9) (v:=?_) rfl (by kernel_rfl) (by kernel_rfl) (by kernel_rfl) (by kernel_rfl) (fun _ _ _ h=>h) (Or.inl ⟨by rfl,?_⟩) (by assumption) ?_
    rotate_left
    · intro w hSw;obtain ⟨s0,s1,s2,s3,s4⟩:=hSw;go_simp;with_reducible rfl
    try simp only [Act.put,uA,uB,uC,uD,uE,uF]
    refine wpAnyE.take (i:=10) (v:=?_) rfl (by kernel_rfl) (by kernel_rfl) (by kernel_rfl) (by kernel_rfl) (fun _ _ _ h=>h) (Or.inl ⟨by rfl,?_⟩) (by assumption) ?_
    rotate_left
    · intro w hSw;obtain ⟨s0,s1,s2,s3,s4⟩:=hSw;go_simp;with_reducible rfl
    try simp only [Act.put,uA,uB,uC,uD,uE,uF]
    refine wpAnyE.take (i:=11) (v:=?_) rfl (by kernel_rfl) (by kernel_rfl) (by kernel_rfl) (by kernel_rfl) (fun _ _ _ h=>h) (Or.inl ⟨by rfl,?_⟩) (by assumption) ?_
    rotate_left
    · intro w hSw;obtain ⟨s0,s1,s2,s3,s4⟩:=hSw;go_simp;with_reducible rfl
    try simp only [Act.put,uA,uB,uC,uD,uE,uF]
    refine wpAnyE.take (i:=12) (v:=?_) rfl (by kernel_rfl) (by kernel_rfl) (by kernel_rfl) (by kernel_rfl) (fun _ _ _ h=>h) (Or.inl ⟨by rfl,?_⟩) (by assumption) ?_
    rotate_left
    · intro w hSw;obtain ⟨s0,s1,s2,s3,s4⟩:=hSw;go_simp;with_reducible rfl
    try simp only [Act.put,uA,uB,uC,uD,uE,uF]
    refine wpAnyE.take (i:=13) (v:=?_) rfl (by kernel_rfl) (by kernel_rfl) (by kernel_rfl) (by kernel_rfl) (fun _ _ _ h=>h) (Or.inl ⟨by rfl,?_⟩) (by assumption) ?_
    rotate_left
    · intro w hSw;obtain ⟨s0,s1,s2,s3,s4⟩:=hSw;go_simp;with_reducible rfl
    try simp only [Act.put,uA,uB,uC,uD,uE,uF]
    refine wpAnyE.one (i:=14) (by kernel_rfl) rfl (fun K hK=>?_)
    go_simp
    refine (hasBit_any late i W1 hl0 hl1 hi).mono ?_
    rintro e W2 ⟨rfl,hb2⟩
    have hS2 : W2.cell? ⟨pw,0,none⟩ = some (.bool true) ∧ W2.cell? ⟨pl,0,none⟩ = some (.pointer (some ⟨L,0,none⟩)) ∧ W2.cell? ⟨ps,0,none⟩ = some (.string said) ∧ W2.cell? ⟨pt,0,none⟩ = some (.int .i64 late) ∧ W2.cell? ⟨L,1 + i,none⟩ = some (.string v):=⟨(hb2.cell (p:=⟨pw,0,none⟩) (Nat.lt_of_lt_of_le hp0 hW.size)).trans hS.1,(hb2.cell (p:=⟨pl,0,none⟩) (Nat.lt_of_lt_of_le hp1 hW.size)).trans hS.2.1,(hb2.cell (p:=⟨ps,0,none⟩) (Nat.lt_of_lt_of_le hp2 hW.size)).trans hS.2.2.1,(hb2.cell (p:=⟨pt,0,none⟩) (Nat.lt_of_lt_of_le hp3 hW.size)).trans hS.2.2.2.1,(hb2.cell (p:=⟨L,1 + i,none⟩) (Nat.lt_of_lt_of_le hL hW.size)).trans hS.2.2.2.2⟩
    have hW2:=hW.trans (hb2.mono hW.size)
    refine hK _ _ (fun _=>hS2) ?_
    clear hK K hS
    try simp only [Act.put,uA,uB,uC,uD,uE,uF]
    refine wpAnyE.take (i:=15) (v:=?_) rfl (by kernel_rfl) (by kernel_rfl) (by kernel_rfl) (by kernel_rfl) (fun _ _ _ h=>h) (Or.inl ⟨by rfl,?_⟩) (by assumption) ?_
    rotate_left
    · intro w hSw;obtain ⟨s0,s1,s2,s3,s4⟩:=hSw;go_simp;with_reducible rfl
    try simp only [Act.put,uA,uB,uC,uD,uE,uF]
    refine wpAnyE.take (i:=16) (v:=?_) rfl (by kernel_rfl) (by kernel_rfl) (by kernel_rfl) (by kernel_rfl) (fun _ _ _ h=>h) (Or.inl ⟨by rfl,?_⟩) (by assumption) ?_
    rotate_left
    · intro w hSw;obtain ⟨s0,s1,s2,s3,s4⟩:=hSw;go_simp;with_reducible rfl
    try simp only [Act.put,uA,uB,uC,uD,uE,uF]
    refine wpAnyE.one (i:=17) (by kernel_rfl) rfl (fun K hK=>?_)
    go_simp
    refine hK _ _ (fun _=>hS2) ?_
    clear hK K
    try simp only [Act.put,uA,uB,uC,uD,uE,uF]
    refine wpAnyE.done (by kernel_rfl) ?_
    go_wp2
    go_ret
    exact ⟨ret_bool HR0.out,hW2⟩
set_option maxHeartbeats 1000000 in
theorem commits_any (i : Nat) (pd pf p1 p2 p3 p4 : Nat) (done d : Bool) (w : World)
    (kd : w.heap[pd]? = some (.cells #[.bool done] 4)) (kf : w.heap[pf]? = some (.cells #[.func (.func 47) #[] #[.pointer (some ⟨p1,0,none⟩),.pointer (some ⟨p2,0,none⟩),.pointer (some ⟨p3,0,none⟩),.pointer (some ⟨p4,0,none⟩)]] 94))
    (hc : Calls Tryz.prog 47 #[.int .i64 i,.pointer (some ⟨p1,0,none⟩),.pointer (some ⟨p2,0,none⟩),.pointer (some ⟨p3,0,none⟩),.pointer (some ⟨p4,0,none⟩)] w (fun e w'=>e = .returned (.bool d) ∧ Below w.heap.size w w')) :
    Calls Tryz.prog 51 #[.int .i64 i,.pointer (some ⟨pd,0,none⟩),.pointer (some ⟨pf,0,none⟩)] w fun e w'=>e = .returned (.bool (done && d)) ∧ Below w.heap.size w w':=by
  have y0 : w.cell? ⟨pd,0,none⟩ = some (.bool done):=by rw [cell_of_row _ _ _ _ _ _ kd];rfl
  have y1 : w.cell? ⟨pf,0,none⟩ = some (.func (.func 47) #[] #[.pointer (some ⟨p1,0,none⟩),.pointer (some ⟨p2,0,none⟩),.pointer (some ⟨p3,0,none⟩),.pointer (some ⟨p4,0,none⟩)]):=by rw [cell_of_row _ _ _ _ _ _ kf];rfl
  clear kd kf
  cases done with
  | false =>
    have HR : Hid (false = (false && d)):=rfl
    obtain ⟨rb,HRB⟩ : ∃ b,Hid ((false && d) = b):=⟨_,rfl⟩
    rw [HRB.out] at HR ⊢
    go_enter Tryz.func51,Tryz.ntmps51
    go_wp2
    go_ret
    exact ⟨ret_bool HR.out,Below.refl _ _⟩
  | true =>
    obtain ⟨rb,HRB⟩ : ∃ b,Hid ((true && d) = b):=⟨_,rfl⟩
    have HR : Hid (d = rb):=by rw [← HRB.out];simp [Hid]
    rw [HRB.out]
    clear HRB
    go_enter Tryz.func51,Tryz.ntmps51
    go_wp2_with fail
    refine hc.mono ?_
    clear hc
    rintro e w1 ⟨rfl,hb1⟩
    go_wp2
    go_ret
    exact ⟨ret_bool HR.out,hb1⟩
end
end Go.Proofs.YtehmlpkapjdhkaaGreatDoor
