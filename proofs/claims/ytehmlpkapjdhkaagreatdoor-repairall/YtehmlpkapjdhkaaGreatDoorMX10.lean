import Derived.Test.YtehmlpkapjdhkaaGreatDoorMX8
import Derived.Test.YtehmlpkapjdhkaaGreatDoorMX6
import Derived.Test.YtehmlpkapjdhkaaGreatDoorML1
import Derived.Test.YtehmlpkapjdhkaaGreatDoorMX2
import Derived.Test.YtehmlpkapjdhkaaGreatDoorMX9
import Derived.Test.YtehmlpkapjdhkaaGreatDoorMP
namespace Go.Proofs.YtehmlpkapjdhkaaGreatDoor
section
open Go.RowKit
set_option maxRecDepth 100000
theorem HoldsS.take {w : World} {a : Option Addr} {l : List Ob} (h : HoldsS w a l) (n : Nat) : HoldsS w a (l.take n):=by
  intro i hi
  rw [List.length_take] at hi
  obtain ⟨b,off,e,hb,hc⟩:=h i (by omega)
  refine ⟨b,off,e,hb,fun j hj=>?_⟩
  rw [List.length_take] at hj
  rw [List.getElem_take]
  exact hc j (by omega)
end

section
open Go.RowKit
set_option maxRecDepth 100000
abbrev hostV (g1 g2 : Nat) : Value:=replV (some ⟨g1,0,none⟩) 5 5 (some ⟨g2,0,none⟩) 2 2 7 0 none 0 0 none 0 0 false
abbrev oldV (g1 g2 : Nat) : Value:=replV (some ⟨g1,0,none⟩) 3 5 (some ⟨g2,0,none⟩) 1 2 2 0 none 0 0 none 0 0 false
def hostP : Rp:=⟨shelfL,namesL,7,0,[],[],false⟩
def oldP : Rp:=⟨shelfL.take 3,namesL.take 1,2,0,[],[],false⟩
def hostQ (g1 g2 : Nat) : Rq:=⟨hostP,some ⟨g1,0,none⟩,5,some ⟨g2,0,none⟩,2,none,0,none,0⟩
def oldQ (g1 g2 : Nat) : Rq:=⟨oldP,some ⟨g1,0,none⟩,5,some ⟨g2,0,none⟩,2,none,0,none,0⟩
theorem HoldsR.take {w : World} {a : Option Addr} {l : List Rf} (h : HoldsR w a l) (n : Nat) : HoldsR w a (l.take n):=by
  intro i hi
  rw [List.length_take] at hi
  obtain ⟨b,off,e,hb,hc⟩:=h i (by omega)
  refine ⟨b,off,e,hb,fun j hj=>?_⟩
  rw [List.length_take] at hj
  rw [List.getElem_take]
  exact hc j (by omega)
theorem none_H {w : World} : HoldsS w none [] ∧ HoldsU w none []:=⟨fun _ hi=>absurd hi (Nat.not_lt_zero _),fun _ hi=>absurd hi (Nat.not_lt_zero _)⟩
theorem host_H {w : World} {g1 g2 : Nat} (h1 : HoldsS w (some ⟨g1,0,none⟩) shelfL) (h2 : HoldsR w (some ⟨g2,0,none⟩) namesL) : (hostQ g1 g2).H w :=
  ⟨h1,h2,none_H.1,none_H.2,(show shelfL.length ≤ 9223372036854775807 by decide),(show namesL.length ≤ 9223372036854775807 by decide),Nat.zero_le _,Nat.zero_le _⟩
theorem old_H {w : World} {g1 g2 : Nat} (h1 : HoldsS w (some ⟨g1,0,none⟩) shelfL) (h2 : HoldsR w (some ⟨g2,0,none⟩) namesL) : (oldQ g1 g2).H w :=
  ⟨h1.take 3,h2.take 1,none_H.1,none_H.2,(show (shelfL.take 3).length ≤ 9223372036854775807 by decide),(show (namesL.take 1).length ≤ 9223372036854775807 by decide),Nat.zero_le _,Nat.zero_le _⟩
theorem Rq.H.dep {w : World} {q : Rq} (h : q.H w) : Dep w 0 w.heap.size (fun W=>q.H W) :=
  ⟨Nat.le_refl _,fun w' hs hk=>by
    have hb : Below w.heap.size w { w with heap:=w'.heap }:=⟨rfl,rfl,rfl,hs,fun k hk'=>hk k (Nat.zero_le _) hk'⟩
    obtain ⟨a,b,c,d,e,f,g,i⟩:=h.below hb
    exact ⟨a,b,c,d,e,f,g,i⟩⟩
set_option maxHeartbeats 1000000 in
theorem host_any (w : World) : Calls Tryz.prog 76 #[] w fun e w'=>∃ g1 g2,e = .returned (hostV g1 g2) ∧ (hostQ g1 g2).H w' ∧ Below w.heap.size w w':=by
  have hA:=below_alloc w zero42
  have hbk:=heap_alloc_new w zero42
  go_enter Tryz.func76,Tryz.ntmps76
  go_wp2_with fail
  refine (shelf_holds _).mono ?_
  rintro e w1 ⟨g1,rfl,hb1,h1⟩
  have hB1:=hA.trans (hb1.mono hA.size)
  have hk1:=(hb1.block _ (heap_lt hbk)).trans hbk
  clear hb1 hA hbk
  go_wp2_with fail
  refine (names_any w1).mono ?_
  rintro e w2 ⟨g2,rfl,h2,hb2⟩
  have hB2:=hB1.trans (hb2.mono hB1.size)
  have hk2:=(hb2.block _ (heap_lt hk1)).trans hk1
  have h12:=h1.below hb2
  clear hb2 hB1 hk1 h1
  have z2:=zero42_zero hk2
  have c : ∀ i v,(#[.slice none 0 0,.slice none 0 0,.int .i64 0,.int .i64 0,.slice none 0 0,.slice none 0 0,.bool false] : Array Value)[i]? = some v → w2.cell? ⟨w.heap.size,i,none⟩ = some v:=fun i v h=>by rw [cell_of_row w2 _ _ _ _ _ hk2];exact h
  have c0 : w2.cell? ⟨w.heap.size,0,none⟩ = some (.slice none 0 0):=c 0 _ rfl
  have c1 : w2.cell? ⟨w.heap.size,1,none⟩ = some (.slice none 0 0):=c 1 _ rfl
  have c2 : w2.cell? ⟨w.heap.size,2,none⟩ = some (.int .i64 0):=c 2 _ rfl
  have c3 : w2.cell? ⟨w.heap.size,3,none⟩ = some (.int .i64 0):=c 3 _ rfl
  have c4 : w2.cell? ⟨w.heap.size,4,none⟩ = some (.slice none 0 0):=c 4 _ rfl
  have c5 : w2.cell? ⟨w.heap.size,5,none⟩ = some (.slice none 0 0):=c 5 _ rfl
  have c6 : w2.cell? ⟨w.heap.size,6,none⟩ = some (.bool false):=c 6 _ rfl
  have f0:=f_of (o:=0) hk2
  have f1:=f_of (o:=1) hk2
  have f2:=f_of (o:=2) hk2
  have f3:=f_of (o:=3) hk2
  have f4:=f_of (o:=4) hk2
  have f5:=f_of (o:=5) hk2
  have f6:=f_of (o:=6) hk2
  have bt : But w.heap.size w2 (((((((w2.setCell ⟨w.heap.size,0,none⟩ (.slice (some ⟨g1,0,none⟩) 5 5)).setCell ⟨w.heap.size,1,none⟩ (.slice (some ⟨g2,0,none⟩) 2 2)).setCell ⟨w.heap.size,2,none⟩ (.int .i64 7)).setCell ⟨w.heap.size,3,none⟩ (.int .i64 0)).setCell ⟨w.heap.size,4,none⟩ (.slice none 0 0)).setCell ⟨w.heap.size,5,none⟩ (.slice none 0 0)).setCell ⟨w.heap.size,6,none⟩ (.bool false)) :=
    ((((((((But.refl _ _).set _ _).set _ _).set _ _).set _ _).set _ _).set _ _).set _ _)
  have bl : Below w.heap.size w (((((((w2.setCell ⟨w.heap.size,0,none⟩ (.slice (some ⟨g1,0,none⟩) 5 5)).setCell ⟨w.heap.size,1,none⟩ (.slice (some ⟨g2,0,none⟩) 2 2)).setCell ⟨w.heap.size,2,none⟩ (.int .i64 7)).setCell ⟨w.heap.size,3,none⟩ (.int .i64 0)).setCell ⟨w.heap.size,4,none⟩ (.slice none 0 0)).setCell ⟨w.heap.size,5,none⟩ (.slice none 0 0)).setCell ⟨w.heap.size,6,none⟩ (.bool false)) :=
    (((((((hB2.setCell (Nat.le_refl _) _).setCell (Nat.le_refl _) _).setCell (Nat.le_refl _) _).setCell (Nat.le_refl _) _).setCell (Nat.le_refl _) _).setCell (Nat.le_refl _) _).setCell (Nat.le_refl _) _)
  have HF : Hid (_ ∧ _ ∧ _):=⟨h12.but bt z2 shelf_not0,h2.but bt z2 names_not0,bl⟩
  clear bt bl z2 hk2 hB2 h12 h2 c
  go_wp2
  refine bodyPost_ret (v:=hostV g1 g2) (by simp [results,Tryz.results76,go_sem,c0,c1,c2,c3,c4,c5,c6]) rfl ?_
  exact ⟨g1,g2,rfl,host_H HF.out.1 HF.out.2.1,HF.out.2.2⟩
theorem beg_f1 : fromE hostP oldP = 0:=by decide +kernel
theorem beg_r1 : (fromR hostP oldP) = hostP:=by kernel_rfl
theorem beg_f2 : fromE oldP hostP = 4:=by decide +kernel
theorem beg_a1 : allE [hostP,oldP,hostP] = 0:=by decide +kernel
theorem beg_a2 : cntTo (menB [hostP,oldP,hostP]) 3 = 1:=by decide +kernel
theorem beg_a3 : allL [hostP,oldP,hostP] = [hostP,hostP,hostP]:=by kernel_rfl
theorem begFrom1 (w : World) (hg : Glob w) (g1 g2 o1 o2 : Nat) (h1 : (hostQ g1 g2).H w) (h2 : (oldQ o1 o2).H w) :
    Calls Tryz.prog 25 #[hostV g1 g2,oldV o1 o2] w fun e w'=>∃ q : Rq,e = .returned (.tuple #[q.val,.int .i64 0]) ∧ Hid (q.r = hostP) ∧ Dep w' w.heap.size w'.heap.size (fun W=>q.H W) ∧ Below w.heap.size w w':=by
  have hc : Calls Tryz.prog 25 #[hostV g1 g2,oldV o1 o2] w (FromPost hostP oldP w):=from_any (hostQ g1 g2) (oldQ o1 o2) w hg h1 h2
  refine hc.mono ?_
  rintro e w' ⟨hb,⟨hne,-⟩ | ⟨-,b0,d0,b1,d1,b2,d2,b3,d3,rfl,F⟩⟩
  · exact absurd beg_f1 hne
  · exact ⟨⟨fromR hostP oldP,b0,d0,b1,d1,b2,d2,b3,d3⟩,rfl,beg_r1,F.dep,hb⟩
theorem begFrom2 (w : World) (hg : Glob w) (g1 g2 o1 o2 : Nat) (h1 : (hostQ g1 g2).H w) (h2 : (oldQ o1 o2).H w) :
    Calls Tryz.prog 25 #[oldV o1 o2,hostV g1 g2] w fun e w'=>e = .returned (.tuple #[zeroV,.int .i64 4]) ∧ Below w.heap.size w w':=by
  have hc : Calls Tryz.prog 25 #[oldV o1 o2,hostV g1 g2] w (FromPost oldP hostP w):=from_any (oldQ o1 o2) (hostQ g1 g2) w hg h2 h1
  refine hc.mono ?_
  rintro e w' ⟨hb,⟨-,rfl⟩ | ⟨h0,-⟩⟩
  · rw [beg_f2];exact ⟨rfl,hb⟩
  · rw [beg_f2] at h0;cases h0
theorem begAll (w : World) (hg : Glob w) (b g1 g2 o1 o2 k1 k2 : Nat) (h : HoldsQ w (some ⟨b,0,none⟩) [hostQ g1 g2,oldQ o1 o2,hostQ k1 k2]) :
    Calls Tryz.prog 31 #[.agg #[.slice (some ⟨b,0,none⟩) 3 3]] w fun e w'=>∃ B cap qs,e = .returned (.tuple #[.agg #[.slice (some ⟨B,0,none⟩) 3 cap],.int .i64 1,.int .i64 0]) ∧ Hid (qs.map Rq.r = [hostP,hostP,hostP]) ∧ Dep w' w.heap.size w'.heap.size (fun W=>HoldsQ W (some ⟨B,0,none⟩) qs) ∧ Below w.heap.size w w':=by
  have hc : Calls Tryz.prog 31 #[.agg #[.slice (some ⟨b,0,none⟩) 3 3]] w (AllPost [hostP,oldP,hostP] w):=all_any (some ⟨b,0,none⟩) 3 [hostQ g1 g2,oldQ o1 o2,hostQ k1 k2] w hg h (Nat.le_refl _) (by omega)
  refine hc.mono ?_
  rintro e w' ⟨hb,⟨hne,-⟩ | ⟨-,B,cap,qs,rfl,hm,hd,-,-⟩⟩
  · exact absurd beg_a1 hne
  · rw [beg_a2]
    rw [beg_a3] at hm
    exact ⟨B,cap,qs,rfl,hm,hd,hb⟩
theorem begSame (w : World) (q : Rq) (g1 g2 : Nat) (hr : q.r = hostP) (hq : q.H w) (h : (hostQ g1 g2).H w) :
    Calls Tryz.prog 14 #[q.val,hostV g1 g2] w fun e w'=>e = .returned (.bool true) ∧ Below w.heap.size w w':=by
  have hc : Calls Tryz.prog 14 #[q.val,hostV g1 g2] w fun e w'=>∃ r,e = .returned (.bool r) ∧ (r = true ↔ q.r = hostP) ∧ Below w.heap.size w w':=sameRq_any q (hostQ g1 g2) w hq h
  refine hc.mono ?_
  rintro e w' ⟨r,rfl,hr',hb⟩
  rw [hr'.2 hr];exact ⟨rfl,hb⟩
theorem holds_three {w : World} {b : Nat} {q1 q2 q3 : Rq} (k : w.heap[b]? = some (.cells (q1.cells ++ q2.cells ++ q3.cells).toArray 36)) (h1 : q1.H w) (h2 : q2.H w) (h3 : q3.H w) : HoldsQ w (some ⟨b,0,none⟩) [q1,q2,q3]:=by
  have hc : ∀ o v,((q1.cells ++ q2.cells ++ q3.cells).toArray : Array Value)[o]? = some v → w.cell? ⟨b,o,none⟩ = some v:=fun o v h=>by rw [cell_of_row _ _ _ _ _ _ k];exact h
  intro i hi
  refine ⟨b,0,rfl,heap_lt k,fun j hj=>?_⟩
  have hj' : j = 0 ∨ j = 1 ∨ j = 2:=by simp at hj;omega
  rcases hj' with rfl | rfl | rfl
  · exact ⟨⟨hc 0 _ rfl,hc 1 _ rfl,hc 2 _ rfl,hc 3 _ rfl,hc 4 _ rfl,hc 5 _ rfl,hc 6 _ rfl⟩,h1⟩
  · exact ⟨⟨hc 7 _ rfl,hc 8 _ rfl,hc 9 _ rfl,hc 10 _ rfl,hc 11 _ rfl,hc 12 _ rfl,hc 13 _ rfl⟩,h2⟩
  · exact ⟨⟨hc 14 _ rfl,hc 15 _ rfl,hc 16 _ rfl,hc 17 _ rfl,hc 18 _ rfl,hc 19 _ rfl,hc 20 _ rfl⟩,h3⟩
end
end Go.Proofs.YtehmlpkapjdhkaaGreatDoor
