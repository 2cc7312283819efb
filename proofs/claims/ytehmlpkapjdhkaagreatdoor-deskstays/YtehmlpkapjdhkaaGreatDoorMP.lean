import Derived.Test.YtehmlpkapjdhkaaGreatDoorMU
namespace Go.Proofs.YtehmlpkapjdhkaaGreatDoor
section
open Go.RowKit
set_option maxRecDepth 100000
def pushE (m : List Ob) (us : List Up) : Int:=if 12 < m.length then 2 else if eachE m ≠ 0 then eachE m else checkU us
theorem pushE_iff {m : List Ob} {us : List Up} : pushE m us = 0 ↔ m.length ≤ 12 ∧ eachE m = 0 ∧ checkU us = 0:=by
  unfold pushE
  constructor
  · intro h
    split at h
    · omega
    split at h
    · rename_i c;exact absurd h c
    rename_i c
    exact ⟨by omega,Classical.byContradiction c,h⟩
  · rintro ⟨h1,h2,h3⟩
    rw [if_neg (by omega),if_neg (fun e=>e h2),h3]
def tryE (s : List Ob) (l : List Rf) (m : List Ob) (us : List Up) (f : Bool) : Int :=
  if pushE m us ≠ 0 then pushE m us else if addE s m ≠ 0 then addE s m else applyE l (takeRes s m) us f
theorem tryE_iff {s : List Ob} {l : List Rf} {m : List Ob} {us : List Up} {f : Bool} : tryE s l m us f = 0 ↔ pushE m us = 0 ∧ addE s m = 0 ∧ applyE l (takeRes s m) us f = 0:=by
  unfold tryE
  constructor
  · intro h
    split at h
    · rename_i c;exact absurd h c
    rename_i c1
    split at h
    · rename_i c;exact absurd h c
    rename_i c2
    exact ⟨Classical.byContradiction c1,Classical.byContradiction c2,h⟩
  · rintro ⟨h1,h2,h3⟩
    rw [if_neg (fun e=>e h1),if_neg (fun e=>e h2),h3]
abbrev pushV (am : Option Addr) (nm cm : Nat) (au : Option Addr) (nu cu : Nat) (f : Bool) : Value:=.agg #[.slice am nm cm,.slice au nu cu,.bool f]
set_option maxHeartbeats 2000000 in
theorem pcheck_any (am : Option Addr) (cm : Nat) (m : List Ob) (au : Option Addr) (cu : Nat) (us : List Up) (f : Bool) (w : World) (hg : Glob w) (hm : HoldsS w am m) (hml : m.length ≤ 9223372036854775807) (hu : HoldsU w au us) (hul : us.length ≤ 9223372036854775807) :
    Calls Tryz.prog 79 #[pushV am m.length cm au us.length cu f] w fun e w'=>e = .returned (.int .i64 (pushE m us)) ∧ Below w.heap.size w w':=by
  have hA:=below_alloc w (.cells #[.slice am m.length cm,.slice au us.length cu,.bool f] 28)
  have hbk:=heap_alloc_new w (.cells #[.slice am m.length cm,.slice au us.length cu,.bool f] 28)
  obtain ⟨y0,y1,y2⟩:=c3_of hbk
  by_cases h12 : 12 < m.length
  · have HR : Hid (2 = pushE m us):=by unfold Hid pushE;rw [if_pos h12]
    have z1 : (12 : Int) < (m.length : Int):=by omega
    clear h12
    go_enter Tryz.func79,Tryz.ntmps79
    go_wp2
    go_ret
    exact ⟨ret_int HR.out,hA⟩
  have HP : Hid (pushE m us = if eachE m ≠ 0 then eachE m else checkU us):=by unfold Hid pushE;rw [if_neg h12]
  have z1 : ¬ (12 : Int) < (m.length : Int):=by omega
  have hgA:=hg.below hA
  have hmA:=hm.below hA
  have huA:=hu.below hA
  go_enter Tryz.func79,Tryz.ntmps79
  go_wp2
  generalize w.alloc (.cells #[.slice am m.length cm,.slice au us.length cu,.bool f] 28) = W at *
  obtain ⟨B,hBe⟩ : ∃ B,B = w.heap.size:=⟨_,rfl⟩
  rw [← hBe] at y0 y1 y2 hbk
  rw [← hBe]
  have hBl:=heap_lt hbk
  clear hBe hbk
  go_loopw [13] (fun i wr=>∃ k : Nat,i = .int .i64 k ∧ k ≤ m.length ∧ Below W.heap.size W wr ∧ Hid (eachE m = eachE (m.drop k))) (fun i _=>m.length - (intOf i).toNat)
  case atStart=>exact ⟨0,rfl,Nat.zero_le _,Below.refl _ _,rfl⟩
  case round =>
    obtain ⟨k,rfl,hk,hBr,H⟩:=hrel
    have hBw:=hA.trans (hBr.mono hA.size)
    by_cases hlt : k < m.length
    · obtain ⟨b,off,rfl,hb,hc⟩:=(hmA.below hBr) k hlt
      obtain ⟨sa,sc,x0,x1,x2,x3,x4,x5⟩:=hc k hlt
      clear hc
      have hA2:=below_alloc wr (.cells #[.int .i64 m[k].id,.int .i64 m[k].kind,.slice sa m[k].links.length sc,.string m[k].text] 58)
      have hck:=check_any m[k].id m[k].kind sa sc m[k].links m[k].text _ (x4.below hA2) x5
      go_wp2_with fail
      refine hck.mono ?_
      clear hck
      rintro e w1 ⟨rfl,hb1⟩
      have hB1:=(hBr.trans (hA2.mono hBr.size)).trans (hb1.mono (by have:=hBr.size;have:=hA2.size;omega))
      have hBw1:=hA.trans (hB1.mono hA.size)
      clear hb1 hA2 x0 x1 x2 x3 x4 hBr hBw
      by_cases hz : m[k].err = 0
      · have HN : Hid (eachE m = eachE (m.drop (k + 1))):=ee_next hlt H.out hz
        rw [show checkE m[k].id m[k].kind m[k].links m[k].text.size = 0 from hz]
        clear hz
        go_wp2
        go_roundw
        case rel=>exact ⟨k + 1,by go_num,by omega,hB1,HN⟩
        case measure=>simp [intOf];omega
      · have HR : Hid (pushE m us = m[k].err):=by
          have e:=ee_bad hlt H.out hz
          unfold Hid
          rw [HP.out,e,if_pos hz]
        have hz' : (checkE m[k].id m[k].kind m[k].links m[k].text.size != 0) = true:=by simpa using hz
        clear hz
        go_wp2
        go_ret
        exact ⟨ret_int HR.out.symm,hBw1⟩
    · have HE : Hid (pushE m us = checkU us):=by
        have e:=ee_end hlt H.out
        unfold Hid
        rw [HP.out,if_neg (fun q=>q e)]
      have x1:=(hBr.cell (p:=⟨B,1,none⟩) hBl).trans y1
      have huc:=ucheck_any au cu us wr (hgA.below hBr) (huA.below hBr) hul
      go_wp2_with fail
      refine huc.mono ?_
      clear huc
      rintro e w1 ⟨rfl,hb1⟩
      have hBw1:=hBw.trans (hb1.mono hBw.size)
      clear hb1 hBw x1
      go_wp2
      go_ret
      exact ⟨ret_int HE.out.symm,hBw1⟩
abbrev replV (aS : Option Addr) (ns cs : Nat) (al : Option Addr) (nl cl : Nat) (g ph : Int) (a1 : Option Addr) (n1 c1 : Nat) (a2 : Option Addr) (n2 c2 : Nat) (f : Bool) : Value:=.agg #[.slice aS ns cs,.slice al nl cl,.int .i64 g,.int .i64 ph,.slice a1 n1 c1,.slice a2 n2 c2,.bool f]
def TryPost (s : List Ob) (l : List Rf) (m : List Ob) (us : List Up) (f : Bool) (w : World) (e : Ending) (w' : World) : Prop :=
  Below w.heap.size w w' ∧ ((tryE s l m us f ≠ 0 ∧ e = .returned (.tuple #[.slice none 0 0,.slice none 0 0,.int .i64 (tryE s l m us f)])) ∨
    (tryE s l m us f = 0 ∧ ∃ a c a' c',e = .returned (.tuple #[.slice a (takeRes s m).length c,.slice a' (runL l us).length c',.int .i64 0]) ∧ HoldsS w' a (takeRes s m) ∧ Room w' a (takeRes s m) ∧ HoldsR w' a' (runL l us)))
theorem TryPost.bad {s : List Ob} {l : List Rf} {m : List Ob} {us : List Up} {f : Bool} {w w' : World} {r : Int} (hr : tryE s l m us f = r) (h0 : r ≠ 0) (hb : Below w.heap.size w w') : TryPost s l m us f w (.returned (.tuple #[.slice none 0 0,.slice none 0 0,.int .i64 r])) w' :=
  ⟨hb,.inl ⟨by rw [hr];exact h0,by rw [hr]⟩⟩
set_option maxHeartbeats 2000000 in
theorem try_any (aS : Option Addr) (cs : Nat) (s : List Ob) (al : Option Addr) (cl : Nat) (l : List Rf) (g ph : Int) (a1 : Option Addr) (n1 c1 : Nat) (a2 : Option Addr) (n2 c2 : Nat) (f0 : Bool) (am : Option Addr) (cm : Nat) (m : List Ob) (au : Option Addr) (cu : Nat) (us : List Up) (f : Bool) (w : World) (hg : Glob w)
    (hs : HoldsS w aS s) (hsl : s.length ≤ 9223372036854775807) (hl : HoldsR w al l) (hll : l.length ≤ 9223372036854775807) (hm : HoldsS w am m) (hml : m.length ≤ 9223372036854775807) (hu : HoldsU w au us) (hul : us.length ≤ 9223372036854775807) :
    Calls Tryz.prog 208 #[replV aS s.length cs al l.length cl g ph a1 n1 c1 a2 n2 c2 f0,pushV am m.length cm au us.length cu f] w (TryPost s l m us f w):=by
  have HE : Hid (tryE s l m us f = if pushE m us ≠ 0 then pushE m us else if addE s m ≠ 0 then addE s m else applyE l (takeRes s m) us f):=rfl
  have hB:=below_alloc2 w (.cells #[.slice aS s.length cs,.slice al l.length cl,.int .i64 g,.int .i64 ph,.slice a1 n1 c1,.slice a2 n2 c2,.bool f0] 36) (.cells #[.slice am m.length cm,.slice au us.length cu,.bool f] 28)
  have hA2:=below_alloc (w.alloc (.cells #[.slice aS s.length cs,.slice al l.length cl,.int .i64 g,.int .i64 ph,.slice a1 n1 c1,.slice a2 n2 c2,.bool f0] 36)) (.cells #[.slice am m.length cm,.slice au us.length cu,.bool f] 28)
  have hk2 : ((w.alloc (.cells #[.slice aS s.length cs,.slice al l.length cl,.int .i64 g,.int .i64 ph,.slice a1 n1 c1,.slice a2 n2 c2,.bool f0] 36)).alloc (.cells #[.slice am m.length cm,.slice au us.length cu,.bool f] 28)).heap[w.heap.size + 1]? = some (.cells #[.slice am m.length cm,.slice au us.length cu,.bool f] 28):=by
    have:=heap_alloc_new (w.alloc (.cells #[.slice aS s.length cs,.slice al l.length cl,.int .i64 g,.int .i64 ph,.slice a1 n1 c1,.slice a2 n2 c2,.bool f0] 36)) (.cells #[.slice am m.length cm,.slice au us.length cu,.bool f] 28)
    rwa [show (w.alloc (.cells #[.slice aS s.length cs,.slice al l.length cl,.int .i64 g,.int .i64 ph,.slice a1 n1 c1,.slice a2 n2 c2,.bool f0] 36)).heap.size = w.heap.size + 1 by simp] at this
  have hk1 : ((w.alloc (.cells #[.slice aS s.length cs,.slice al l.length cl,.int .i64 g,.int .i64 ph,.slice a1 n1 c1,.slice a2 n2 c2,.bool f0] 36)).alloc (.cells #[.slice am m.length cm,.slice au us.length cu,.bool f] 28)).heap[w.heap.size]? = some (.cells #[.slice aS s.length cs,.slice al l.length cl,.int .i64 g,.int .i64 ph,.slice a1 n1 c1,.slice a2 n2 c2,.bool f0] 36):=(hA2.block _ (by simp)).trans (heap_alloc_new w _)
  obtain ⟨y0,y1,y2⟩:=c3_of hk2
  have hpc:=pcheck_any am cm m au cu us f _ (hg.below hB) (hm.below hB) hml (hu.below hB) hul
  clear hA2
  go_enter Tryz.func208,Tryz.ntmps208
  go_wp2_with fail
  refine hpc.mono ?_
  clear hpc
  rintro e w1 ⟨rfl,hb1⟩
  have hB1:=hB.trans (hb1.mono hB.size)
  have hk21:=(hb1.block _ (heap_lt hk2)).trans hk2
  have hk11:=(hb1.block _ (heap_lt hk1)).trans hk1
  clear hb1 hB hk2 hk1 y0 y1 y2
  by_cases k1 : pushE m us = 0
  case neg =>
    have HR : Hid (tryE s l m us f = pushE m us):=by unfold Hid;rw [HE.out,if_pos k1]
    have HF : Hid (TryPost s l m us f w (.returned (.tuple #[.slice none 0 0,.slice none 0 0,.int .i64 (pushE m us)])) w1):=TryPost.bad HR.out k1 hB1
    have z1 : (pushE m us != 0) = true:=by simpa using k1
    clear k1 hk21 hk11
    go_wp2
    refine bodyPost_ret (v:=.tuple #[.slice none 0 0,.slice none 0 0,.int .i64 (pushE m us)]) (by simp [results,Tryz.results208,go_sem]) rfl ?_
    exact HF.out
  have HE1 : Hid (tryE s l m us f = if addE s m ≠ 0 then addE s m else applyE l (takeRes s m) us f):=by unfold Hid;rw [HE.out,if_neg (fun e=>e k1)]
  rw [k1]
  clear k1 HE
  have r0 : w1.cell? ⟨w.heap.size,0,none⟩ = some (.slice aS s.length cs):=by rw [cell_of_row w1 _ _ _ _ _ hk11];rfl
  obtain ⟨y0,y1,y2⟩:=c3_of hk21
  have had:=add_any aS cs s am cm m w1 (hs.below hB1) hsl (hm.below hB1) hml
  go_wp2_with fail
  refine had.mono ?_
  clear had
  rintro e w2 ⟨hb2,hpost⟩
  have hB2:=hB1.trans (hb2.mono hB1.size)
  have hk22:=(hb2.block _ (heap_lt hk21)).trans hk21
  have hk12:=(hb2.block _ (heap_lt hk11)).trans hk11
  clear hb2 hB1 hk21 hk11 r0 y0 y1 y2
  rcases hpost with ⟨hne,rfl⟩ | ⟨hz,a3,c3,rfl,hS3,hlc3,hR3⟩
  · have HR : Hid (tryE s l m us f = addE s m):=by unfold Hid;rw [HE1.out,if_pos hne]
    have HF : Hid (TryPost s l m us f w (.returned (.tuple #[.slice none 0 0,.slice none 0 0,.int .i64 (addE s m)])) w2):=TryPost.bad HR.out hne hB2
    have z1 : (addE s m != 0) = true:=by simpa using hne
    clear hne hk22 hk12
    go_wp2
    refine bodyPost_ret (v:=.tuple #[.slice none 0 0,.slice none 0 0,.int .i64 (addE s m)]) (by simp [results,Tryz.results208,go_sem]) rfl ?_
    exact HF.out
  have HE2 : Hid (tryE s l m us f = applyE l (takeRes s m) us f):=by unfold Hid;rw [HE1.out,if_neg (fun e=>e hz)]
  have hR40 : (takeRes s m).length ≤ 9223372036854775807:=by have:=(checkS_zero (addE_zero hz).2.2.2.2).1;omega
  clear hz HE1 hlc3
  obtain ⟨A,hA⟩ : ∃ A,A = takeRes s m:=⟨_,rfl⟩
  have HA : Hid (A = takeRes s m):=hA
  rw [← hA] at hS3 hR3 hR40 HE2
  rw [← hA]
  clear hA
  have r1 : w2.cell? ⟨w.heap.size,1,none⟩ = some (.slice al l.length cl):=by rw [cell_of_row w2 _ _ _ _ _ hk12];rfl
  obtain ⟨y0,y1,y2⟩:=c3_of hk22
  have hap:=apply_any al cl l a3 c3 A au cu us f w2 (hg.below hB2) (hl.below hB2) hll hS3 hR3 hR40 (hu.below hB2) hul
  go_wp2_with fail
  refine hap.mono ?_
  clear hap
  rintro e w3 ⟨hb3,hpost⟩
  have hB3:=hB2.trans (hb3.mono hB2.size)
  have hS4:=hS3.below hb3
  have hR4:=hR3.below hb3
  clear hb3 hB2 hk22 hk12 r1 y0 y1 y2 hS3 hR3
  rcases hpost with ⟨hne,rfl⟩ | ⟨hz,a5,c5,rfl,hL5,-⟩
  · have HF : Hid (TryPost s l m us f w (.returned (.tuple #[.slice none 0 0,.slice none 0 0,.int .i64 (applyE l A us f)])) w3):=TryPost.bad HE2.out hne hB3
    have z1 : (applyE l A us f != 0) = true:=by simpa using hne
    clear hne
    go_wp2
    refine bodyPost_ret (v:=.tuple #[.slice none 0 0,.slice none 0 0,.int .i64 (applyE l A us f)]) (by simp [results,Tryz.results208,go_sem]) rfl ?_
    exact HF.out
  · have HF : Hid (TryPost s l m us f w (.returned (.tuple #[.slice a3 A.length c3,.slice a5 (runL l us).length c5,.int .i64 0])) w3) :=
      ⟨hB3,.inr ⟨HE2.out.trans hz,a3,c3,a5,c5,by rw [← HA.out],by rw [← HA.out];exact hS4,by rw [← HA.out];exact hR4,hL5⟩⟩
    clear hz hS4 hR4 hL5
    go_wp2
    refine bodyPost_ret (v:=.tuple #[.slice a3 A.length c3,.slice a5 (runL l us).length c5,.int .i64 0]) (by simp [results,Tryz.results208,go_sem]) rfl ?_
    exact HF.out
end

section
open Go.RowKit
set_option maxRecDepth 100000
end

section
open Go.RowKit
set_option maxRecDepth 100000
end

section
open Go.RowKit
set_option maxRecDepth 100000
end

section
open Go.RowKit
set_option maxRecDepth 100000
def Zero (W : World) (R : Nat) : Prop:=∀ off n,W.cell? ⟨R,off,none⟩ = some (.int .i64 n) → n = 0
theorem Zero.ne {W : World} {R : Nat} (h : Zero W R) {b off : Nat} {n : Int} (hc : W.cell? ⟨b,off,none⟩ = some (.int .i64 n)) (hn : n ≠ 0) : b ≠ R:=fun e=>hn (h off n (by rw [← e];exact hc))
structure But (R : Nat) (W W' : World) : Prop where
  size : W'.heap.size = W.heap.size
  cell : ∀ b off,b ≠ R → W'.cell? ⟨b,off,none⟩ = W.cell? ⟨b,off,none⟩
theorem But.refl (R : Nat) (W : World) : But R W W:=⟨rfl,fun _ _ _=>rfl⟩
theorem But.set {R : Nat} {W W' : World} (h : But R W W') (off : Nat) (v : Value) : But R W (W'.setCell ⟨R,off,none⟩ v) :=
  ⟨(World.size_setCell _ _ _).trans h.size,fun b o hb=>(sc_other (fun e=>hb (congrArg Addr.block e).symm)).trans (h.cell b o hb)⟩
theorem Holds.but {R : Nat} {W W' : World} (h : But R W W') (z : Zero W R) {a : Option Addr} {L : List Int} (hL : Holds W a L) (hn : ∀ i ∈ L,i ≠ 0) : Holds W' a L:=by
  intro i hi
  obtain ⟨b,off,e,hlt,hc⟩:=hL i hi
  have hp : 0 < L.length:=by omega
  have h0:=hc 0 hp
  have hne : b ≠ R:=z.ne h0 (by rw [List.getD_eq_getElem?_getD,List.getElem?_eq_getElem hp];exact hn _ (List.getElem_mem hp))
  exact ⟨b,off,e,by rw [h.size];exact hlt,fun j hj=>(h.cell b _ hne).trans (hc j hj)⟩
theorem HoldsS.but {R : Nat} {W W' : World} (h : But R W W') (z : Zero W R) {a : Option Addr} {l : List Ob} (hl : HoldsS W a l) (hn : ∀ x ∈ l,x.id ≠ 0 ∧ ∀ i ∈ x.links,i ≠ 0) : HoldsS W' a l:=by
  intro i hi
  obtain ⟨b,off,e,hlt,hc⟩:=hl i hi
  refine ⟨b,off,e,by rw [h.size];exact hlt,fun j hj=>?_⟩
  obtain ⟨sa,sc,x0,x1,x2,x3,x4,x5⟩:=hc j hj
  have hne : b ≠ R:=z.ne x0 (hn _ (List.getElem_mem hj)).1
  exact ⟨sa,sc,(h.cell b _ hne).trans x0,(h.cell b _ hne).trans x1,(h.cell b _ hne).trans x2,(h.cell b _ hne).trans x3,x4.but h z (hn _ (List.getElem_mem hj)).2,x5⟩
theorem HoldsR.but {R : Nat} {W W' : World} (h : But R W W') (z : Zero W R) {a : Option Addr} {l : List Rf} (hl : HoldsR W a l) (hn : ∀ x ∈ l,x.id ≠ 0) : HoldsR W' a l:=by
  intro i hi
  obtain ⟨b,off,e,hlt,hc⟩:=hl i hi
  refine ⟨b,off,e,by rw [h.size];exact hlt,fun j hj=>?_⟩
  obtain ⟨x0,x1⟩:=hc j hj
  have hne : b ≠ R:=z.ne x1 (hn _ (List.getElem_mem hj))
  exact ⟨(h.cell b _ hne).trans x0,(h.cell b _ hne).trans x1⟩
abbrev zero42 : Obj:=.cells #[.slice none 0 0,.slice none 0 0,.int .i64 0,.int .i64 0,.slice none 0 0,.slice none 0 0,.bool false] 36
abbrev zero40 : Obj:=.cells #[.slice none 0 0,.slice none 0 0,.bool false] 28
theorem zero42_zero {W : World} {R : Nat} (h : W.heap[R]? = some zero42) : Zero W R:=by
  intro off n hc
  rw [cell_of_row W _ _ _ _ _ h] at hc
  match off,hc with
  | 0,hc=>cases hc
  | 1,hc=>cases hc
  | 2,hc=>cases hc;rfl
  | 3,hc=>cases hc;rfl
  | 4,hc=>cases hc
  | 5,hc=>cases hc
  | 6,hc=>cases hc
  | k + 7,hc=>simp at hc
theorem shelf_not0 : ∀ x ∈ shelfL,x.id ≠ 0 ∧ ∀ i ∈ x.links,i ≠ 0:=by decide +kernel
theorem names_not0 : ∀ x ∈ namesL,x.id ≠ 0:=by
  intro x hx
  simp only [namesL,List.mem_cons,List.not_mem_nil,or_false] at hx
  rcases hx with rfl | rfl <;> decide
end

section
open Go.RowKit
set_option maxRecDepth 100000
end

section
open Go.RowKit
end
end Go.Proofs.YtehmlpkapjdhkaaGreatDoor
