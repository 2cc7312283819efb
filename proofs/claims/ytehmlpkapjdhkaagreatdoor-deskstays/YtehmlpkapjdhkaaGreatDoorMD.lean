import Derived.Test.YtehmlpkapjdhkaaGreatDoorMA
import Derived.Lib.Overlaps
import Derived.Lib.AppendZerosOnto
import Derived.Laws.CopyRow
import Derived.OrdersHeld
import Derived.Laws.OwnMore
namespace Go.Proofs.YtehmlpkapjdhkaaGreatDoor
section
open Go.RowKit
structure Ob where
  id : Int
  kind : Int
  links : List Int
  text : ByteArray
abbrev Ob.val (x : Ob) (sa : Option Addr) (sc : Nat) : Value:=.agg #[.int .i64 x.id,.int .i64 x.kind,.slice sa x.links.length sc,.string x.text]
def ObAt (w : World) (b o : Nat) (x : Ob) : Prop :=
  ∃ sa sc,w.cell? ⟨b,o,none⟩ = some (.int .i64 x.id) ∧ w.cell? ⟨b,o + 1,none⟩ = some (.int .i64 x.kind) ∧ w.cell? ⟨b,o + 2,none⟩ = some (.slice sa x.links.length sc) ∧ w.cell? ⟨b,o + 3,none⟩ = some (.string x.text) ∧ Holds w sa x.links ∧ x.links.length ≤ 9223372036854775807
def HoldsS (w : World) (a : Option Addr) (l : List Ob) : Prop :=
  ∀ i,i < l.length → ∃ b off,a = some ⟨b,off,none⟩ ∧ b < w.heap.size ∧ ∀ i (h : i < l.length),ObAt w b (off + i * 4) l[i]
theorem ObAt.below {w w' : World} {b o : Nat} {x : Ob} (h : ObAt w b o x) (hb : Below w.heap.size w w') (hlt : b < w.heap.size) : ObAt w' b o x:=by
  obtain ⟨sa,sc,h0,h1,h2,h3,h4,h5⟩:=h
  exact ⟨sa,sc,(hb.cell (p:=⟨b,o,none⟩) hlt).trans h0,(hb.cell (p:=⟨b,o + 1,none⟩) hlt).trans h1,(hb.cell (p:=⟨b,o + 2,none⟩) hlt).trans h2,(hb.cell (p:=⟨b,o + 3,none⟩) hlt).trans h3,h4.below hb,h5⟩
theorem HoldsS.below {w w' : World} {a : Option Addr} {l : List Ob} (h : HoldsS w a l) (hb : Below w.heap.size w w') : HoldsS w' a l:=by
  intro i hi
  obtain ⟨b,off,e,hlt,hc⟩:=h i hi
  exact ⟨b,off,e,Nat.lt_of_lt_of_le hlt hb.size,fun j hj=>(hc j hj).below hb hlt⟩
set_option maxHeartbeats 400000 in
theorem place1_any (x : Ob) (sa : Option Addr) (sc : Nat) (id : Int) (p : Nat) (w : World) (hp : w.cell? ⟨p,0,none⟩ = some (.int .i64 id)) (hlt : p < w.heap.size) :
    Calls Tryz.prog 140 #[x.val sa sc,.pointer (some ⟨p,0,none⟩)] w fun e w'=>e = .returned (.bool (x.id == id)) ∧ Below w.heap.size w w':=by
  go_enter Tryz.func140,Tryz.ntmps140
  go_wp2
  go_ret
  exact ⟨rfl,below_alloc _ _⟩
def placeI (l : List Ob) (id : Int) : Int:=match l.findIdx? (fun x=>x.id == id) with | some i=>(i : Int) | none=>-1
theorem findIdx_hit {l : List Ob} {id : Int} {k : Nat} (hk : k < l.length) (hno : ∀ j (h : j < l.length),j < k → (l[j].id == id) = false) (h : (l[k].id == id) = true) : placeI l id = k:=by
  have : l.findIdx? (fun x=>x.id == id) = some k:=by
    rw [List.findIdx?_eq_some_iff_getElem]
    exact ⟨hk,h,fun j hj=>by simpa using hno j (by omega) hj⟩
  simp [placeI,this]
theorem findIdx_miss {l : List Ob} {id : Int} (hno : ∀ j (h : j < l.length),(l[j].id == id) = false) : placeI l id = -1:=by
  have : l.findIdx? (fun x=>x.id == id) = none:=by
    rw [List.findIdx?_eq_none_iff]
    intro x hx
    obtain ⟨j,hj,rfl⟩:=List.getElem_of_mem hx
    exact hno j hj
  simp [placeI,this]
set_option maxHeartbeats 400000 in
theorem indexFunc_any (a : Option Addr) (c : Nat) (l : List Ob) (id : Int) (p : Nat) (w : World) (h : HoldsS w a l) (hl : l.length ≤ 9223372036854775807) (hp : w.cell? ⟨p,0,none⟩ = some (.int .i64 id)) (hlt : p < w.heap.size) :
    Calls Tryz.prog 139 #[.slice a l.length c,.func (.func 140) #[] #[.pointer (some ⟨p,0,none⟩)]] w fun e w'=>e = .returned (.int .i64 (placeI l id)) ∧ Below w.heap.size w w':=by
  go_enter Tryz.func139,Tryz.ntmps139
  go_wp2
  go_loopw [8] (fun i wr=>∃ k : Nat,i = .int .i64 k ∧ k ≤ l.length ∧ Below w.heap.size w wr ∧ Hid (∀ j (hj : j < l.length),j < k → (l[j].id == id) = false)) (fun i _=>l.length - (intOf i).toNat)
  case atStart=>exact ⟨0,rfl,Nat.zero_le _,Below.refl _ _,fun j _ h=>absurd h (Nat.not_lt_zero j)⟩
  case round =>
    obtain ⟨k,rfl,hk,hB,H⟩:=hrel
    by_cases hkl : k < l.length
    · obtain ⟨b,off,rfl,hb,hc⟩:=(h.below hB) k hkl
      obtain ⟨sa,sc,x0,x1,x2,x3,x4,x5⟩:=hc k hkl
      have hpr : wr.cell? ⟨p,0,none⟩ = some (.int .i64 id):=(hB.cell (p:=⟨p,0,none⟩) hlt).trans hp
      clear hc
      go_wp2_with fail
      refine (place1_any l[k] sa sc id p _ hpr (Nat.lt_of_lt_of_le hlt hB.size)).mono ?_
      rintro e w1 ⟨rfl,hb1⟩
      have hB1:=hB.trans (hb1.mono hB.size)
      clear hb1 x0 x1 x2 x3 x4 hpr
      by_cases hq : (l[k].id == id) = true
      · have HR : Hid (placeI l id = k):=findIdx_hit hkl H.out hq
        rw [hq]
        clear hq
        go_wp2
        go_ret
        exact ⟨ret_int HR.out.symm,hB1⟩
      · have hq' : (l[k].id == id) = false:=by simpa using hq
        have HN : Hid (∀ j (hj : j < l.length),j < k + 1 → (l[j].id == id) = false):=fun j hj hjk=>by
          rcases Nat.lt_or_ge j k with h1 | h1
          · exact H.out j hj h1
          · have : j = k:=by omega
            subst this
            exact hq'
        rw [hq']
        clear hq hq'
        go_wp2
        go_roundw
        case rel=>exact ⟨k + 1,by go_num,by omega,hB1,HN⟩
        case measure=>simp [intOf];omega
    · have HR : Hid (placeI l id = -1):=findIdx_miss (fun j hj=>H.out j hj (by omega))
      go_wp2
      go_ret
      exact ⟨ret_int HR.out.symm,hB⟩
set_option maxHeartbeats 400000 in
theorem place_any (a : Option Addr) (c : Nat) (l : List Ob) (id : Int) (w : World) (h : HoldsS w a l) (hl : l.length ≤ 9223372036854775807) :
    Calls Tryz.prog 81 #[.slice a l.length c,.int .i64 id] w fun e w'=>e = .returned (.int .i64 (placeI l id)) ∧ Below w.heap.size w w':=by
  have hmf : ∀ (fn : Fn) (first cap : Array Value) (w : World),(Instr.makeFunc fn first cap).run Tryz.prog w = .ok (.func fn first cap) w:=fun _ _ _ _=>rfl
  have hp : (w.alloc (.cells #[.int .i64 id] 3)).cell? ⟨w.heap.size,0,none⟩ = some (.int .i64 id):=by rw [World.cell?_alloc_at _ _ _ _ rfl];rfl
  go_enter Tryz.func81,Tryz.ntmps81
  go_wp2_with fail
  refine (indexFunc_any a c l id w.heap.size _ (h.below (below_alloc _ _)) hl hp (by simp)).mono ?_
  rintro e w1 ⟨rfl,hb⟩
  have hB:=(below_alloc _ _).trans (hb.mono (by simp))
  go_wp2
  go_ret
  exact ⟨rfl,hB⟩
def mayB (kind : Int) (i : Int) (to : Int) : Bool :=
  if kind = 2 then (to == 1 || to == 2) else if kind = 3 ∧ i = 0 then to == 2 else if kind = 3 then to == 3 else false
set_option maxHeartbeats 400000 in
theorem mayLink_any (kind i to : Int) (w : World) :
    Calls Tryz.prog 192 #[.int .i64 kind,.int .i64 i,.int .i64 to] w fun e w'=>e = .returned (.bool (mayB kind i to)) ∧ w' = w:=by
  go_enter Tryz.func192,Tryz.ntmps192
  go_wp2
  all_goals go_ret
  all_goals refine ⟨ret_bool ?_,rfl⟩
  all_goals simp_all [mayB]
end

section
open Go.RowKit
def kindAt (l : List Ob) (x : Int) : Int:=match l[(placeI l x).toNat]? with | some o=>o.kind | none=>0
def linkS (l : List Ob) (kind : Int) : Nat → List Int → Int
  | _,[]=>0
  | i,x :: xs=>if placeI l x < 0 then 5 else if mayB kind i (kindAt l x) = false then 7 else linkS l kind (i + 1) xs
theorem placeI_cases (l : List Ob) (x : Int) : placeI l x = -1 ∨ ∃ i : Nat,placeI l x = i ∧ i < l.length:=by
  unfold placeI
  cases h : l.findIdx? (fun o=>o.id == x) with
  | none=>exact Or.inl rfl
  | some i =>
    right
    rw [List.findIdx?_eq_some_iff_getElem] at h
    obtain ⟨hi,_⟩:=h
    exact ⟨i,rfl,hi⟩
theorem ls_none {l : List Ob} {kind : Int} {L : List Int} {k : Nat} {r : Int} (hlt : k < L.length) (H : r = linkS l kind k (L.drop k)) (h : placeI l L[k] < 0) : r = 5:=by
  rw [H,drop_at hlt,linkS,if_pos h]
theorem ls_kind {l : List Ob} {kind : Int} {L : List Int} {k : Nat} {r : Int} (hlt : k < L.length) (H : r = linkS l kind k (L.drop k)) (h : ¬ placeI l L[k] < 0) (h2 : mayB kind k (kindAt l L[k]) = false) : r = 7:=by
  rw [H,drop_at hlt,linkS,if_neg h,if_pos h2]
theorem ls_next {l : List Ob} {kind : Int} {L : List Int} {k : Nat} {r : Int} (hlt : k < L.length) (H : r = linkS l kind k (L.drop k)) (h : ¬ placeI l L[k] < 0) (h2 : mayB kind k (kindAt l L[k]) = true) : r = linkS l kind (k + 1) (L.drop (k + 1)):=by
  rw [H,drop_at hlt,linkS,if_neg h,if_neg (by simp [h2])]
theorem ls_end {l : List Ob} {kind : Int} {L : List Int} {k : Nat} {r : Int} (hlt : ¬ k < L.length) (H : r = linkS l kind k (L.drop k)) : r = 0:=by
  rw [H,List.drop_of_length_le (by omega)];rfl
set_option maxHeartbeats 800000 in
theorem checkLinksS_any (a : Option Addr) (c : Nat) (l : List Ob) (x : Ob) (sa : Option Addr) (sc : Nat) (w : World) (h : HoldsS w a l) (hl : l.length ≤ 9223372036854775807) (hx : Holds w sa x.links) (hxl : x.links.length ≤ 9223372036854775807) :
    Calls Tryz.prog 138 #[.slice a l.length c,x.val sa sc] w fun e w'=>e = .returned (.int .i64 (linkS l x.kind 0 x.links)) ∧ Below w.heap.size w w':=by
  have C:=Cells4.new w (.int .i64 x.id) (.int .i64 x.kind) (.slice sa x.links.length sc) (.string x.text) 58
  have hB0:=below_alloc w (.cells #[.int .i64 x.id,.int .i64 x.kind,.slice sa x.links.length sc,.string x.text] 58)
  go_enter Tryz.func138,Tryz.ntmps138
  go_wp2
  generalize w.alloc (.cells #[.int .i64 x.id,.int .i64 x.kind,.slice sa x.links.length sc,.string x.text] 58) = W at *
  go_loopw [11] (fun i wr=>∃ k : Nat,i = .int .i64 k ∧ k ≤ x.links.length ∧ Below W.heap.size W wr ∧ Hid (linkS l x.kind 0 x.links = linkS l x.kind k (x.links.drop k))) (fun i _=>x.links.length - (intOf i).toNat)
  case atStart=>exact ⟨0,rfl,Nat.zero_le _,Below.refl _ _,rfl⟩
  case round =>
    obtain ⟨k,rfl,hk,hB,H⟩:=hrel
    have hBw:=hB0.trans (hB.mono hB0.size)
    by_cases hlt : k < x.links.length
    · obtain ⟨b1,o1,rfl,hb1,hc1⟩:=(hx.below hBw) k hlt
      have hk1 : wr.cell? ⟨b1,o1 + k,none⟩ = some (.int .i64 x.links[k]):=by have:=hc1 k hlt;simpa [hlt] using this
      clear hc1
      go_wp2_with fail
      refine (place_any a c l x.links[k] _ (h.below hBw) hl).mono ?_
      rintro e w1 ⟨rfl,hb⟩
      have hB1:=hB.trans (hb.mono hB.size)
      have hBw1:=hBw.trans (hb.mono hBw.size)
      have q1 : w1.cell? ⟨w.heap.size,1,none⟩ = some (.int .i64 x.kind):=(hB1.cell (p:=⟨w.heap.size,1,none⟩) C.lt).trans C.c1
      clear hb hk1 hb1
      rcases placeI_cases l x.links[k] with hp | ⟨i,hp,hi⟩
      · have HR : Hid (linkS l x.kind 0 x.links = 5):=ls_none hlt H.out (by omega)
        rw [hp]
        clear hp
        go_wp2
        go_ret
        exact ⟨ret_int HR.out.symm,hBw1⟩
      · have HP : Hid (placeI l x.links[k] = i):=hp
        obtain ⟨b2,o2,rfl,hb2,hc2⟩:=(h.below hBw1) i hi
        obtain ⟨ta,tc,y0,y1,y2,y3,y4,y5⟩:=hc2 i hi
        have hka : kindAt l x.links[k] = l[i].kind:=by unfold kindAt;rw [hp];simp [hi]
        have HK : Hid (kindAt l x.links[k] = l[i].kind):=hka
        have hi' : (i : Int) < (l.length : Int):=by omega
        rw [hp]
        clear hp hc2 hka
        by_cases hm : mayB x.kind k l[i].kind = true
        · have HN : Hid (linkS l x.kind 0 x.links = linkS l x.kind (k + 1) (x.links.drop (k + 1))):=ls_next hlt H.out (by have:=HP.out;omega) (by rw [HK.out];exact hm)
          go_wp2
          go_quiet ((go_at_call 192;exact Calls.quiet_of_same (mayLink_any _ _ _ _)))
          go_wp2
          go_roundw
          case rel=>exact ⟨k + 1,by go_num,by omega,below_drewN hB1 _,HN⟩
          case measure=>simp [intOf];omega
        · have hm' : mayB x.kind k l[i].kind = false:=by simpa using hm
          have HR : Hid (linkS l x.kind 0 x.links = 7):=ls_kind hlt H.out (by have:=HP.out;omega) (by rw [HK.out];exact hm')
          clear hm
          go_wp2
          go_quiet ((go_at_call 192;exact Calls.quiet_of_same (mayLink_any _ _ _ _)))
          go_wp2
          go_ret
          exact ⟨ret_int HR.out.symm,below_drewN hBw1 _⟩
    · have HR : Hid (linkS l x.kind 0 x.links = 0):=ls_end hlt H.out
      go_wp2
      go_ret
      exact ⟨ret_int HR.out.symm,hBw⟩
end

section
open Go.RowKit
abbrev Ob.err (x : Ob) : Int:=checkE x.id x.kind x.links x.text.size
def chk1 (l : List Ob) (last : Int) (x : Ob) : Int:=if x.err ≠ 0 then x.err else if x.id ≤ last then 4 else linkS l x.kind 0 x.links
def newLast (x : Ob) (last : Int) : Int:=if x.err = 0 ∧ last < x.id then x.id else last
def eachC (l : List Ob) : Int → List Ob → Int
  | _,[]=>0
  | last,x :: xs=>if chk1 l last x ≠ 0 then chk1 l last x else eachC l x.id xs
def checkS (l : List Ob) : Int:=if 40 < l.length then 2 else eachC l 0 l
theorem Stays.cell {p : Nat} {w w' : World} (h : Stays p none w w') {q o : Nat} (hq : q < w.heap.size) (hne : q ≠ p) : w'.cell? ⟨q,o,none⟩ = w.cell? ⟨q,o,none⟩ :=
  World.cell?_of_block (a:=⟨q,o,none⟩) (h.block q hq hne (by simp))
theorem Stays.of_below {p : Nat} {w w' : World} (h : Below w.heap.size w w') : Stays p none w w':=⟨h.os,h.tape,h.output,h.size,fun k hk _ _=>h.block k hk⟩
set_option maxHeartbeats 800000 in
theorem check1_any (a : Option Addr) (c : Nat) (l : List Ob) (x : Ob) (sa : Option Addr) (sc : Nat) (last : Int) (p q : Nat) (w0 w : World)
    (h : HoldsS w0 a l) (hl : l.length ≤ 9223372036854775807) (hx : Holds w0 sa x.links) (hxl : x.links.length ≤ 9223372036854775807) (hB : Below w0.heap.size w0 w)
    (hp0 : w0.heap.size ≤ p) (hp : p < w.heap.size) (hpc : w.cell? ⟨p,0,none⟩ = some (.int .i64 last)) (hpf : w.frozen? ⟨p,0,none⟩ = false)
    (hq : q < w.heap.size) (hqp : q ≠ p) (hqc : w.cell? ⟨q,0,none⟩ = some (.slice a l.length c)) :
    Calls Tryz.prog 137 #[x.val sa sc,.pointer (some ⟨p,0,none⟩),.pointer (some ⟨q,0,none⟩)] w fun e w'=>e = .returned (.int .i64 (chk1 l last x)) ∧ Stays p none w w' ∧ w'.frozen? ⟨p,0,none⟩ = false ∧
      w'.cell? ⟨p,0,none⟩ = some (.int .i64 (newLast x last)):=by
  have C:=Cells4.new w (.int .i64 x.id) (.int .i64 x.kind) (.slice sa x.links.length sc) (.string x.text) 58
  have hB0:=below_alloc w (.cells #[.int .i64 x.id,.int .i64 x.kind,.slice sa x.links.length sc,.string x.text] 58)
  go_enter Tryz.func137,Tryz.ntmps137
  go_wp2_with fail
  generalize w.alloc (.cells #[.int .i64 x.id,.int .i64 x.kind,.slice sa x.links.length sc,.string x.text] 58) = W at *
  refine (check_any x.id x.kind sa sc x.links x.text _ (hx.below (hB.trans (hB0.mono hB.size))) hxl).mono ?_
  rintro e w1 ⟨rfl,hb1⟩
  have hS1 : Stays p none w w1:=Stays.of_below (hB0.trans (hb1.mono hB0.size))
  have hp1 : w1.cell? ⟨p,0,none⟩ = some (.int .i64 last):=(hb1.cell (p:=⟨p,0,none⟩) (Nat.lt_of_lt_of_le hp hB0.size)).trans ((hB0.cell (p:=⟨p,0,none⟩) hp).trans hpc)
  have hf1 : w1.frozen? ⟨p,0,none⟩ = false:=(hb1.frozen (p:=⟨p,0,none⟩) (Nat.lt_of_lt_of_le hp hB0.size)).trans ((hB0.frozen (p:=⟨p,0,none⟩) hp).trans hpf)
  have hq1 : w1.cell? ⟨q,0,none⟩ = some (.slice a l.length c):=(hS1.cell hq hqp).trans hqc
  have C1:=C.below hb1 C.lt
  have hBw1 : Below w0.heap.size w0 w1:=hB.trans ((hB0.trans (hb1.mono hB0.size)).mono hB.size)
  have hpl1 : p < w1.heap.size:=Nat.lt_of_lt_of_le hp hS1.size
  clear hb1 hB0 C
  by_cases he : x.err = 0
  · rw [show checkE x.id x.kind x.links x.text.size = 0 from he]
    obtain ⟨c0,c1,c2,c3,_,_,_,_,cl⟩:=C1
    have HE : Hid (x.err = 0):=he
    clear he
    by_cases hle : x.id ≤ last
    · have HR : Hid (chk1 l last x = 4 ∧ (newLast x last) = last):=⟨by rw [chk1,if_neg (by rw [HE.out];simp),if_pos hle],by rw [newLast,if_neg (by omega)]⟩
      go_wp2
      go_ret
      exact ⟨ret_int HR.out.1.symm,hS1,hf1,by rw [HR.out.2];exact hp1⟩
    · have hlt : last < x.id:=by omega
      have HR : Hid (chk1 l last x = linkS l x.kind 0 x.links ∧ (newLast x last) = x.id):=⟨by rw [chk1,if_neg (by rw [HE.out];simp),if_neg hle],by rw [newLast,if_pos ⟨HE.out,hlt⟩]⟩
      have hS2:=hS1.setCell 0 (.int .i64 x.id)
      have hB2 : Below w0.heap.size w0 (w1.setCell ⟨p,0,none⟩ (.int .i64 x.id)):=hBw1.setCell (p:=⟨p,0,none⟩) hp0 _
      have hc2 : (w1.setCell ⟨p,0,none⟩ (.int .i64 x.id)).cell? ⟨p,0,none⟩ = some (.int .i64 x.id):=World.cell?_setCell_same _ _ _ hp1
      have hf2 : (w1.setCell ⟨p,0,none⟩ (.int .i64 x.id)).frozen? ⟨p,0,none⟩ = false:=(World.frozen?_setCell _ _ _ _).trans hf1
      have hne1 : ¬ w.heap.size = p:=by omega
      have hne2 : ¬ p = w.heap.size:=by omega
      have hne3 : ¬ q = p:=hqp
      have hne4 : ¬ p = q:=fun e=>hqp e.symm
      go_wp2_with fail
      refine (checkLinksS_any a c l x sa sc _ (h.below hB2) hl (hx.below hB2) hxl).mono ?_
      rintro e w2 ⟨rfl,hb2⟩
      have hpl2 : p < (w1.setCell ⟨p,0,none⟩ (.int .i64 x.id)).heap.size:=by simpa [World.setCell] using hpl1
      have hS3:=hS2.trans (Stays.of_below hb2)
      have hc3:=(hb2.cell (p:=⟨p,0,none⟩) hpl2).trans hc2
      have hf3:=(hb2.frozen (p:=⟨p,0,none⟩) hpl2).trans hf2
      clear hb2 hc2 hf2 hS2 hB2 hpl2 hpc hpf hp1 hf1
      go_wp2
      go_ret
      exact ⟨ret_int HR.out.1.symm,hS3,hf3,by rw [HR.out.2];exact hc3⟩
  · have he' : (checkE x.id x.kind x.links x.text.size != 0) = true:=by simpa using he
    have HR : Hid (chk1 l last x = x.err ∧ (newLast x last) = last):=⟨by rw [chk1,if_pos he],by rw [newLast,if_neg (fun e=>he e.1)]⟩
    go_wp2
    go_ret
    exact ⟨ret_int HR.out.1.symm,hS1,hf1,by rw [HR.out.2];exact hp1⟩
theorem ec_bad {l : List Ob} {m : List Ob} {k : Nat} {last r : Int} (hk : k < m.length) (H : r = eachC l last (m.drop k)) (h : chk1 l last m[k] ≠ 0) : r = chk1 l last m[k]:=by
  rw [H,List.drop_eq_getElem_cons hk,eachC,if_pos h]
theorem chk1_zero {l : List Ob} {last : Int} {x : Ob} (h : chk1 l last x = 0) : x.err = 0 ∧ last < x.id ∧ linkS l x.kind 0 x.links = 0:=by
  unfold chk1 at h
  split at h
  · omega
  · split at h
    · omega
    · exact ⟨by omega,by omega,h⟩
theorem ec_next {l : List Ob} {m : List Ob} {k : Nat} {last r : Int} (hk : k < m.length) (H : r = eachC l last (m.drop k)) (h : chk1 l last m[k] = 0) : r = eachC l (newLast m[k] last) (m.drop (k + 1)):=by
  obtain ⟨h1,h2,_⟩:=chk1_zero h
  rw [H,List.drop_eq_getElem_cons hk,eachC,if_neg (by omega),newLast,if_pos ⟨h1,h2⟩]
theorem ec_end {l : List Ob} {m : List Ob} {k : Nat} {last r : Int} (hk : ¬ k < m.length) (H : r = eachC l last (m.drop k)) : r = 0:=by
  rw [H,List.drop_of_length_le (by omega)];rfl
set_option maxHeartbeats 800000 in
theorem each_check (a : Option Addr) (c : Nat) (l : List Ob) (p q : Nat) (w0 w : World)
    (h : HoldsS w0 a l) (hl : l.length ≤ 9223372036854775807) (hB : Below w0.heap.size w0 w)
    (hp0 : w0.heap.size ≤ p) (hp : p < w.heap.size) (hpc : w.cell? ⟨p,0,none⟩ = some (.int .i64 0)) (hpf : w.frozen? ⟨p,0,none⟩ = false)
    (hq : q < w.heap.size) (hqp : q ≠ p) (hqc : w.cell? ⟨q,0,none⟩ = some (.slice a l.length c)) :
    Calls Tryz.prog 133 #[.slice a l.length c,.func (.func 137) #[] #[.pointer (some ⟨p,0,none⟩),.pointer (some ⟨q,0,none⟩)]] w fun e w'=>e = .returned (.int .i64 (eachC l 0 l)) ∧ Below w0.heap.size w0 w':=by
  go_enter Tryz.func133,Tryz.ntmps133
  go_wp2
  go_loopw [10] (fun i wr=>∃ (k : Nat) (last : Int),i = .int .i64 k ∧ k ≤ l.length ∧ Stays p none w wr ∧ wr.cell? ⟨p,0,none⟩ = some (.int .i64 last) ∧ wr.frozen? ⟨p,0,none⟩ = false ∧ Hid (eachC l 0 l = eachC l last (l.drop k))) (fun i _=>l.length - (intOf i).toNat)
  case atStart=>exact ⟨0,0,rfl,Nat.zero_le _,Stays.refl _ _ _,hpc,hpf,rfl⟩
  case round =>
    obtain ⟨k,last,rfl,hk,hS,hcl,hfl,H⟩:=hrel
    have hBr : Below w0.heap.size w0 wr:=hB.trans (hS.below hB.size hp0 (by simp))
    have hqr : wr.cell? ⟨q,0,none⟩ = some (.slice a l.length c):=(hS.cell hq hqp).trans hqc
    by_cases hlt : k < l.length
    · obtain ⟨b,off,rfl,hb,hc⟩:=h k hlt
      have hO:=hc k hlt
      obtain ⟨sa,sc,x0,x1,x2,x3,x4,x5⟩:=hO
      have y0:=(hBr.cell (p:=⟨b,off + k * 4,none⟩) hb).trans x0
      have y1:=(hBr.cell (p:=⟨b,off + k * 4 + 1,none⟩) hb).trans x1
      have y2:=(hBr.cell (p:=⟨b,off + k * 4 + 2,none⟩) hb).trans x2
      have y3:=(hBr.cell (p:=⟨b,off + k * 4 + 3,none⟩) hb).trans x3
      clear hc x0 x1 x2 x3
      have hA:=below_alloc wr (.cells #[.int .i64 l[k].id,.int .i64 l[k].kind,.slice sa l[k].links.length sc,.string l[k].text] 58)
      go_wp2_with fail
      refine (check1_any _ c l l[k] sa sc last p q w0 _ h hl x4 x5 (hBr.trans (hA.mono hBr.size)) hp0 ?k1 ?k2 ?k3 ?k4 hqp ?k5).mono ?_
      case k1=>exact Nat.lt_of_lt_of_le hp (Nat.le_trans hS.size hA.size)
      case k2=>exact (hA.cell (p:=⟨p,0,none⟩) (Nat.lt_of_lt_of_le hp hS.size)).trans hcl
      case k3=>exact (hA.frozen (p:=⟨p,0,none⟩) (Nat.lt_of_lt_of_le hp hS.size)).trans hfl
      case k4=>exact Nat.lt_of_lt_of_le hq (Nat.le_trans hS.size hA.size)
      case k5=>exact (hA.cell (p:=⟨q,0,none⟩) (Nat.lt_of_lt_of_le hq hS.size)).trans hqr
      rintro e w1 ⟨rfl,hS1,hf1,hc1⟩
      have hS2:=(hS.trans (Stays.of_below hA)).trans hS1
      clear hS1 hA y0 y1 y2 y3 hqr hcl hfl
      by_cases hz : chk1 l last l[k] = 0
      · have HN : Hid (eachC l 0 l = eachC l (newLast l[k] last) (l.drop (k + 1))):=ec_next hlt H.out hz
        rw [hz]
        clear hz
        go_wp2
        go_roundw
        case rel=>exact ⟨k + 1,_,by go_num,by omega,hS2,hc1,hf1,HN⟩
        case measure=>simp [intOf];omega
      · have HR : Hid (eachC l 0 l = chk1 l last l[k]):=ec_bad hlt H.out hz
        have hz' : (chk1 l last l[k] != 0) = true:=by simpa using hz
        clear hz
        go_wp2
        go_ret
        exact ⟨ret_int HR.out.symm,hB.trans (hS2.below hB.size hp0 (by simp))⟩
    · have HR : Hid (eachC l 0 l = 0):=ec_end hlt H.out
      go_wp2
      go_ret
      exact ⟨ret_int HR.out.symm,hBr⟩
set_option maxHeartbeats 800000 in
theorem checkS_any (a : Option Addr) (c : Nat) (l : List Ob) (w : World) (h : HoldsS w a l) (hl : l.length ≤ 9223372036854775807) :
    Calls Tryz.prog 78 #[.slice a l.length c] w fun e w'=>e = .returned (.int .i64 (checkS l)) ∧ Below w.heap.size w w':=by
  have hmf : ∀ (fn : Fn) (first cap : Array Value) (w : World),(Instr.makeFunc fn first cap).run Tryz.prog w = .ok (.func fn first cap) w:=fun _ _ _ _=>rfl
  have hB2:=below_alloc2 w (.cells #[.slice a l.length c] 25) (.cells #[.int .i64 0] 3)
  by_cases hm : (40 : Int) < (l.length : Int)
  · go_enter Tryz.func78,Tryz.ntmps78
    go_wp2
    go_ret
    exact ⟨ret_int (by rw [checkS,if_pos (by omega)]),below_alloc _ _⟩
  · have HR : Hid (checkS l = eachC l 0 l):=by unfold Hid;rw [checkS,if_neg (by omega)]
    go_enter Tryz.func78,Tryz.ntmps78
    go_wp2_with fail
    refine (each_check a c l (w.heap.size + 1) w.heap.size w _ h hl hB2 (Nat.le_succ _) ?k1 ?k2 ?k3 ?k4 (by omega) ?k5).mono ?_
    case k1=>simp
    case k2=>simp [go_sem]
    case k3=>simp [go_sem]
    case k4=>simp;omega
    case k5=>simp [go_sem]
    rintro e w1 ⟨rfl,hb⟩
    go_wp2
    go_ret
    exact ⟨ret_int HR.out.symm,hb⟩
end

section
open Go.RowKit
theorem wpList_append_ints {ops : Array Oper} {rest : List Oper} {o : Oper} {a : Act} {Q : Exit → Act → World → Prop} (w : World) (hgd : o.guard = none) (s x : Operand)
    (ho : o.op = .call { callee:=.builtin .append,args:=#[s,x],argTypes:=#[45,45] })
    (base n : Nat) (v : Value) (xs : List Int) (hs : a.eval s = v) (hown : w.ownsRow base 3 1 v n (xs.map (Value.int .i64)))
    (ad : Option Addr) (m c : Nat) (L : List Int) (hm : L.length = m) (hx : a.eval x = .slice ad m c) (hh : Holds w ad L) (hn : n + m ≤ 1000) (hbase : base ≤ w.heap.size)
    (h : ∀ g' N cap' w',N = n + m → w'.ownsRow base 3 1 (.slice g' N cap') N ((xs ++ L).map (Value.int .i64)) → w.grownBy w' v.ownBlock → wpList Tryz.prog ops Q rest (a.put o.dst (.slice g' N cap')) w') :
    wpList Tryz.prog ops Q (o :: rest) a w:=by
  refine wpList_plain hgd fun K hK=>?_
  obtain ⟨g',N,cap',w',hN,hr,h1,h2⟩:=run_append_ints w o.type base n v xs hown ad m c L hm hh hn hbase
  unfold Oper.wp execOp
  simp only [ho,resolve,invoke,builtin,Sem.run_bind,Sem.run_pure,Result.andThen_ok,List.map_toArray,List.map_cons,List.map_nil,hs,hx,hr]
  exact hK _ _ (h g' N cap' w' hN h1 h2)
theorem Cells4.two (w : World) (o : Obj) (x0 x1 x2 x3 : Value) (e : Nat) : Cells4 (w.heap.size + 1) x0 x1 x2 x3 ((w.alloc o).alloc (.cells #[x0,x1,x2,x3] e)):=by
  have:=Cells4.new (w.alloc o) x0 x1 x2 x3 e
  simpa using this
theorem own_cap {w : World} {base n cap : Nat} {g : Option Addr} {xs : List Value} (h : w.ownsRow base 3 1 (.slice g n cap) n xs) : n ≤ cap:=by
  rcases h.2 with ⟨e,rfl⟩ | ⟨g',cap',cur,e,_,_,hn,_⟩
  · omega
  · cases e;exact hn
set_option maxHeartbeats 400000 in
theorem copyOf_any (x : Ob) (sa : Option Addr) (sc : Nat) (w : World) (hx : Holds w sa x.links) (hl : x.links.length ≤ 1000) :
    Calls Tryz.prog 82 #[x.val sa sc] w fun e w'=>∃ ta tc,e = .returned (x.val ta tc) ∧ Holds w' ta x.links ∧ Below w.heap.size w w' ∧ (∀ b off,ta = some ⟨b,off,none⟩ → w.heap.size ≤ b) ∧ x.links.length ≤ tc:=by
  have hB2:=below_alloc2 w (.cells #[.int .i64 x.id,.int .i64 x.kind,.slice sa x.links.length sc,.string x.text] 58) (.cells #[.int .i64 0,.int .i64 0,.slice none 0 0,.string { data:=#[] }] 58)
  have hx2:=hx.below hB2
  have C1:=(Cells4.new w (.int .i64 x.id) (.int .i64 x.kind) (.slice sa x.links.length sc) (.string x.text) 58).below (below_alloc _ (.cells #[.int .i64 0,.int .i64 0,.slice none 0 0,.string { data:=#[] }] 58)) (by simp)
  have C2:=Cells4.two w (.cells #[.int .i64 x.id,.int .i64 x.kind,.slice sa x.links.length sc,.string x.text] 58) (.int .i64 0) (.int .i64 0) (.slice none 0 0) (.string { data:=#[] }) 58
  have hsz : w.heap.size + 2 ≤ ((w.alloc (.cells #[.int .i64 x.id,.int .i64 x.kind,.slice sa x.links.length sc,.string x.text] 58)).alloc (.cells #[.int .i64 0,.int .i64 0,.slice none 0 0,.string { data:=#[] }] 58)).heap.size:=by simp
  go_enter Tryz.func82,Tryz.ntmps82
  go_wp2_with (at_builtin;refine wpList_append_ints _ rfl (.const (.slice none 0 0)) (.tmp 4) rfl (w.heap.size + 2) 0 (.slice none 0 0) [] rfl (World.ownsRow_nil _ _ _ _) sa x.links.length sc x.links rfl rfl hx2 (by omega) hsz ?_)
  intro g N cap w1 hN ho hg
  generalize (w.alloc (.cells #[.int .i64 x.id,.int .i64 x.kind,.slice sa x.links.length sc,.string x.text] 58)).alloc (.cells #[.int .i64 0,.int .i64 0,.slice none 0 0,.string { data:=#[] }] 58) = W at *
  have hN' : N = x.links.length:=by omega
  subst hN'
  have hBW : Below W.heap.size W w1:=⟨hg.os,hg.tape,hg.output,hg.size,fun k hk=>hg.block k hk (by simp [Value.ownBlock])⟩
  have D1:=C1.below hBW C1.lt
  have D2:=C2.below hBW C2.lt
  have hB1:=hB2.trans (hBW.mono hB2.size)
  have hcap:=own_cap ho
  obtain ⟨g',cap',e',hh,hab⟩:=own_shape (L:=[] ++ x.links) ho (by simp)
  cases e'
  rw [List.nil_append] at hh
  obtain ⟨c0,c1,c2,c3,f0,f1,f2,f3,cl⟩:=D1
  obtain ⟨d0,d1,d2,d3,e0,e1,e2,e3,dl⟩:=D2
  clear ho hg hBW C1 C2 hN
  have hge : ∀ b off,g = some ⟨b,off,none⟩ → w.heap.size + 2 ≤ b:=hab
  have hH:=holds_set4 (B:=w.heap.size + 1) (x0:=.int .i64 x.id) (x1:=.int .i64 x.kind) (x2:=.slice g x.links.length cap) (x3:=.string x.text) (hh.set (B:=w.heap.size) (i:=2) (fun b off e=>by have:=hge b off e;omega) (.slice g x.links.length cap)) (fun b off e _=>by have:=hge b off e;omega)
  have hBB:=below_set4 (B:=w.heap.size + 1) (x0:=.int .i64 x.id) (x1:=.int .i64 x.kind) (x2:=.slice g x.links.length cap) (x3:=.string x.text) (hB1.setCell (p:=⟨w.heap.size,2,none⟩) (Nat.le_refl _) (.slice g x.links.length cap)) (Nat.le_succ _)
  have HH : Hid (_ ∧ _ ∧ ∀ b off,g = some ⟨b,off,none⟩ → w.heap.size ≤ b):=⟨hH,hBB,fun b off e=>by have:=hge b off e;omega⟩
  clear hH hBB hge hab hh hB1
  go_wp2
  refine bodyPost_ret (v:=x.val g cap) (by simp [results,Tryz.results82,go_sem,d0,d1,d2,d3]) rfl ?_
  exact ⟨g,cap,rfl,HH.out.1,HH.out.2.1,HH.out.2.2,hcap⟩
theorem eachC_all {l : List Ob} : ∀ (m : List Ob) (last : Int),eachC l last m = 0 → ∀ x ∈ m,x.err = 0 ∧ last < x.id ∧ linkS l x.kind 0 x.links = 0:=by
  intro m
  induction m with
  | nil=>intro _ _ x hx;cases hx
  | cons y ys ih =>
    intro last h x hx
    rw [eachC] at h
    split at h
    · omega
    · rename_i h0
      have h1:=chk1_zero (Decidable.not_not.1 h0)
      rcases List.mem_cons.1 hx with rfl | hx
      · exact h1
      · have h2:=ih _ h x hx
        exact ⟨h2.1,by omega,h2.2.2⟩
theorem checkS_zero {l : List Ob} (h : checkS l = 0) : l.length ≤ 40 ∧ eachC l 0 l = 0:=by
  unfold checkS at h
  split at h
  · omega
  · exact ⟨by omega,h⟩
theorem checkS_err {l : List Ob} (h : checkS l = 0) : ∀ x ∈ l,x.err = 0:=fun x hx=>(eachC_all l 0 (checkS_zero h).2 x hx).1
set_option maxHeartbeats 400000 in
theorem find_err (a : Option Addr) (c : Nat) (l : List Ob) (id : Int) (w : World) (h : HoldsS w a l) (hl : l.length ≤ 9223372036854775807) (he : checkS l ≠ 0) :
    Calls Tryz.prog 29 #[.slice a l.length c,.int .i64 id] w fun e w'=>e = .returned (.tuple #[zeroO,.int .i64 (checkS l)]) ∧ Below w.heap.size w w':=by
  have he' : (checkS l != 0) = true:=by simpa using he
  have C:=Cells4.new w (.int .i64 0) (.int .i64 0) (.slice none 0 0) (.string { data:=#[] }) 58
  have hB:=below_alloc w (.cells #[.int .i64 0,.int .i64 0,.slice none 0 0,.string { data:=#[] }] 58)
  go_enter Tryz.func29,Tryz.ntmps29
  go_wp2_with fail
  refine (checkS_any a c l _ (h.below hB) hl).mono ?_
  rintro e w1 ⟨rfl,hb⟩
  have C1:=C.below hb C.lt
  have hB1:=below_set4 (B:=w.heap.size) (x0:=.int .i64 0) (x1:=.int .i64 0) (x2:=.slice none 0 0) (x3:=.string { data:=#[] }) (hB.trans (hb.mono hB.size)) (Nat.le_refl _)
  obtain ⟨c0,c1,c2,c3,f0,f1,f2,f3,cl⟩:=C1
  clear hb C hB
  go_wp2
  refine bodyPost_ret (v:=.tuple #[zeroO,.int .i64 (checkS l)]) (by simp [results,Tryz.results29,go_sem,c0,c1,c2,c3]) rfl ?_
  exact ⟨rfl,hB1⟩
set_option maxHeartbeats 400000 in
theorem find_none (a : Option Addr) (c : Nat) (l : List Ob) (id : Int) (w : World) (h : HoldsS w a l) (he : checkS l = 0) (hp : placeI l id = -1) :
    Calls Tryz.prog 29 #[.slice a l.length c,.int .i64 id] w fun e w'=>e = .returned (.tuple #[zeroO,.int .i64 5]) ∧ Below w.heap.size w w':=by
  have hl : l.length ≤ 9223372036854775807:=by have:=(checkS_zero he).1;omega
  have HE : Hid (checkS l = 0):=he
  have HP : Hid (placeI l id = -1):=hp
  have C:=Cells4.new w (.int .i64 0) (.int .i64 0) (.slice none 0 0) (.string { data:=#[] }) 58
  have hB:=below_alloc w (.cells #[.int .i64 0,.int .i64 0,.slice none 0 0,.string { data:=#[] }] 58)
  clear he hp
  go_enter Tryz.func29,Tryz.ntmps29
  go_wp2_with fail
  refine (checkS_any a c l _ (h.below hB) hl).mono ?_
  rintro e w1 ⟨rfl,hb⟩
  rw [HE.out]
  have C1:=C.below hb C.lt
  have hB1:=hB.trans (hb.mono hB.size)
  clear hb C hB
  go_wp2_with fail
  refine (place_any a c l id _ (h.below hB1) hl).mono ?_
  rintro e w2 ⟨rfl,hb⟩
  rw [HP.out]
  have C2:=C1.below hb C1.lt
  have hB2:=below_set4 (B:=w.heap.size) (x0:=.int .i64 0) (x1:=.int .i64 0) (x2:=.slice none 0 0) (x3:=.string { data:=#[] }) (hB1.trans (hb.mono hB1.size)) (Nat.le_refl _)
  obtain ⟨c0,c1,c2,c3,f0,f1,f2,f3,cl⟩:=C2
  clear hb C1 hB1
  go_wp2
  refine bodyPost_ret (v:=.tuple #[zeroO,.int .i64 5]) (by simp [results,Tryz.results29,go_sem,c0,c1,c2,c3]) rfl ?_
  exact ⟨rfl,hB2⟩
set_option maxHeartbeats 400000 in
theorem find_ok (a : Option Addr) (c : Nat) (l : List Ob) (id : Int) (i : Nat) (w : World) (h : HoldsS w a l) (he : checkS l = 0) (hp : placeI l id = i) (hi : i < l.length) :
    Calls Tryz.prog 29 #[.slice a l.length c,.int .i64 id] w fun e w'=>∃ ta tc,e = .returned (.tuple #[l[i].val ta tc,.int .i64 0]) ∧ Holds w' ta l[i].links ∧ Below w.heap.size w w':=by
  have hl : l.length ≤ 9223372036854775807:=by have:=(checkS_zero he).1;omega
  have hl4 : l[i].links.length ≤ 4:=(checkE_zero (checkS_err he l[i] (List.getElem_mem hi))).2.2.1
  have HE : Hid (checkS l = 0):=he
  have HP : Hid (placeI l id = i):=hp
  have C:=Cells4.new w (.int .i64 0) (.int .i64 0) (.slice none 0 0) (.string { data:=#[] }) 58
  have hB:=below_alloc w (.cells #[.int .i64 0,.int .i64 0,.slice none 0 0,.string { data:=#[] }] 58)
  clear he hp
  go_enter Tryz.func29,Tryz.ntmps29
  go_wp2_with fail
  refine (checkS_any a c l _ (h.below hB) hl).mono ?_
  rintro e w1 ⟨rfl,hb⟩
  rw [HE.out]
  have C1:=C.below hb C.lt
  have hB1:=hB.trans (hb.mono hB.size)
  clear hb C hB
  go_wp2_with fail
  refine (place_any a c l id _ (h.below hB1) hl).mono ?_
  rintro e w2 ⟨rfl,hb⟩
  rw [HP.out]
  have C2:=C1.below hb C1.lt
  have hB2:=hB1.trans (hb.mono hB1.size)
  clear hb C1 hB1
  obtain ⟨b,off,rfl,hbl,hc⟩:=(h.below hB2) i hi
  obtain ⟨sa,sc,x0,x1,x2,x3,x4,x5⟩:=hc i hi
  have hi' : (i : Int) < (l.length : Int):=by omega
  clear hc
  go_wp2_with fail
  refine (copyOf_any l[i] sa sc _ x4 (by omega)).mono ?_
  rintro e w3 ⟨ta,tc,rfl,hh,hb,hge,_⟩
  have C3:=C2.below hb C2.lt
  have cl2:=C2.lt
  have hB3:=below_set4 (B:=w.heap.size) (x0:=.int .i64 l[i].id) (x1:=.int .i64 l[i].kind) (x2:=.slice ta l[i].links.length tc) (x3:=.string l[i].text) (hB2.trans (hb.mono hB2.size)) (Nat.le_refl _)
  have hH3:=holds_set4 (B:=w.heap.size) (x0:=.int .i64 l[i].id) (x1:=.int .i64 l[i].kind) (x2:=.slice ta l[i].links.length tc) (x3:=.string l[i].text) hh (fun b' off' e _=>by have:=hge b' off' e;omega)
  obtain ⟨c0,c1,c2,c3,f0,f1,f2,f3,cl⟩:=C3
  have HH : Hid (_ ∧ _):=⟨hH3,hB3⟩
  clear hb C2 hB2 hB3 hH3 hh x0 x1 x2 x3 x4 hge
  go_wp2
  refine bodyPost_ret (v:=.tuple #[l[i].val ta tc,.int .i64 0]) (by simp [results,Tryz.results29,go_sem,c0,c1,c2,c3]) rfl ?_
  exact ⟨ta,tc,rfl,HH.out.1,HH.out.2⟩
end

section
open Go.RowKit
set_option maxHeartbeats 400000 in
theorem equal_any (a1 : Option Addr) (c1 : Nat) (A : List Int) (a2 : Option Addr) (c2 : Nat) (B : List Int) (w : World)
    (hA : Holds w a1 A) (hB : Holds w a2 B) (lA : A.length ≤ 9223372036854775807) :
    Calls Tryz.prog 236 #[.slice a1 A.length c1,.slice a2 B.length c2] w fun e w'=>e = .returned (.bool (sameB A B)) ∧ ∃ n,w' = w.drewN n:=by
  by_cases hl : A.length = B.length
  · have hd : ((A.length : Int) != (B.length : Int)) = false:=by simp [hl]
    have HL : Hid (A.length = B.length):=hl
    clear hl
    go_enter Tryz.func236,Tryz.ntmps236
    go_wp2
    go_loopw [13] (fun i wr=>∃ k : Nat,i = .int .i64 k ∧ k ≤ A.length ∧ A.take k = B.take k ∧ ∃ n,wr = w.drewN n) (fun i _=>A.length - (intOf i).toNat)
    case atStart=>exact ⟨0,rfl,Nat.zero_le _,rfl,0,rfl⟩
    case round =>
      obtain ⟨k,rfl,hk,hkt,n,rfl⟩:=hrel
      by_cases hlt : k < A.length
      · obtain ⟨b1,o1,rfl,hb1,hc1⟩:=hA k hlt
        obtain ⟨b2,o2,rfl,hb2,hc2⟩:=hB k (by rw [← HL.out];exact hlt)
        have hlt2 : (k : Int) < (B.length : Int):=by have:=HL.out;omega
        have hk1:=hc1 k hlt
        have hk2:=hc2 k (by omega)
        have HT : Hid (A.take k = B.take k):=hkt
        clear hkt hc1 hc2
        have hk1' : ∀ m,(w.drewN m).cell? ⟨b1,o1 + k,none⟩ = some (.int .i64 A[k]):=fun m=>by simpa [hlt] using hk1
        have hk2' : ∀ m,(w.drewN m).cell? ⟨b2,o2 + k,none⟩ = some (.int .i64 (B.getD k 0)):=fun m=>by simpa using hk2
        clear hk1 hk2
        go_wp2
        go_quiet (fail)
        go_wp2
        · go_ret
          exact ⟨ret_bool (sameB_ne ‹_›).symm,n + nq,by simp⟩
        · go_roundw
          case rel=>exact ⟨k + 1,by go_num,by omega,sameB_step HL.out HT.out hlt ‹_›,_,rfl⟩
          case measure=>simp [intOf];omega
      · go_wp2
        go_ret
        exact ⟨ret_bool (sameB_end hk hlt HL.out hkt).symm,_,rfl⟩
  · have hd : ((A.length : Int) != (B.length : Int)) = true:=by simp;omega
    go_enter Tryz.func236,Tryz.ntmps236
    go_wp2
    go_ret
    exact ⟨by have : ¬ A = B:=fun h=>hl (by rw [h]);simp [sameB,this],0,rfl⟩
set_option maxHeartbeats 400000 in
theorem same_any (x y : Ob) (a1 : Option Addr) (c1 : Nat) (a2 : Option Addr) (c2 : Nat) (w : World)
    (h1 : Holds w a1 x.links) (h2 : Holds w a2 y.links) (l1 : x.links.length ≤ 9223372036854775807) :
    Calls Tryz.prog 189 #[x.val a1 c1,y.val a2 c2] w
      fun e w'=>e = .returned (.bool (sameO x.id x.kind x.links x.text y.id y.kind y.links y.text)) ∧ Below w.heap.size w w':=by
  obtain ⟨i1,k1,L1,t1⟩:=x
  obtain ⟨i2,k2,L2,t2⟩:=y
  dsimp only [Ob.val] at *
  go_enter Tryz.func189,Tryz.ntmps189
  go_wp2_with fail
  · refine (equal_any a1 c1 L1 a2 c2 L2 _ (h1.below (below_alloc2 _ _ _)) (h2.below (below_alloc2 _ _ _)) l1).mono ?_
    rintro e w' ⟨rfl,n,rfl⟩
    go_wp2
    go_ret
    exact ⟨ret_bool (by simp [sameO, *]),below_drewN (below_alloc2 _ _ _) n⟩
  all_goals go_ret
  all_goals exact ⟨ret_bool (by simp [sameO, *]),below_alloc2 _ _ _⟩
def belowN (l : List Ob) (id : Int) : Nat:=(l.filter (fun x=>decide (x.id < id))).length
theorem belowN_step {l : List Ob} {id : Int} {k : Nat} (hk : k < l.length) : belowN (l.take (k + 1)) id = belowN (l.take k) id + if l[k].id < id then 1 else 0:=by
  unfold belowN
  rw [List.take_succ_eq_append_getElem hk,List.filter_append,List.length_append]
  by_cases h : l[k].id < id <;> simp [h]
theorem belowN_le (l : List Ob) (id : Int) : belowN l id ≤ l.length:=List.length_filter_le _ _
set_option maxHeartbeats 400000 in
theorem countBelow_any (a : Option Addr) (c : Nat) (l : List Ob) (id : Int) (w : World) (h : HoldsS w a l) (hl : l.length ≤ 1000) :
    Calls Tryz.prog 191 #[.slice a l.length c,.int .i64 id] w fun e w'=>e = .returned (.int .i64 (belowN l id)) ∧ Below w.heap.size w w':=by
  go_enter Tryz.func191,Tryz.ntmps191
  go_wp2
  go_loopw [5,10] (fun n i wr=>∃ k : Nat,i = .int .i64 k ∧ k ≤ l.length ∧ n = .int .i64 (belowN (l.take k) id) ∧ Below w.heap.size w wr) (fun _ i _=>l.length - (intOf i).toNat)
  case atStart=>exact ⟨0,rfl,Nat.zero_le _,by simp [belowN],Below.refl _ _⟩
  case round =>
    obtain ⟨k,rfl,hk,rfl,hB⟩:=hrel
    by_cases hlt : k < l.length
    · obtain ⟨b,off,rfl,hb,hc⟩:=(h.below hB) k hlt
      obtain ⟨sa,sc,x0,x1,x2,x3,x4,x5⟩:=hc k hlt
      have HS : Hid (belowN (l.take (k + 1)) id = belowN (l.take k) id + if l[k].id < id then 1 else 0):=belowN_step hlt
      have hbd : belowN (l.take k) id ≤ 1000:=by have:=belowN_le (l.take k) id;rw [List.length_take] at this;omega
      clear hc
      go_wp2
      · go_roundw
        case rel=>exact ⟨k + 1,by go_num,by omega,by rw [HS.out,if_pos ‹_›];go_num,hB.alloc hB.size _⟩
        case measure=>simp [intOf];omega
      · go_roundw
        case rel=>exact ⟨k + 1,by go_num,by omega,by rw [HS.out,if_neg (by omega)];go_num,hB.alloc hB.size _⟩
        case measure=>simp [intOf];omega
    · have hkl : k = l.length:=by omega
      subst hkl
      rw [List.take_length]
      go_wp2
      go_ret
      exact ⟨rfl,hB⟩
set_option maxHeartbeats 1000000 in
theorem sameStore_refl (a1 : Option Addr) (c1 : Nat) (a2 : Option Addr) (c2 : Nat) (l : List Ob) (w : World)
    (h1 : HoldsS w a1 l) (h2 : HoldsS w a2 l) (hl : l.length ≤ 9223372036854775807) :
    Calls Tryz.prog 34 #[.slice a1 l.length c1,.slice a2 l.length c2] w fun e w'=>e = .returned (.bool true) ∧ Below w.heap.size w w':=by
  go_enter Tryz.func34,Tryz.ntmps34
  go_wp2
  go_loopw [5] (fun i wr=>∃ k : Nat,i = .int .i64 k ∧ k ≤ l.length ∧ Below w.heap.size w wr) (fun i _=>l.length - (intOf i).toNat)
  case atStart=>exact ⟨0,rfl,Nat.zero_le _,Below.refl _ _⟩
  case round =>
    obtain ⟨k,rfl,hk,hB⟩:=hrel
    by_cases hlt : k < l.length
    · obtain ⟨b,off,rfl,hb,hc⟩:=(h1.below hB) k hlt
      obtain ⟨sa,sc,x0,x1,x2,x3,x4,x5⟩:=hc k hlt
      obtain ⟨b',off',rfl,hb',hc'⟩:=(h2.below hB) k hlt
      obtain ⟨ta,tc,y0,y1,y2,y3,y4,y5⟩:=hc' k hlt
      have hlt' : (k : Int) < (l.length : Int):=by omega
      clear hc hc'
      go_wp2
      refine wp_region_any (by kernel_rfl) ?_
      change wpAny _ _ _ _ _ _ _ (World.drew _)
      refine wpAny_take (i:=0) (v:=?_) rfl (by kernel_rfl) (by kernel_rfl) (by kernel_rfl) (fun _ _ _ h=>h) (Or.inl ⟨by rfl,?_⟩) ?_
      rotate_left
      · intro w;go_simp;with_reducible rfl
      try simp only [Act.put,uA,uC,uD,uE,uF]
      refine wpAny_take (i:=1) (v:=?_) rfl (by kernel_rfl) (by kernel_rfl) (by kernel_rfl) (fun _ _ _ h=>h) (Or.inl ⟨by rfl,?_⟩) ?_
      rotate_left
      · intro w;go_simp;with_reducible rfl
      try simp only [Act.put,uA,uB,uC,uD,uE,uF]
      refine wpAny_take (i:=2) (v:=?_) rfl (by kernel_rfl) (by kernel_rfl) (by kernel_rfl) (fun _ _ _ h=>h) (Or.inl ⟨by rfl,?_⟩) ?_
      rotate_left
      · intro w;go_simp;with_reducible rfl
      try simp only [Act.put,uA,uB,uC,uD,uE,uF]
      refine wpAny_take (i:=4) (v:=?_) rfl (by kernel_rfl) (by kernel_rfl) (by kernel_rfl) (fun _ _ _ h=>h) (Or.inl ⟨by rfl,?_⟩) ?_
      rotate_left
      · intro w;go_simp;with_reducible rfl
      try simp only [Act.put,uA,uB,uC,uD,uE,uF]
      refine wpAny_take (i:=5) (v:=?_) rfl (by kernel_rfl) (by kernel_rfl) (by kernel_rfl) (fun _ _ _ h=>h) (Or.inl ⟨by rfl,?_⟩) ?_
      rotate_left
      · intro w;go_simp;with_reducible rfl
      try simp only [Act.put,uA,uB,uC,uD,uE,uF]
      refine wpAny_take (i:=6) (v:=?_) rfl (by kernel_rfl) (by kernel_rfl) (by kernel_rfl) (fun _ _ _ h=>h) (Or.inl ⟨by rfl,?_⟩) ?_
      rotate_left
      · intro w;go_simp;with_reducible rfl
      try simp only [Act.put,uA,uB,uC,uD,uE,uF]
      refine wpAny_ready (rs:=[3,7]) (by kernel_rfl) (by simp) ?_
      refine AllReady.cons rfl (fun K hK=>?_) (AllReady.cons rfl (fun K hK=>?_) AllReady.nil)
      · go_simp
        refine hK _ _ ?_
        clear hK K
        try simp only [Act.put,uA,uB,uC,uD,uE,uF]
        refine wpAny_ready (rs:=[7]) (by kernel_rfl) (by simp) ?_
        refine AllReady.cons rfl (fun K hK=>?_) AllReady.nil
        go_simp
        refine hK _ _ ?_
        clear hK K
        try simp only [Act.put,uA,uB,uC,uD,uE,uF]
        refine wpAny_ready (rs:=[8]) (by kernel_rfl) (by simp) ?_
        refine AllReady.cons rfl (fun K hK=>?_) AllReady.nil
        go_simp
        refine (sameObject_any _ _ sa sc l[k].links l[k].text _ _ ta tc l[k].links l[k].text _ x4.drew y4.drew x5).mono ?_
        rintro e w1 ⟨rfl,hb1⟩
        rw [sameO_refl]
        have hB1:=hB.drew.trans (hb1.mono hB.size)
        clear hb1 x0 x1 x2 x3 x4 y0 y1 y2 y3 y4
        go_wp2_with fail
        try simp only [Act.put,uA,uB,uC,uD,uE,uF]
        refine wpAny_take (i:=9) (v:=?_) rfl (by kernel_rfl) (by kernel_rfl) (by kernel_rfl) (fun _ _ _ h=>h) (Or.inl ⟨by rfl,?_⟩) ?_
        rotate_left
        · intro w;go_simp;with_reducible rfl
        try simp only [Act.put,uA,uB,uC,uD,uE,uF]
        refine wpAny_done (by kernel_rfl) ?_ _
        go_wp2
        go_roundw
        case rel=>exact ⟨k + 1,by go_num,by omega,hB1⟩
        case measure=>simp [intOf];omega
      · go_simp
        refine hK _ _ ?_
        clear hK K
        try simp only [Act.put,uA,uB,uC,uD,uE,uF]
        refine wpAny_ready (rs:=[3]) (by kernel_rfl) (by simp) ?_
        refine AllReady.cons rfl (fun K hK=>?_) AllReady.nil
        go_simp
        refine hK _ _ ?_
        clear hK K
        try simp only [Act.put,uA,uB,uC,uD,uE,uF]
        refine wpAny_ready (rs:=[8]) (by kernel_rfl) (by simp) ?_
        refine AllReady.cons rfl (fun K hK=>?_) AllReady.nil
        go_simp
        refine (sameObject_any _ _ sa sc l[k].links l[k].text _ _ ta tc l[k].links l[k].text _ x4.drew y4.drew x5).mono ?_
        rintro e w1 ⟨rfl,hb1⟩
        rw [sameO_refl]
        have hB1:=hB.drew.trans (hb1.mono hB.size)
        clear hb1 x0 x1 x2 x3 x4 y0 y1 y2 y3 y4
        go_wp2_with fail
        try simp only [Act.put,uA,uB,uC,uD,uE,uF]
        refine wpAny_take (i:=9) (v:=?_) rfl (by kernel_rfl) (by kernel_rfl) (by kernel_rfl) (fun _ _ _ h=>h) (Or.inl ⟨by rfl,?_⟩) ?_
        rotate_left
        · intro w;go_simp;with_reducible rfl
        try simp only [Act.put,uA,uB,uC,uD,uE,uF]
        refine wpAny_done (by kernel_rfl) ?_ _
        go_wp2
        go_roundw
        case rel=>exact ⟨k + 1,by go_num,by omega,hB1⟩
        case measure=>simp [intOf];omega
    · go_wp2
      go_ret
      exact ⟨rfl,hB⟩
end

section
open Go.RowKit
theorem Tryz.info58 : (Tryz.prog.info? 58).map (fun i=>(i.zero,i.size,i.bytes)) = some (some (.agg #[.int .i64 0,.int .i64 0,.slice none 0 0,.string { data:=#[] }]),4,56):=by kernel_rfl
theorem run_copy4 (w : World) (ty : TypeId) (g o dLen dCap : Nat) (a : Addr) (sLen sCap : Nat) (cur : Array Value) (t : TypeId) (cs : List Value)
    (hg : w.heap[g]? = some (.cells cur t (0,0))) (hn : cs.length = Nat.min sLen dLen * 4)
    (hsrc : ∀ j v,cs[j]? = some v → w.cell? (a.add j) = some v) (hfit : o + cs.length ≤ cur.size) (h1 : ∀ v ∈ cs,v.oneCell' = true) :
    (Builtin.copy_ #[25,25] ty #[.slice (some ⟨g,o,none⟩) dLen dCap,.slice (some a) sLen sCap]).run Tryz.prog w =
      .ok (goInt (Nat.min sLen dLen)) (w.setRow g (cur.toList.take o ++ cs ++ cur.toList.drop (o + cs.length)).toArray):=by
  obtain ⟨i0,hi,hz0,hz1,hz2⟩:=info_parts Tryz.info58
  have hl:=run_loadCells_list (P:=Tryz.prog) w a cs hsrc
  have hst:=run_storeCells_at Tryz.prog g o t cs 0 cur w hg (by simpa using hfit) h1
  simp [Builtin.copy_,run_underlying Tryz.underlying25,Builtin.lenOf,Builtin.firstCells,sizeOf,typeInfo,hi,hz1,← hn,hl,hst]
theorem mem_mid {X : List Value} {i n : Nat} {v : Value} (hi : i < n) (h : v ∈ (X.drop (i * 4)).take ((n - i) * 4)) : v ∈ X.take (n * 4):=by
  rw [List.take_drop,show i * 4 + (n - i) * 4 = n * 4 by omega] at h
  exact List.mem_of_mem_drop h
theorem ins_list (X Y : List Value) (i n : Nat) (hX : (n + 1) * 4 ≤ X.length) (hi : i < n) (hY : Y.length = 4) :
    let C1:=X.take ((i + 1) * 4) ++ (X.drop (i * 4)).take ((n - i) * 4) ++ X.drop ((i + 1) * 4 + ((X.drop (i * 4)).take ((n - i) * 4)).length)
    (C1.take (i * 4) ++ Y ++ C1.drop (i * 4 + Y.length)).take ((n + 1) * 4) = X.take (i * 4) ++ Y ++ (X.drop (i * 4)).take ((n - i) * 4) ∧ (C1.take (i * 4) ++ Y ++ C1.drop (i * 4 + Y.length)).length = X.length:=by
  intro C1
  have hM : ((X.drop (i * 4)).take ((n - i) * 4)).length = (n - i) * 4:=by rw [List.length_take,List.length_drop];omega
  have hA : (X.take ((i + 1) * 4)).length = (i + 1) * 4:=by rw [List.length_take];omega
  have e1 : C1.take (i * 4) = X.take (i * 4):=by
    show (X.take ((i + 1) * 4) ++ _ ++ _).take (i * 4) = _
    rw [List.append_assoc,List.take_append_of_le_length (by omega),List.take_take]
    congr 1;omega
  have e2 : C1.drop (i * 4 + Y.length) = (X.drop (i * 4)).take ((n - i) * 4) ++ X.drop ((i + 1) * 4 + ((X.drop (i * 4)).take ((n - i) * 4)).length):=by
    show (X.take ((i + 1) * 4) ++ _ ++ _).drop (i * 4 + Y.length) = _
    rw [List.append_assoc,hY,show i * 4 + 4 = (X.take ((i + 1) * 4)).length by omega,List.drop_left]
  rw [e1,e2]
  have hT : (X.take (i * 4)).length = i * 4:=by rw [List.length_take];omega
  constructor
  · rw [← List.append_assoc,show (n + 1) * 4 = (X.take (i * 4) ++ Y ++ (X.drop (i * 4)).take ((n - i) * 4)).length by simp only [List.length_append];omega,List.take_left]
  · simp only [List.length_append,List.length_drop];omega
theorem step_copy_run {ops : Array Oper} {o : Oper} {a : Act} {w : World} {K : Act → World → Prop} {Q : Exit → Act → World → Prop} {E : Prop} (hgd : o.guard = none) (d s : Operand)
    (ho : o.op = .call { callee:=.builtin .copy,args:=#[d,s],argTypes:=#[25,25] }) (v u : Value) (hd : a.eval d = v) (hs : a.eval s = u) {v' : Value} {w' : World}
    (hr : (Builtin.copy_ #[25,25] o.type #[v,u]).run Tryz.prog w = .ok v' w') (h : K (a.put o.dst v') w') : if Region.wanted o (yielded ops a.tmps) = true then Oper.wp Tryz.prog o a w K Q else E:=by
  have hw : Region.wanted o (yielded ops a.tmps) = true:=by simp [Region.wanted,hgd]
  rw [if_pos hw]
  unfold Oper.wp execOp
  simp only [ho,resolve,invoke,builtin,Sem.run_bind,Sem.run_pure,Result.andThen_ok,List.map_toArray,List.map_cons,List.map_nil,hd,hs,hr]
  exact h
theorem overlaps_no (w : World) (g vb o lb cb : Nat) (cur ys : Array Value) (hg : w.heap[g]? = some (.cells cur 58 (0,0))) (hv : w.heap[vb]? = some (.cells ys 58)) (hne : vb ≠ g) (hc : cur.size ≠ 0) :
    (callFunc 237 #[.slice (some ⟨vb,0,none⟩) 1 1,.slice (some ⟨g,o,none⟩) lb cb]).run Tryz.prog w = .ok (.value (.bool false)) w:=by
  obtain ⟨i0,hi,hz0,hz1,hz2⟩:=info_parts Tryz.info58
  have hz : ∀ w,(Go.sizeOf 58).run Tryz.prog w = .ok 4 w:=fun w=>by simp [sizeOf,typeInfo,hi,hz1]
  have hfr : ∀ k,w.frozen? ⟨vb,k,none⟩ = false:=fun k=>by simp [World.frozen?,hv]
  rw [run_callFunc_extern Tryz.func237 (by kernel_rfl) (by kernel_rfl) (by kernel_rfl) (e:=Extern.SlicesOverlaps.overlaps #[25,25] #[4]) (by kernel_rfl),
    Lib.run_overlaps_apart w 25 4 58 Tryz.underlying25 4 hz ⟨vb,0,none⟩ ⟨g,o,none⟩ 1 1 lb cb hne 58 58 ys.size cur.size (by simp [World.shape?,hv]) (by simp [World.shape?,hg]) hc (hfr 0) (hfr _)]
  rfl
set_option maxHeartbeats 800000 in
set_option maxRecDepth 100000 in
theorem insert_room (g n cap i vb : Nat) (cur : Array Value) (ys : Array Value) (w : World) (hi : i < n) (hroom : n + 1 ≤ cap) (hcap : cap ≤ 9223372036854775807) (hn : n ≤ 1000)
    (hg : w.heap[g]? = some (.cells cur 58 (0,0))) (hcs : cur.size = cap * 4) (hv : w.heap[vb]? = some (.cells ys 58)) (hys : ys.size = 4) (hne : vb ≠ g)
    (h1 : ∀ v ∈ cur.toList.take (n * 4),v.oneCell' = true) (h2 : ∀ v ∈ ys.toList,v.oneCell' = true) :
    Calls Tryz.prog 190 #[.slice (some ⟨g,0,none⟩) n cap,.int .i64 i,.slice (some ⟨vb,0,none⟩) 1 1] w fun e w' =>
      e = .returned (.slice (some ⟨g,0,none⟩) (n + 1) cap) ∧ w.grownBy w' (some g) ∧ ∃ cur',w'.heap[g]? = some (.cells cur' 58 (0,0)) ∧ cur'.size = cap * 4 ∧ cur'.toList.take ((n + 1) * 4) = cur.toList.take (i * 4) ++ ys.toList ++ (cur.toList.drop (i * 4)).take ((n - i) * 4):=by
  have hi1 : (i : Int) ≤ (n : Int):=by omega
  have hz2 : ((i : Int) == (n : Int)) = false:=by simp;omega
  have hcap' : ¬ ((cap : Int) < (n : Int) + 1):=by omega
  have hb1 : (i : Int) + 1 ≤ (n : Int) + 1:=by omega
  have hw1 : IntKind.i64.wrap ((i : Int) + 1) = (i : Int) + 1:=by simp [IntKind.wrap,IntKind.bits,IntKind.signed];omega
  have hw0 : (0 : Int) ≤ (i : Int) + 1:=by omega
  have htn : ((i : Int) + 1).toNat = i + 1:=by omega
  have hc1 : ¬ cap = i + 1:=by omega
  have hc0 : ¬ cap = i:=by omega
  have hb3 : (i : Int) ≤ (n : Int) + 1:=by omega
  have hov:=overlaps_no w g vb ((i + 1) * 4) (n - i) (cap - (i + 1)) cur ys hg hv hne (by omega)
  have HC1 : Hid (∀ ty,(Builtin.copy_ #[25,25] ty #[.slice (some ⟨g,(i + 1) * 4,none⟩) (n - i) (cap - (i + 1)),.slice (some ⟨g,i * 4,none⟩) (n + 1 - i) (cap - i)]).run Tryz.prog w.drew = .ok (goInt (Nat.min (n + 1 - i) (n - i))) (w.drew.setRow g (cur.toList.take ((i + 1) * 4) ++ (cur.toList.drop (i * 4)).take ((n - i) * 4) ++ cur.toList.drop ((i + 1) * 4 + ((cur.toList.drop (i * 4)).take ((n - i) * 4)).length)).toArray)):=fun ty=>by
    refine run_copy4 w.drew ty g ((i + 1) * 4) (n - i) (cap - (i + 1)) ⟨g,i * 4,none⟩ (n + 1 - i) (cap - i) cur 58 _ hg ?_ ?_ ?_ ?_
    · have : Nat.min (n + 1 - i) (n - i) = n - i:=by simp only [Nat.min_def];split <;> omega
      rw [this,List.length_take,List.length_drop,Array.length_toList];omega
    · intro j v hj
      have hadd : (⟨g,i * 4,none⟩ : Addr).add j = ⟨g,i * 4 + j,none⟩:=by unfold Addr.add;split <;> simp_all
      rw [hadd,cell_of_row w.drew g _ _ _ _ hg]
      rw [List.getElem?_take] at hj
      split at hj
      · rw [List.getElem?_drop] at hj;simpa using hj
      · cases hj
    · rw [List.length_take,List.length_drop,Array.length_toList];omega
    · intro v hv';exact h1 v (mem_mid hi hv')
  have HG : Hid (w.heap[g]? = some (.cells cur 58 (0,0)) ∧ w.heap[vb]? = some (.cells ys 58) ∧ cur.size = cap * 4 ∧ ys.size = 4 ∧ (∀ v ∈ cur.toList.take (n * 4),v.oneCell' = true) ∧ (∀ v ∈ ys.toList,v.oneCell' = true)):=⟨hg,hv,hcs,hys,h1,h2⟩
  clear hg hv hcs hys h1 h2
  go_enter Tryz.func190,Tryz.ntmps190
  go_wp2_with fail
  refine wp_region_any (by kernel_rfl) ?_
  change wpAny _ _ _ _ _ _ _ (World.drew _)
  refine wpAny_take (i:=0) (v:=?_) rfl (by kernel_rfl) (by kernel_rfl) (by kernel_rfl) (fun _ _ _ h=>h) (Or.inl ⟨by rfl,?_⟩) ?_
  rotate_left
  · intro w;go_simp;with_reducible rfl
  try simp only [Act.put,uA,uC,uD,uE,uF]
  refine wpAny_take (i:=1) (v:=?_) rfl (by kernel_rfl) (by kernel_rfl) (by kernel_rfl) (fun _ _ _ h=>h) (Or.inl ⟨by rfl,?_⟩) ?_
  rotate_left
  · intro w;go_simp;with_reducible rfl
  try simp only [Act.put,uA,uB,uC,uD,uE,uF]
  refine wpAny_take (i:=2) (v:=?_) rfl (by kernel_rfl) (by kernel_rfl) (by kernel_rfl) (fun _ _ _ h=>h) (Or.inl ⟨by rfl,?_⟩) ?_
  rotate_left
  · intro w;go_simp;with_reducible rfl
  try simp only [Act.put,uA,uB,uC,uD,uE,uF]
  refine wpAny_take (i:=3) (v:=?_) rfl (by kernel_rfl) (by kernel_rfl) (by kernel_rfl) (fun _ _ _ h=>h) (Or.inl ⟨by rfl,?_⟩) ?_
  rotate_left
  · intro w;go_simp;with_reducible rfl
  try simp only [Act.put,uA,uB,uC,uD,uE,uF]
  refine wpAny_take (i:=4) (v:=?_) rfl (by kernel_rfl) (by kernel_rfl) (by kernel_rfl) (fun _ _ _ h=>h) (Or.inl ⟨by rfl,?_⟩) ?_
  rotate_left
  · intro w;go_simp;with_reducible rfl
  try simp only [Act.put,uA,uB,uC,uD,uE,uF]
  refine wpAny_take (i:=5) (v:=?_) rfl (by kernel_rfl) (by kernel_rfl) (by kernel_rfl) (fun _ _ _ h=>h) (Or.inl ⟨by rfl,?_⟩) ?_
  rotate_left
  · intro w;go_simp;with_reducible rfl
  try simp only [Act.put,uA,uB,uC,uD,uE,uF]
  refine wpAny_take (i:=6) (v:=?_) rfl (by kernel_rfl) (by kernel_rfl) (by kernel_rfl) (fun _ _ _ h=>h) (Or.inl ⟨by rfl,?_⟩) ?_
  rotate_left
  · intro w;go_simp;with_reducible rfl
  try simp only [Act.put,uA,uB,uC,uD,uE,uF]
  refine wpAny_take (i:=7) (v:=?_) rfl (by kernel_rfl) (by kernel_rfl) (by kernel_rfl) (fun _ _ _ h=>h) (Or.inl ⟨by rfl,?_⟩) ?_
  rotate_left
  · intro w;go_simp;with_reducible rfl
  try simp only [Act.put,uA,uB,uC,uD,uE,uF]
  refine wpAny_ready (rs:=[8]) (by kernel_rfl) (by simp) ?_
  refine AllReady.cons rfl (fun K hK=>?_) AllReady.nil
  refine step_copy_run (by rfl) (.tmp 73) (.tmp 76) (by rfl) _ _ (by rfl) (by rfl) (HC1.out _) ?_
  refine hK _ _ ?_
  clear hK K
  try simp only [Act.put,uA,uB,uC,uD,uE,uF]
  refine wpAny_done (by kernel_rfl) ?_ _
  obtain ⟨hg,hv,hcs,hys,h1,h2⟩:=HG.out
  obtain ⟨C1,hC1⟩ : ∃ C1 : List Value,C1 = cur.toList.take ((i + 1) * 4) ++ (cur.toList.drop (i * 4)).take ((n - i) * 4) ++ cur.toList.drop ((i + 1) * 4 + ((cur.toList.drop (i * 4)).take ((n - i) * 4)).length):=⟨_,rfl⟩
  rw [← hC1]
  have hW1 : (w.drew.setRow g C1.toArray).heap[g]? = some (.cells C1.toArray 58 (0,0)):=setRow_heap w.drew g _ _ 58 _ hg
  have hV1 : (w.drew.setRow g C1.toArray).heap[vb]? = some (.cells ys 58):=(setRow_other w.drew g vb _ hne).trans hv
  have hG1 : w.grownBy (w.drew.setRow g C1.toArray) (some g):=⟨rfl,rfl,rfl,by simp [World.setRow],fun k _ hk=>setRow_other w.drew g k _ (fun e=>hk (by rw [e]))⟩
  have hL1 : C1.length = cap * 4:=by rw [hC1];simp only [List.length_append,List.length_take,List.length_drop,Array.length_toList];omega
  have hlist:=ins_list cur.toList ys.toList i n (by rw [Array.length_toList];omega) (by omega) (by rw [Array.length_toList];exact hys)
  rw [← hC1] at hlist
  have HL : Hid (_ ∧ w.grownBy (w.drew.setRow g C1.toArray) (some g) ∧ _ ∧ cur.size = cap * 4):=⟨hlist,hG1,hW1,hcs⟩
  have HC2 : Hid (∀ ty,(Builtin.copy_ #[25,25] ty #[.slice (some ⟨g,i * 4,none⟩) (n + 1 - i) (cap - i),.slice (some ⟨vb,0,none⟩) 1 1]).run Tryz.prog (w.drew.setRow g C1.toArray) = .ok (goInt (Nat.min 1 (n + 1 - i))) ((w.drew.setRow g C1.toArray).setRow g (C1.toArray.toList.take (i * 4) ++ ys.toList ++ C1.toArray.toList.drop (i * 4 + ys.toList.length)).toArray)):=fun ty=>by
    refine run_copy4 _ ty g (i * 4) (n + 1 - i) (cap - i) ⟨vb,0,none⟩ 1 1 C1.toArray 58 ys.toList hW1 ?_ ?_ ?_ h2
    · have : Nat.min 1 (n + 1 - i) = 1:=by simp only [Nat.min_def];split <;> omega
      rw [this,Array.length_toList,hys]
    · exact World.news_of_block hV1
    · simp only [List.size_toArray,Array.length_toList];omega
  clear HC1 HG hg hv hcs hys h1 h2 hC1 hW1 hV1 hG1 hL1 hlist hov
  generalize w.drew.setRow g C1.toArray = W1 at *
  have hcp2:=HC2.out 3
  clear HC2
  obtain ⟨C2,hC2⟩ : ∃ C2,C2 = C1.toArray.toList.take (i * 4) ++ ys.toList ++ C1.toArray.toList.drop (i * 4 + ys.toList.length):=⟨_,rfl⟩
  rw [← hC2] at hcp2
  have HC2 : Hid (C2 = C1.toArray.toList.take (i * 4) ++ ys.toList ++ C1.toArray.toList.drop (i * 4 + ys.toList.length)):=hC2
  clear hC2
  go_wp2
  go_ret
  obtain ⟨q1,q2,q3,q4⟩:=HL.out
  refine ⟨rfl,?_,_,setRow_heap W1 g _ _ 58 _ q3,?_,?_⟩
  · exact ⟨q2.os,q2.tape,q2.output,by have:=q2.size;simpa [World.setRow] using this,fun k hk hr=>(setRow_other W1 g k _ (fun e=>hr (by rw [e]))).trans (q2.block k hk hr)⟩
  · have e:=q1.2;rw [Array.length_toList] at e;rw [List.size_toArray,HC2.out];exact e.trans q4
  · have e:=q1.1;rw [HC2.out];simpa using e
end

section
open Go.RowKit
theorem wpList_append_run {ops : Array Oper} {rest : List Oper} {o : Oper} {a : Act} {w : World} {Q : Exit → Act → World → Prop} (hgd : o.guard = none) (d s : Operand)
    (ho : o.op = .call { callee:=.builtin .append,args:=#[d,s],argTypes:=#[25,3] }) (v u : Value) (hd : a.eval d = v) (hs : a.eval s = u) {v' : Value} {w' : World}
    (hr : (Builtin.append_ #[25,3] o.type #[v,u]).run Tryz.prog w = .ok v' w') (h : wpList Tryz.prog ops Q rest (a.put o.dst v') w') : wpList Tryz.prog ops Q (o :: rest) a w:=by
  refine wpList_plain hgd fun K hK=>?_
  unfold Oper.wp execOp
  simp only [ho,resolve,invoke,builtin,Sem.run_bind,Sem.run_pure,Result.andThen_ok,List.map_toArray,List.map_cons,List.map_nil,hd,hs,hr]
  exact hK _ _ h
theorem grow_list (X Y R0 : List Value) (i n : Nat) (hX : n * 4 ≤ X.length) (hi : i < n) (hY : Y.length = 4) (hR : (n + 1) * 4 ≤ R0.length) (hR0 : R0.take (i * 4) = X.take (i * 4)) :
    let Z:=(X.drop (i * 4)).take ((n - i) * 4)
    let R1:=R0.take (i * 4) ++ Y ++ R0.drop (i * 4 + Y.length)
    let R2:=R1.take ((i + 1) * 4) ++ Z ++ R1.drop ((i + 1) * 4 + Z.length)
    R2.take ((n + 1) * 4) = X.take (i * 4) ++ Y ++ Z ∧ R2.length = R0.length ∧ R1.length = R0.length:=by
  intro Z R1 R2
  have hZ : Z.length = (n - i) * 4:=by show ((X.drop (i * 4)).take ((n - i) * 4)).length = _;rw [List.length_take,List.length_drop];omega
  have hT : (X.take (i * 4)).length = i * 4:=by rw [List.length_take];omega
  have h1 : R1.length = R0.length:=by
    show (R0.take (i * 4) ++ Y ++ R0.drop (i * 4 + Y.length)).length = _
    simp only [List.length_append,List.length_take,List.length_drop];omega
  have e1 : R1.take ((i + 1) * 4) = X.take (i * 4) ++ Y:=by
    show (R0.take (i * 4) ++ Y ++ R0.drop (i * 4 + Y.length)).take ((i + 1) * 4) = _
    rw [hR0,show (i + 1) * 4 = (X.take (i * 4) ++ Y).length by rw [List.length_append];omega,List.take_left]
  refine ⟨?_,?_,h1⟩
  · show (R1.take ((i + 1) * 4) ++ Z ++ R1.drop ((i + 1) * 4 + Z.length)).take ((n + 1) * 4) = _
    rw [e1,show (n + 1) * 4 = (X.take (i * 4) ++ Y ++ Z).length by simp only [List.length_append];omega,List.take_left]
  · show (R1.take ((i + 1) * 4) ++ Z ++ R1.drop ((i + 1) * 4 + Z.length)).length = _
    rw [e1]
    simp only [List.length_append,List.length_drop];omega
set_option maxHeartbeats 800000 in
set_option maxRecDepth 100000 in
theorem insert_grow (g n cap i vb : Nat) (cur : Array Value) (ys : Array Value) (w : World) (hi : i < n) (hnc : n ≤ cap) (hroom : cap < n + 1) (hn : n ≤ 1000)
    (hg : w.heap[g]? = some (.cells cur 58 (0,0))) (hcs : cur.size = cap * 4) (hv : w.heap[vb]? = some (.cells ys 58)) (hys : ys.size = 4)
    (h1 : ∀ v ∈ cur.toList.take (n * 4),v.oneCell' = true) (h2 : ∀ v ∈ ys.toList,v.oneCell' = true) :
    Calls Tryz.prog 190 #[.slice (some ⟨g,0,none⟩) n cap,.int .i64 i,.slice (some ⟨vb,0,none⟩) 1 1] w fun e w'=>∃ H G,
      e = .returned (.slice (some ⟨H,0,none⟩) (n + 1) G) ∧ w.grownBy w' none ∧ w.heap.size ≤ H ∧ n + 1 ≤ G ∧ G ≤ maxLen ∧ ∃ cur',w'.heap[H]? = some (.cells cur' 58 (0,0)) ∧ cur'.size = G * 4 ∧ cur'.toList.take ((n + 1) * 4) = cur.toList.take (i * 4) ++ ys.toList ++ (cur.toList.drop (i * 4)).take ((n - i) * 4):=by
  obtain ⟨i0,hi0,hz0,hzs,hzb⟩:=info_parts Tryz.info58
  have hgw : g < w.heap.size:=by
    rcases Nat.lt_or_ge g w.heap.size with h | h
    · exact h
    · rw [Array.getElem?_eq_none h] at hg;cases hg
  have hvw : vb < w.heap.size:=by
    rcases Nat.lt_or_ge vb w.heap.size with h | h
    · exact h
    · rw [Array.getElem?_eq_none h] at hv;cases hv
  have hold : (Builtin.firstCells i0.size i (.slice (some ⟨g,0,none⟩) i cap)).run Tryz.prog w.drew = .ok (cur.toList.take (i * 4)).toArray w.drew:=by
    rw [hzs]
    exact run_firstCells_some w.drew 4 i ⟨g,0,none⟩ i cap (cur.toList.take (i * 4)) (by rw [List.length_take,Array.length_toList];omega) (fun j v hj=>by
      have hadd : (⟨g,0,none⟩ : Addr).add j = ⟨g,0 + j,none⟩:=by unfold Addr.add;split <;> simp_all
      rw [hadd,cell_of_row w.drew g _ _ _ _ hg,Nat.zero_add]
      rw [List.getElem?_take] at hj
      split at hj
      · simpa using hj
      · cases hj)
  have hik : i + (n + 1 - i) = n + 1:=by omega
  have hrz : ∀ ty,(Builtin.append_ #[25,3] ty #[.slice (some ⟨g,0,none⟩) i cap,.int .i64 ((n : Int) + 1 - (i : Int))]).run Tryz.prog w =
      .ok (.slice (some ⟨w.heap.size,0,none⟩) (n + 1) (grownCap w (n + 1) cap 58)) (w.drew.alloc (.cells ((cur.toList.take (i * 4)).toArray ++ Builtin.zeroCells (.agg #[.int .i64 0,.int .i64 0,.slice none 0 0,.string { data:=#[] }] : Value).cells (n + 1 - i) ++ Builtin.zeroCells (.agg #[.int .i64 0,.int .i64 0,.slice none 0 0,.string { data:=#[] }] : Value).cells (grownCap w (n + 1) cap 58 - (n + 1))) 58)):=fun ty=>by
    have h:=Lib.run_append_grow_zeros w 25 3 ty 58 i0 _ .i64 .i64 Tryz.underlying25 Tryz.underlying3 hi0 hz0 (some ⟨g,0,none⟩) i cap (cur.toList.take (i * 4)) hold (n + 1 - i) (by omega) (by omega) (by omega) (by omega) (by rw [hzb];omega) (by rw [hzb,hik];exact growslice_fits hroom (by omega))
    rw [hik] at h
    rw [show (n : Int) + 1 - (i : Int) = ((n + 1 - i : Nat) : Int) by omega]
    exact h
  obtain ⟨G,hG⟩ : ∃ G,G = grownCap w (n + 1) cap 58:=⟨_,rfl⟩
  have hG1 : n + 1 ≤ G:=by rw [hG];exact grownCap_ge w _ _ _
  have hG2 : G ≤ maxLen:=by rw [hG];exact grownCap_le_maxLen w (n + 1) cap 58 (by unfold maxLen;omega)
  rw [← hG] at hrz
  clear hG
  obtain ⟨R0,hR0⟩ : ∃ R0 : Array Value,R0 = (cur.toList.take (i * 4)).toArray ++ Builtin.zeroCells (.agg #[.int .i64 0,.int .i64 0,.slice none 0 0,.string { data:=#[] }] : Value).cells (n + 1 - i) ++ Builtin.zeroCells (.agg #[.int .i64 0,.int .i64 0,.slice none 0 0,.string { data:=#[] }] : Value).cells (G - (n + 1)):=⟨_,rfl⟩
  rw [← hR0] at hrz
  have hTl : (cur.toList.take (i * 4)).length = i * 4:=by rw [List.length_take,Array.length_toList];omega
  have hz4 : ((.agg #[.int .i64 0,.int .i64 0,.slice none 0 0,.string { data:=#[] }] : Value).cells).size = 4:=rfl
  have hRs : R0.size = G * 4:=by
    rw [hR0]
    simp only [Array.size_append,List.size_toArray,hTl,size_zeroCells,hz4];omega
  have hRt : R0.toList.take (i * 4) = cur.toList.take (i * 4):=by
    rw [hR0]
    simp only [Array.toList_append,List.append_assoc]
    rw [List.take_append_of_le_length (by omega),List.take_take];congr 1;omega
  obtain ⟨W1,hW1⟩ : ∃ W1,W1 = w.drew.alloc (.cells R0 58):=⟨_,rfl⟩
  rw [← hW1] at hrz
  have hH1 : W1.heap[w.heap.size]? = some (.cells R0 58 (0,0)):=by rw [hW1];exact heap_alloc_new w.drew _
  have hg1 : W1.heap[g]? = some (.cells cur 58 (0,0)):=by rw [hW1];exact (heap_alloc_old w.drew _ hgw).trans hg
  have hv1 : W1.heap[vb]? = some (.cells ys 58):=by rw [hW1];exact (heap_alloc_old w.drew _ hvw).trans hv
  have hGB1 : w.grownBy W1 none:=by
    rw [hW1];exact ⟨rfl,rfl,rfl,by simp [World.alloc],fun k hk _=>heap_alloc_old w.drew _ hk⟩
  obtain ⟨H,hH⟩ : ∃ H,H = w.heap.size:=⟨_,rfl⟩
  rw [← hH] at hrz hH1 hgw hvw
  clear hW1 hR0 hold hik
  have hcp1 : (Builtin.copy_ #[25,25] 3 #[.slice (some ⟨H,i * 4,none⟩) (n + 1 - i) (G - i),.slice (some ⟨vb,0,none⟩) 1 1]).run Tryz.prog W1 = .ok (goInt (Nat.min 1 (n + 1 - i))) (W1.setRow H (R0.toList.take (i * 4) ++ ys.toList ++ R0.toList.drop (i * 4 + ys.toList.length)).toArray):=by
    refine run_copy4 _ 3 H (i * 4) (n + 1 - i) (G - i) ⟨vb,0,none⟩ 1 1 R0 58 ys.toList hH1 ?_ ?_ ?_ h2
    · have : Nat.min 1 (n + 1 - i) = 1:=by simp only [Nat.min_def];split <;> omega
      rw [this,Array.length_toList,hys]
    · exact World.news_of_block hv1
    · simp only [Array.length_toList];omega
  obtain ⟨R1,hR1⟩ : ∃ R1,R1 = R0.toList.take (i * 4) ++ ys.toList ++ R0.toList.drop (i * 4 + ys.toList.length):=⟨_,rfl⟩
  rw [← hR1] at hcp1
  have hlist:=grow_list cur.toList ys.toList R0.toList i n (by rw [Array.length_toList];omega) hi (by rw [Array.length_toList];exact hys) (by rw [Array.length_toList];omega) hRt
  rw [← hR1] at hlist
  obtain ⟨W2,hW2⟩ : ∃ W2,W2 = W1.setRow H R1.toArray:=⟨_,rfl⟩
  rw [← hW2] at hcp1
  have hH2 : W2.heap[H]? = some (.cells R1.toArray 58 (0,0)):=by rw [hW2];exact setRow_heap W1 H _ _ 58 _ hH1
  have hg2 : W2.heap[g]? = some (.cells cur 58 (0,0)):=by rw [hW2];exact (setRow_other W1 H g _ (by omega)).trans hg1
  have hR1s : R1.length = G * 4:=by have:=hlist.2.2;have e:=Array.length_toList (xs:=R0);omega
  have HC : Hid (∀ ty,(Builtin.copy_ #[25,25] ty #[.slice (some ⟨H,(i + 1) * 4,none⟩) (n - i) (G - (i + 1)),.slice (some ⟨g,i * 4,none⟩) (n - i) (cap - i)]).run Tryz.prog W2.drew = .ok (goInt (Nat.min (n - i) (n - i))) (W2.drew.setRow H (R1.toArray.toList.take ((i + 1) * 4) ++ (cur.toList.drop (i * 4)).take ((n - i) * 4) ++ R1.toArray.toList.drop ((i + 1) * 4 + ((cur.toList.drop (i * 4)).take ((n - i) * 4)).length)).toArray)):=fun ty=>by
    refine run_copy4 W2.drew ty H ((i + 1) * 4) (n - i) (G - (i + 1)) ⟨g,i * 4,none⟩ (n - i) (cap - i) R1.toArray 58 _ hH2 ?_ ?_ ?_ ?_
    · have : Nat.min (n - i) (n - i) = n - i:=by simp only [Nat.min_def];split <;> omega
      rw [this,List.length_take,List.length_drop,Array.length_toList];omega
    · intro j v hj
      have hadd : (⟨g,i * 4,none⟩ : Addr).add j = ⟨g,i * 4 + j,none⟩:=by unfold Addr.add;split <;> simp_all
      rw [hadd,cell_of_row W2.drew g _ _ _ _ hg2]
      rw [List.getElem?_take] at hj
      split at hj
      · rw [List.getElem?_drop] at hj;simpa using hj
      · cases hj
    · simp only [List.length_take,List.length_drop,Array.length_toList,List.size_toArray];omega
    · intro v hv';exact h1 v (mem_mid hi hv')
  have hGB2 : w.grownBy W2.drew none:=by
    rw [hW2]
    exact ⟨hGB1.os,hGB1.tape,hGB1.output,by have:=hGB1.size;simpa [World.setRow] using this,fun k hk hr=>(setRow_other W1 H k _ (by omega)).trans (hGB1.block k hk hr)⟩
  have HL : Hid (_ ∧ w.grownBy W2.drew none ∧ W2.drew.heap[H]? = some (.cells R1.toArray 58 (0,0)) ∧ R1.length = G * 4 ∧ R0.size = G * 4 ∧ w.heap.size ≤ H):=⟨hlist,hGB2,hH2,hR1s,hRs,by omega⟩
  clear hlist hGB2 hGB1 hH2 hR1s hRs hW2 hR1 hg2 hg1 hv1 hH1 hRt h1 h2 hg hv hys hcs hTl hH
  have hi1 : (i : Int) ≤ (n : Int):=by omega
  have hz2 : ((i : Int) == (n : Int)) = false:=by simp;omega
  have hcap' : (cap : Int) < (n : Int) + 1:=by omega
  have hw1 : IntKind.i64.wrap ((i : Int) + 1) = (i : Int) + 1:=by simp [IntKind.wrap,IntKind.bits,IntKind.signed];omega
  have hw2 : IntKind.i64.wrap ((n : Int) + 1) = (n : Int) + 1:=by simp [IntKind.wrap,IntKind.bits,IntKind.signed];omega
  have hw3 : IntKind.i64.wrap ((n : Int) + 1 - (i : Int)) = (n : Int) + 1 - (i : Int):=by simp [IntKind.wrap,IntKind.bits,IntKind.signed];omega
  have hw0 : (0 : Int) ≤ (i : Int) + 1:=by omega
  have htn : ((i : Int) + 1).toNat = i + 1:=by omega
  have hb1 : (i : Int) + 1 ≤ (n : Int) + 1:=by omega
  have hb3 : (i : Int) ≤ (n : Int) + 1:=by omega
  have hG63 : G ≤ 9223372036854775807:=by unfold maxLen at hG2;omega
  have hic : (i : Int) ≤ (cap : Int):=by omega
  have hGi : ¬ G = i:=by omega
  have hGi1 : ¬ G = i + 1:=by omega
  have hci : ¬ cap = i:=by omega
  go_enter Tryz.func190,Tryz.ntmps190
  go_wp2_with (first
    | (refine wpList_append_run rfl (.tmp 34) (.tmp 39) rfl _ _ (by rfl) (by rfl) (hrz _) ?_))
  refine wp_region_any (by kernel_rfl) ?_
  change wpAny _ _ _ _ _ _ _ (World.drew _)
  refine wpAny_take (i:=0) (v:=?_) rfl (by kernel_rfl) (by kernel_rfl) (by kernel_rfl) (fun _ _ _ h=>h) (Or.inl ⟨by rfl,?_⟩) ?_
  rotate_left
  · intro w;go_simp;with_reducible rfl
  try simp only [Act.put,uA,uC,uD,uE,uF]
  refine wpAny_take (i:=1) (v:=?_) rfl (by kernel_rfl) (by kernel_rfl) (by kernel_rfl) (fun _ _ _ h=>h) (Or.inl ⟨by rfl,?_⟩) ?_
  rotate_left
  · intro w;go_simp;with_reducible rfl
  try simp only [Act.put,uA,uB,uC,uD,uE,uF]
  refine wpAny_take (i:=2) (v:=?_) rfl (by kernel_rfl) (by kernel_rfl) (by kernel_rfl) (fun _ _ _ h=>h) (Or.inl ⟨by rfl,?_⟩) ?_
  rotate_left
  · intro w;go_simp;with_reducible rfl
  try simp only [Act.put,uA,uB,uC,uD,uE,uF]
  refine wpAny_take (i:=3) (v:=?_) rfl (by kernel_rfl) (by kernel_rfl) (by kernel_rfl) (fun _ _ _ h=>h) (Or.inl ⟨by rfl,?_⟩) ?_
  rotate_left
  · intro w;go_simp;with_reducible rfl
  try simp only [Act.put,uA,uB,uC,uD,uE,uF]
  refine wpAny_take (i:=4) (v:=?_) rfl (by kernel_rfl) (by kernel_rfl) (by kernel_rfl) (fun _ _ _ h=>h) (Or.inl ⟨by rfl,?_⟩) ?_
  rotate_left
  · intro w;go_simp;with_reducible rfl
  try simp only [Act.put,uA,uB,uC,uD,uE,uF]
  refine wpAny_take (i:=5) (v:=?_) rfl (by kernel_rfl) (by kernel_rfl) (by kernel_rfl) (fun _ _ _ h=>h) (Or.inl ⟨by rfl,?_⟩) ?_
  rotate_left
  · intro w;go_simp;with_reducible rfl
  try simp only [Act.put,uA,uB,uC,uD,uE,uF]
  refine wpAny_take (i:=6) (v:=?_) rfl (by kernel_rfl) (by kernel_rfl) (by kernel_rfl) (fun _ _ _ h=>h) (Or.inl ⟨by rfl,?_⟩) ?_
  rotate_left
  · intro w;go_simp;with_reducible rfl
  try simp only [Act.put,uA,uB,uC,uD,uE,uF]
  refine wpAny_take (i:=7) (v:=?_) rfl (by kernel_rfl) (by kernel_rfl) (by kernel_rfl) (fun _ _ _ h=>h) (Or.inl ⟨by rfl,?_⟩) ?_
  rotate_left
  · intro w;go_simp;with_reducible rfl
  try simp only [Act.put,uA,uB,uC,uD,uE,uF]
  refine wpAny_ready (rs:=[8]) (by kernel_rfl) (by simp) ?_
  refine AllReady.cons rfl (fun K hK=>?_) AllReady.nil
  refine step_copy_run (by rfl) (.tmp 50) (.tmp 53) (by rfl) _ _ (by rfl) (by rfl) (HC.out _) ?_
  refine hK _ _ ?_
  clear hK K
  try simp only [Act.put,uA,uB,uC,uD,uE,uF]
  refine wpAny_done (by kernel_rfl) ?_ _
  clear hcp1 hrz
  obtain ⟨C2,hC2⟩ : ∃ C2,C2 = R1.toArray.toList.take ((i + 1) * 4) ++ (cur.toList.drop (i * 4)).take ((n - i) * 4) ++ R1.toArray.toList.drop ((i + 1) * 4 + ((cur.toList.drop (i * 4)).take ((n - i) * 4)).length):=⟨_,rfl⟩
  rw [← hC2]
  have HC2 : Hid (C2 = _):=hC2
  clear hC2 HC
  generalize W2.drew = W3 at *
  go_wp2
  go_ret
  obtain ⟨q1,q2,q3,q4,q5,q6⟩:=HL.out
  refine ⟨_,_,rfl,?_,q6,hG1,hG2,_,setRow_heap W3 H _ _ 58 _ q3,?_,?_⟩
  · exact ⟨q2.os,q2.tape,q2.output,by have:=q2.size;simpa [World.setRow] using this,fun k hk hr=>(setRow_other W3 H k _ (by omega)).trans (q2.block k hk hr)⟩
  · have e:=q1.2.1;rw [Array.length_toList] at e;rw [List.size_toArray,HC2.out];exact e.trans q5
  · have e:=q1.1;rw [HC2.out];simpa using e
end

section
open Go.RowKit
theorem wpList_append_runs {ops : Array Oper} {rest : List Oper} {o : Oper} {a : Act} {w : World} {Q : Exit → Act → World → Prop} (hgd : o.guard = none) (d s : Operand)
    (ho : o.op = .call { callee:=.builtin .append,args:=#[d,s],argTypes:=#[25,25] }) (v u : Value) (hd : a.eval d = v) (hs : a.eval s = u) {v' : Value} {w' : World}
    (hr : (Builtin.append_ #[25,25] o.type #[v,u]).run Tryz.prog w = .ok v' w') (h : wpList Tryz.prog ops Q rest (a.put o.dst v') w') : wpList Tryz.prog ops Q (o :: rest) a w:=by
  refine wpList_plain hgd fun K hK=>?_
  unfold Oper.wp execOp
  simp only [ho,resolve,invoke,builtin,Sem.run_bind,Sem.run_pure,Result.andThen_ok,List.map_toArray,List.map_cons,List.map_nil,hd,hs,hr]
  exact hK _ _ h
theorem app_own (w : World) (base : Nat) (ty : TypeId) (v : Value) (n : Nat) (xs : List Value) (hown : w.ownsRow base 58 4 v n xs) (vb : Nat) (ys : Array Value) (hv : w.heap[vb]? = some (.cells ys 58)) (hys : ys.size = 4)
    (h2 : ∀ v ∈ ys.toList,v.oneCell' = true) (hn : n ≤ 1000) (hbase : base ≤ w.heap.size) :
    ∃ v' w',(Builtin.append_ #[25,25] ty #[v,.slice (some ⟨vb,0,none⟩) 1 1]).run Tryz.prog w = .ok v' w' ∧ w'.ownsRow base 58 4 v' (n + 1) (xs ++ ys.toList) ∧ w.grownBy w' v.ownBlock ∧ ∀ k,v'.ownBlock = some k → v.ownBlock = some k ∨ w.heap.size ≤ k:=by
  obtain ⟨i0,hi0,hz0,hzs,hzb⟩:=info_parts Tryz.info58
  have hl : ys.toList.length = 1 * 4:=by rw [Array.length_toList,hys]
  have hnews:=World.news_of_block hv
  obtain ⟨v',w',hr,q1,q2,_⟩:=run_append_own (P:=Tryz.prog) w base 25 ty 58 i0 _ 4 56 Tryz.underlying25 hi0 hz0 hzs hzb rfl (by omega) v n xs hown ⟨vb,0,none⟩ 1 1 ys.toList hl hnews h2 (by unfold maxLen;omega) (by omega) hbase
  refine ⟨v',w',hr,q1,q2,?_⟩
  rcases hown.2 with ⟨rfl,rfl⟩ | ⟨g,cap,cur,rfl,hbg,hg,hnc,hcm,hcs,htake⟩
  · obtain ⟨v2,w2,hr2,p1,_,_⟩:=run_append_own (P:=Tryz.prog) w w.heap.size 25 ty 58 i0 _ 4 56 Tryz.underlying25 hi0 hz0 hzs hzb rfl (by omega) _ 0 [] (World.ownsRow_nil _ _ _ _) ⟨vb,0,none⟩ 1 1 ys.toList hl hnews h2 (by unfold maxLen;omega) (by omega) (Nat.le_refl _)
    rw [hr] at hr2
    cases hr2
    exact fun k hk=>.inr (p1.lt k hk).1
  · by_cases hroom : n + 1 ≤ cap
    · have hr2:=run_append_room (P:=Tryz.prog) w 25 ty 58 i0 Tryz.underlying25 hi0 g n cap cur hg ⟨vb,0,none⟩ 1 1 ys.toList (by rw [hzs];exact hl) hnews h2 hroom (by rw [hzs,hl];omega)
      rw [hr] at hr2
      cases hr2
      exact fun k hk=>.inl hk
    · have hr2:=run_append_grow (P:=Tryz.prog) w 25 ty 58 i0 _ Tryz.underlying25 hi0 hz0 ⟨g,0,none⟩ n cap xs (by rw [hzs];exact hown.1) (hown.cells (g:=g) rfl) ⟨vb,0,none⟩ 1 1 ys.toList (by rw [hzs];exact hl) hnews (by omega) (by omega) (by rw [hzb];exact growslice_fits (by omega) (by omega))
      rw [hr] at hr2
      cases hr2
      exact fun k hk=>.inr (by simp [Value.ownBlock] at hk;omega)
set_option maxHeartbeats 800000 in
set_option maxRecDepth 100000 in
theorem insert_end (base n vb : Nat) (v : Value) (xs : List Value) (ys : Array Value) (w : World) (hn : n ≤ 1000) (hown : w.ownsRow base 58 4 v n xs)
    (hv : w.heap[vb]? = some (.cells ys 58)) (hys : ys.size = 4) (h2 : ∀ v ∈ ys.toList,v.oneCell' = true) (hbase : base ≤ w.heap.size) :
    Calls Tryz.prog 190 #[v,.int .i64 n,.slice (some ⟨vb,0,none⟩) 1 1] w fun e w'=>∃ v',e = .returned v' ∧ w'.ownsRow base 58 4 v' (n + 1) (xs ++ ys.toList) ∧ w.grownBy w' v.ownBlock ∧ ∀ k,v'.ownBlock = some k → v.ownBlock = some k ∨ w.heap.size ≤ k:=by
  obtain ⟨v',w',hr,q1,q2,q3⟩:=app_own w base 25 v n xs hown vb ys hv hys h2 hn hbase
  have HQ : Hid (w'.ownsRow base 58 4 v' (n + 1) (xs ++ ys.toList) ∧ w.grownBy w' v.ownBlock ∧ ∀ k,v'.ownBlock = some k → v.ownBlock = some k ∨ w.heap.size ≤ k):=⟨q1,q2,q3⟩
  clear q1 q2 q3
  rcases hown.2 with ⟨rfl,rfl⟩ | ⟨g,cap,cur,rfl,hbg,hg,hnc,hcm,hcs,htake⟩
  · clear hown hv hys h2
    go_enter Tryz.func190,Tryz.ntmps190
    go_wp2_with (refine wpList_append_runs rfl (.tmp 23) (.tmp 24) rfl _ _ (by rfl) (by rfl) hr ?_)
    go_ret
    exact ⟨_,rfl,HQ.out⟩
  · have hnc' : (n : Int) ≤ (cap : Int):=by omega
    have hcm' : cap ≤ 9223372036854775807:=by unfold maxLen at hcm;omega
    clear hown hv hys h2 hg htake hcs
    go_enter Tryz.func190,Tryz.ntmps190
    go_wp2_with (refine wpList_append_runs rfl (.tmp 23) (.tmp 24) rfl _ _ (by rfl) (by rfl) hr ?_)
    all_goals (go_ret;exact ⟨_,rfl,HQ.out⟩)
theorem insert_any (base n i vb : Nat) (v : Value) (xs : List Value) (ys : Array Value) (w : World) (hi : i ≤ n) (hn : n ≤ 1000) (hown : w.ownsRow base 58 4 v n xs)
    (hv : w.heap[vb]? = some (.cells ys 58)) (hys : ys.size = 4) (hne : v.ownBlock ≠ some vb) (h1 : ∀ v ∈ xs,v.oneCell' = true) (h2 : ∀ v ∈ ys.toList,v.oneCell' = true) (hbase : base ≤ w.heap.size) :
    Calls Tryz.prog 190 #[v,.int .i64 i,.slice (some ⟨vb,0,none⟩) 1 1] w fun e w'=>∃ v',e = .returned v' ∧ w'.ownsRow base 58 4 v' (n + 1) (xs.take (i * 4) ++ ys.toList ++ xs.drop (i * 4)) ∧ w.grownBy w' v.ownBlock ∧ ∀ k,v'.ownBlock = some k → v.ownBlock = some k ∨ w.heap.size ≤ k:=by
  rcases Nat.lt_or_ge i n with hlt | hge
  · rcases hown.2 with ⟨rfl,rfl⟩ | ⟨g,cap,cur,rfl,hbg,hg,hnc,hcm,hcs,htake⟩
    · omega
    have hxl:=hown.1
    have hx1 : cur.toList.take (i * 4) = xs.take (i * 4):=by
      rw [← htake,List.take_take];congr 1;omega
    have hx2 : (cur.toList.drop (i * 4)).take ((n - i) * 4) = xs.drop (i * 4):=by
      rw [← htake,List.take_drop];congr 2;omega
    have hxl' : (xs.take (i * 4) ++ ys.toList ++ xs.drop (i * 4)).length = (n + 1) * 4:=by
      simp only [List.length_append,List.length_take,List.length_drop,Array.length_toList];omega
    rcases Nat.lt_or_ge cap (n + 1) with hc | hc
    · refine (insert_grow g n cap i vb cur ys w hlt hnc hc hn hg hcs hv hys (by rw [htake];exact h1) h2).mono ?_
      rintro e w' ⟨H,G,rfl,hgb,hH,hG,hGm,cur',hc',hs',ht'⟩
      refine ⟨_,rfl,⟨hxl',.inr ⟨H,G,cur',rfl,by omega,hc',hG,hGm,hs',?_⟩⟩,?_,?_⟩
      · rw [ht',hx1,hx2]
      · exact ⟨hgb.os,hgb.tape,hgb.output,hgb.size,fun k hk _=>hgb.block k hk (by simp)⟩
      · intro k hk;cases hk;exact .inr hH
    · refine (insert_room g n cap i vb cur ys w hlt hc (by unfold maxLen at hcm;omega) hn hg hcs hv hys (fun e=>hne (by rw [e];rfl)) (by rw [htake];exact h1) h2).mono ?_
      rintro e w' ⟨rfl,hgb,cur',hc',hs',ht'⟩
      refine ⟨_,rfl,⟨hxl',.inr ⟨g,cap,cur',rfl,hbg,hc',hc,hcm,hs',?_⟩⟩,hgb,fun k hk=>.inl hk⟩
      rw [ht',hx1,hx2]
  · have hin : i = n:=by omega
    subst hin
    have hxl:=hown.1
    refine (insert_end base i vb v xs ys w hn hown hv hys h2 hbase).mono ?_
    rintro e w' ⟨v',rfl,ho,hgb,hfr⟩
    refine ⟨v',rfl,?_,hgb,hfr⟩
    rw [← hxl,List.take_length,List.drop_length,List.append_nil]
    exact ho
end

section
open Go.RowKit
section
variable {P : Program} {ops : Array Oper} {Q : Exit → Act → World → Prop} {md : Region.Mode} {S : World → Prop} {ex : Nat → Bool}
def wpAnyE (P : Program) (md : Region.Mode) (ops : Array Oper) (Q : Exit → Act → World → Prop) (S : World → Prop) (ex : Nat → Bool) : Nat → Array Bool → Act → World → Prop
  | 0,l,a,w=>Region.ready md ops l = [] ∧ Q .normal a w
  | n + 1,l,a,w=>(Region.ready md ops l = [] → Q .normal a w) ∧
      ∀ k ∈ Region.ready md ops l,wpOp P ops Q k (fun a' w'=>(ex k = false → S w') ∧ wpAnyE P md ops Q S ex n (l.setIfInBounds k true) a' w') a w
theorem wpAnyE.plain : ∀ {n : Nat} {l : Array Bool} {a : Act} {w : World},wpAnyE P md ops Q S ex n l a w → wpAny P md ops Q n l a w
  | 0,_,_,_,h=>h
  | _ + 1,_,_,_,h=>⟨h.1,fun k hk=>wpOp_mono (fun _ _ h'=>h'.2.plain) (h.2 k hk)⟩
def Clear (md : Region.Mode) (ops : Array Oper) (ex : Nat → Bool) (i : Nat) (oi : Oper) (l : Array Bool) : Prop :=
  ∀ k ok,ops[k]? = some ok → k ≠ i → l.getD k true = false → (∀ e ∈ ok.after,Region.binds md e = true → e.on ≠ i) → oi.apart ops ok = true ∧ ex k = false
theorem Clear.set {i j : Nat} {oi : Oper} {l : Array Bool} (h : Clear md ops ex i oi l) (hj : l.getD j true = false) : Clear md ops ex i oi (l.setIfInBounds j true):=by
  intro k ok hk hki hun hno
  by_cases e : j = k
  · exact h k ok hk hki (e ▸ hj) hno
  · exact h k ok hk hki (by rwa [getD_set_ne true e] at hun) hno
theorem not_waiting {i j : Nat} {oj : Oper} {l : Array Bool} (hi : i ∈ Region.ready md ops l) (hoj : ops[j]? = some oj) (hj : j ∈ Region.ready md ops l) : ∀ e ∈ oj.after,Region.binds md e = true → e.on ≠ i:=by
  intro e he hb heq
  obtain ⟨_,o,ho,hall⟩:=mem_ready.1 hj
  rw [hoj] at ho
  cases ho
  have q1:=hall e he hb
  have q0:=(mem_ready.1 hi).1
  rw [heq] at q1
  rcases Nat.lt_or_ge i l.size with c | c
  · simp [c] at q0 q1
    exact absurd (q0.symm.trans q1) (by simp)
  · simp [Array.getElem?_eq_none c] at q1
theorem wpAnyE.first {i : Nat} {oi : Oper} {v : Value} (hi : ops[i]? = some oi) (hsel : ∀ (j : Nat) (o : Oper) cs b,ops[j]? = some o → o.op ≠ .select cs b)
    (hQ : ∀ c a w,Q (.panic c) (a.put oi.dst v) w → Q (.panic c) a w) (n : Nat) :
    ∀ (l : Array Bool) (a : Act) (w : World),Clear md ops ex i oi l → i ∈ Region.ready md ops l → YieldsIf P ops S oi v a → S w →
      wpAnyE P md ops Q S ex n (l.setIfInBounds i true) (a.put oi.dst v) w → wpAnyE P md ops Q S ex (n + 1) l a w:=by
  induction n with
  | zero =>
    intro l a w _ hr hy hS H
    refine ⟨fun h=>(by rw [h] at hr;cases hr),fun j hj=>?_⟩
    by_cases hji : j = i
    · subst hji
      exact hy.wpOp hi hS ⟨fun _=>hS,H⟩
    · have:=ready_mono hj hji
      rw [H.1] at this
      cases this
  | succ n ih =>
    intro l a w hc hr hy hS H
    refine ⟨fun h=>(by rw [h] at hr;cases hr),fun j hj=>?_⟩
    by_cases hji : j = i
    · subst hji
      exact hy.wpOp hi hS ⟨fun _=>hS,H⟩
    · obtain ⟨hun,oj,hoj,_⟩:=mem_ready.1 hj
      obtain ⟨hap,hexj⟩:=hc j oj hoj hji hun (not_waiting hr hoj hj)
      have hstep:=wpOp_putIf hoj hap (fun cs b=>hsel i oi cs b hi) (fun cs b=>hsel j oj cs b hoj) hQ hy (H.2 j (ready_mono hj hji))
      refine wpOp_mono (fun a' w' q=>⟨q.2.1,ih _ a' w' (hc.set hun) (ready_mono hr (Ne.symm hji)) q.1 (q.2.1 hexj) ?_⟩) hstep
      rw [Array.setIfInBounds_comm _ _ hji]
      exact q.2.2
def waits (md : Region.Mode) (ops : Array Oper) (ex : Nat → Bool) (i : Nat) : Bool :=
  (List.range ops.size).all fun k=>!(ex k) || (match ops[k]? with | some o=>o.after.any fun e=>Region.binds md e && e.on == i | none=>true)
theorem wpAnyE.take {i : Nat} {oi : Oper} {v : Value} {fuel : Nat} {l : Array Bool} {a : Act} {w : World} (hi : ops[i]? = some oi)
    (hs : Region.noSelect ops = true) (hf : Region.free md ops l i = true) (hr : (Region.ready md ops l).contains i = true) (hx : waits md ops ex i = true)
    (hQ : ∀ c a w,Q (.panic c) (a.put oi.dst v) w → Q (.panic c) a w) (hy : YieldsIf P ops S oi v a) (hS : S w)
    (h : wpAnyE P md ops Q S ex fuel (l.setIfInBounds i true) (a.put oi.dst v) w) : wpAnyE P md ops Q S ex (fuel + 1) l a w:=by
  refine wpAnyE.first hi (Region.noSelect_spec hs) hQ fuel l a w ?_ (by simpa using hr) hy hS h
  intro k ok hk hki hun hno
  refine ⟨Region.free_spec hi hf k ok hk hki hun hno,?_⟩
  cases hxk : ex k with
  | false=>rfl
  | true =>
    exfalso
    have hlt : k < ops.size:=by
      rcases Nat.lt_or_ge k ops.size with c | c
      · exact c
      · rw [Array.getElem?_eq_none c] at hk;cases hk
    have:=List.all_eq_true.1 hx k (List.mem_range.2 hlt)
    simp only [hxk,hk,Bool.not_true,Bool.false_or] at this
    obtain ⟨e,he,hb⟩:=Array.any_eq_true'.1 this
    simp only [Bool.and_eq_true,beq_iff_eq] at hb
    exact hno e he hb.1 hb.2
theorem wpAnyE.one {i : Nat} {o : Oper} {fuel : Nat} {l : Array Bool} {a : Act} {w : World} (hr : Region.ready md ops l = [i]) (ho : ops[i]? = some o)
    (h : ∀ K : Act → World → Prop,(∀ a w,(ex i = false → S w) → wpAnyE P md ops Q S ex fuel (l.setIfInBounds i true) a w → K a w) → if Region.wanted o (yielded ops a.tmps) = true then Oper.wp P o a w K Q else K (a.put o.dst undef) w) :
    wpAnyE P md ops Q S ex (fuel + 1) l a w:=by
  refine ⟨fun e=>(by rw [hr] at e;cases e),fun k hk=>?_⟩
  rw [hr] at hk
  obtain rfl:=List.mem_singleton.1 hk
  exact wpOp_step ho fun K hK=>h K fun a w h1 h2=>hK a w ⟨h1,h2⟩
theorem wpAnyE.two {i j : Nat} {o u : Oper} {fuel : Nat} {l : Array Bool} {a : Act} {w : World} (hr : Region.ready md ops l = [i,j]) (ho : ops[i]? = some o) (hu : ops[j]? = some u)
    (h : ∀ K : Act → World → Prop,(∀ a w,(ex i = false → S w) → wpAnyE P md ops Q S ex fuel (l.setIfInBounds i true) a w → K a w) → if Region.wanted o (yielded ops a.tmps) = true then Oper.wp P o a w K Q else K (a.put o.dst undef) w)
    (h' : ∀ K : Act → World → Prop,(∀ a w,(ex j = false → S w) → wpAnyE P md ops Q S ex fuel (l.setIfInBounds j true) a w → K a w) → if Region.wanted u (yielded ops a.tmps) = true then Oper.wp P u a w K Q else K (a.put u.dst undef) w) :
    wpAnyE P md ops Q S ex (fuel + 1) l a w:=by
  refine ⟨fun e=>(by rw [hr] at e;cases e),fun k hk=>?_⟩
  rw [hr] at hk
  rcases List.mem_cons.1 hk with rfl | hk
  · exact wpOp_step ho fun K hK=>h K fun a w h1 h2=>hK a w ⟨h1,h2⟩
  · obtain rfl:=List.mem_singleton.1 hk
    exact wpOp_step hu fun K hK=>h' K fun a w h1 h2=>hK a w ⟨h1,h2⟩
theorem wpAnyE.done {fuel : Nat} {l : Array Bool} {a : Act} {w : World} (hr : Region.ready md ops l = []) (h : Q .normal a w) : wpAnyE P md ops Q S ex fuel l a w:=by
  cases fuel with
  | zero=>exact ⟨hr,h⟩
  | succ n=>exact ⟨fun _=>h,by rw [hr];simp⟩
theorem wp_region_E {id : Nat} {a : Act} {w : World} (S : World → Prop) (ex : Nat → Bool) (hm : P.follows .mixedOrders = true) (hS : S w.drew)
    (h : S w.drew → wpAnyE P .any ops Q S ex ops.size (Array.replicate ops.size false) a w.drew) : (Code.region id ops true).wp P Q a w :=
  wp_region_any hm (h hS).plain
end
end

section
open Go.RowKit
structure Pl where
  x : Ob
  sa : Option Addr
  sc : Nat
def Pl.cells (r : Pl) : List Value:=[.int .i64 r.x.id,.int .i64 r.x.kind,.slice r.sa r.x.links.length r.sc,.string r.x.text]
def rowC : List Pl → List Value
  | []=>[]
  | r :: rs=>r.cells ++ rowC rs
theorem rowC_append (A B : List Pl) : rowC (A ++ B) = rowC A ++ rowC B:=by
  induction A with
  | nil=>rfl
  | cons r A ih=>simp [rowC,ih,List.append_assoc]
theorem rowC_length (A : List Pl) : (rowC A).length = A.length * 4:=by
  induction A with
  | nil=>rfl
  | cons r A ih=>simp [rowC,ih,Pl.cells];omega
theorem rowC_take (A : List Pl) (i : Nat) (hi : i ≤ A.length) : (rowC A).take (i * 4) = rowC (A.take i):=by
  have h:=rowC_append (A.take i) (A.drop i)
  rw [List.take_append_drop] at h
  rw [h,List.take_append_of_le_length (by rw [rowC_length,List.length_take];omega),List.take_of_length_le (by rw [rowC_length,List.length_take];omega)]
theorem rowC_drop (A : List Pl) (i : Nat) (hi : i ≤ A.length) : (rowC A).drop (i * 4) = rowC (A.drop i):=by
  have h:=rowC_append (A.take i) (A.drop i)
  rw [List.take_append_drop] at h
  rw [h,show i * 4 = (rowC (A.take i)).length by rw [rowC_length,List.length_take];omega,List.drop_left]
theorem rowC_one (A : List Pl) : ∀ v ∈ rowC A,v.oneCell' = true:=by
  induction A with
  | nil=>intro v h;cases h
  | cons r A ih =>
    intro v h
    rcases List.mem_append.1 h with h | h
    · simp only [Pl.cells,List.mem_cons,List.not_mem_nil,or_false] at h
      rcases h with rfl | rfl | rfl | rfl <;> rfl
    · exact ih v h
theorem rowC_get (A : List Pl) (i j : Nat) (hi : i < A.length) (hj : j < 4) : (rowC A)[i * 4 + j]? = (A[i].cells)[j]?:=by
  induction A generalizing i with
  | nil=>simp at hi
  | cons r A ih =>
    cases i with
    | zero =>
      simp only [rowC,Nat.zero_mul,Nat.zero_add,List.getElem_cons_zero]
      exact List.getElem?_append_left (by simpa [Pl.cells] using hj)
    | succ i =>
      have:=ih i (by simpa using hi)
      rw [List.getElem_cons_succ,← this]
      simp only [rowC]
      rw [List.getElem?_append_right (by simp [Pl.cells];omega)]
      congr 1
      simp [Pl.cells];omega
def Own0 (w : World) (z : Nat) (blk : Option Nat) (r : Pl) : Prop :=
  (r.x.links.length ≤ 1000 ∧ r.x.links.length ≤ r.sc) ∧ (0 < r.x.links.length → ∃ b off,r.sa = some ⟨b,off,none⟩ ∧ z ≤ b ∧ b < w.heap.size ∧ blk ≠ some b ∧ ∀ i,i < r.x.links.length → w.cell? ⟨b,off + i,none⟩ = some (.int .i64 (r.x.links.getD i 0)))
theorem Own0.holds {w : World} {z : Nat} {blk : Option Nat} {r : Pl} (h : Own0 w z blk r) : Holds w r.sa r.x.links:=by
  intro i hi
  obtain ⟨b,off,e,_,hlt,_,hc⟩:=h.2 (by omega)
  exact ⟨b,off,e,hlt,hc⟩
structure Objs (w : World) (z : Nat) (v : Value) (rs : List Pl) : Prop where
  own : w.ownsRow z 58 4 v rs.length (rowC rs)
  each : ∀ r ∈ rs,Own0 w z v.ownBlock r
structure Shelf (w : World) (z p : Nat) (v : Value) (rs : List Pl) : Prop where
  zp : z ≤ p
  blk : w.heap[p]? = some (.cells #[v] 181)
  sep : v.ownBlock ≠ some p
  objs : Objs w z v rs
  off : ∀ r ∈ rs,0 < r.x.links.length → ∀ b off,r.sa = some ⟨b,off,none⟩ → b ≠ p
theorem Shelf.own {w : World} {z p : Nat} {v : Value} {rs : List Pl} (h : Shelf w z p v rs) : w.ownsRow z 58 4 v rs.length (rowC rs):=h.objs.own
theorem heap_lt {w : World} {k : Nat} {o : Obj} (h : w.heap[k]? = some o) : k < w.heap.size:=by
  rcases Nat.lt_or_ge k w.heap.size with c | c
  · exact c
  · rw [Array.getElem?_eq_none c] at h;cases h
theorem ownsRow_same {w w' : World} {base : Nat} {v : Value} {n : Nat} {xs : List Value} (h : w.ownsRow base 58 4 v n xs) (hs : ∀ g,v.ownBlock = some g → w'.heap[g]? = w.heap[g]?) : w'.ownsRow base 58 4 v n xs:=by
  refine ⟨h.1,?_⟩
  rcases h.2 with h | ⟨g,cap,cur,rfl,h1,h2,h3⟩
  · exact .inl h
  · exact .inr ⟨g,cap,cur,rfl,h1,(hs g rfl).trans h2,h3⟩
theorem Shelf.lt {w : World} {z p : Nat} {v : Value} {rs : List Pl} (h : Shelf w z p v rs) : p < w.heap.size:=heap_lt h.blk
theorem Objs.below {w w' : World} {z : Nat} {v : Value} {rs : List Pl} (h : Objs w z v rs) (hb : Below w.heap.size w w') : Objs w' z v rs:=by
  refine ⟨ownsRow_same h.own (fun g hg=>hb.block g (h.own.lt g hg).2),fun r hr=>?_⟩
  obtain ⟨h1,h2⟩:=h.each r hr
  refine ⟨h1,fun h0=>?_⟩
  obtain ⟨b,off,e,hpb,hlt,hne,hc⟩:=h2 h0
  exact ⟨b,off,e,hpb,Nat.lt_of_lt_of_le hlt hb.size,hne,fun i hi=>(hb.cell (p:=⟨b,off + i,none⟩) hlt).trans (hc i hi)⟩
theorem Shelf.below {w w' : World} {z p : Nat} {v : Value} {rs : List Pl} (h : Shelf w z p v rs) (hb : Below w.heap.size w w') : Shelf w' z p v rs :=
  ⟨h.zp,(hb.block p h.lt).trans h.blk,h.sep,h.objs.below hb,h.off⟩
theorem Shelf.cell {w : World} {z p : Nat} {v : Value} {rs : List Pl} (h : Shelf w z p v rs) : w.cell? ⟨p,0,none⟩ = some v:=by
  simp [World.cell?,h.blk]
theorem Objs.reads {w : World} {z : Nat} {v : Value} {rs : List Pl} (h : Objs w z v rs) : ∃ a c,v = .slice a (rs.map Pl.x).length c ∧ HoldsS w a (rs.map Pl.x) ∧ rs.length ≤ c:=by
  rw [List.length_map]
  rcases h.own.2 with ⟨rfl,e⟩ | ⟨g,cap,cur,rfl,h1,h2,h3,h4,h5,h6⟩
  · rw [e]
    refine ⟨none,0,rfl,fun i hi=>?_,Nat.le_refl _⟩
    rw [List.length_map] at hi;omega
  · refine ⟨_,_,rfl,fun i hi=>⟨g,0,rfl,heap_lt h2,fun k hk=>?_⟩,h3⟩
    rw [List.length_map] at hk
    have hc : ∀ j,j < 4 → w.cell? ⟨g,0 + k * 4 + j,none⟩ = (rs[k].cells)[j]?:=fun j hj=>by
      rw [Nat.zero_add,cell_of_row w g _ _ _ _ h2,← rowC_get rs k j hk hj,← h6,List.getElem?_take,if_pos (by omega)]
      simp
    have hr:=h.each rs[k] (List.getElem_mem hk)
    refine ⟨rs[k].sa,rs[k].sc,?_⟩
    rw [List.getElem_map]
    exact ⟨by simpa [Pl.cells] using hc 0 (by omega),by simpa [Pl.cells] using hc 1 (by omega),by simpa [Pl.cells] using hc 2 (by omega),by simpa [Pl.cells] using hc 3 (by omega),hr.holds,by have:=hr.1;omega⟩
theorem Shelf.reads {w : World} {z p : Nat} {v : Value} {rs : List Pl} (h : Shelf w z p v rs) : ∃ a c,v = .slice a (rs.map Pl.x).length c ∧ HoldsS w a (rs.map Pl.x) ∧ rs.length ≤ c:=h.objs.reads
def Room (w : World) (a : Option Addr) (l : List Ob) : Prop:=∀ b off,a = some ⟨b,off,none⟩ → ∀ k,k < l.length → b < w.heap.size ∧ ∀ sa n sc,w.cell? ⟨b,off + k * 4 + 2,none⟩ = some (.slice sa n sc) → n ≤ sc
theorem Room.below {w w' : World} {a : Option Addr} {l : List Ob} (h : Room w a l) (hb : Below w.heap.size w w') : Room w' a l:=fun b off e k hk=>by
  obtain ⟨h1,h2⟩:=h b off e k hk
  refine ⟨Nat.lt_of_lt_of_le h1 hb.size,fun sa n sc hc=>h2 sa n sc ?_⟩
  rwa [hb.cell (p:=⟨b,off + k * 4 + 2,none⟩) h1] at hc
theorem Objs.room {w : World} {z : Nat} {rs : List Pl} {a : Option Addr} {n c : Nat} (h : Objs w z (.slice a n c) rs) : Room w a (rs.map Pl.x):=by
  intro b off ea k hk
  rw [List.length_map] at hk
  rcases h.own.2 with ⟨_,e⟩ | ⟨g,cap,cur,e,h1,h2,h3,h4,h5,h6⟩
  · omega
  · have ea2 : a = some ⟨g,0,none⟩:=by cases e;rfl
    rw [ea] at ea2
    cases ea2
    refine ⟨heap_lt h2,fun sa n sc hc=>?_⟩
    have hq : w.cell? ⟨b,0 + k * 4 + 2,none⟩ = (rs[k].cells)[2]?:=by
      rw [Nat.zero_add,cell_of_row w b _ _ _ _ h2,← rowC_get rs k 2 hk (by omega),← h6,List.getElem?_take,if_pos (by omega)]
      simp
    rw [hc] at hq
    simp only [Pl.cells,List.getElem?_cons_succ,List.getElem?_cons_zero,Option.some.injEq,Value.slice.injEq] at hq
    have:=(h.each rs[k] (List.getElem_mem hk)).1.2
    omega
theorem Shelf.room {w : World} {z p : Nat} {rs : List Pl} {a : Option Addr} {n c : Nat} (h : Shelf w z p (.slice a n c) rs) : Room w a (rs.map Pl.x):=h.objs.room
theorem Objs.next {w w1 w2 : World} {z : Nat} {v v' : Value} {rs rs' : List Pl} {r : Pl} (h : Objs w z v rs) (hz : z ≤ w.heap.size) (hb : Below w.heap.size w w1) (hg : w1.grownBy w2 v.ownBlock)
    (ho : w2.ownsRow z 58 4 v' rs'.length (rowC rs')) (hk : ∀ k,v'.ownBlock = some k → v.ownBlock = some k ∨ w1.heap.size ≤ k)
    (hm : ∀ s ∈ rs',s ∈ rs ∨ s = r) (hl : r.x.links.length ≤ 1000 ∧ r.x.links.length ≤ r.sc) (hr : Holds w1 r.sa r.x.links) (hr' : ∀ b off,r.sa = some ⟨b,off,none⟩ → w.heap.size ≤ b) :
    Objs w2 z v' rs' ∧ Below z w w2:=by
  have h1:=h.below hb
  have hs1:=hb.size
  have hs2:=hg.size
  refine ⟨⟨ho,?_⟩,?_⟩
  · intro s hs
    have key : (s.x.links.length ≤ 1000 ∧ s.x.links.length ≤ s.sc) ∧ (0 < s.x.links.length → ∃ b off,s.sa = some ⟨b,off,none⟩ ∧ z ≤ b ∧ b < w1.heap.size ∧ v.ownBlock ≠ some b ∧ ∀ i,i < s.x.links.length → w1.cell? ⟨b,off + i,none⟩ = some (.int .i64 (s.x.links.getD i 0))):=by
      rcases hm s hs with hin | rfl
      · exact h1.each s hin
      · refine ⟨hl,fun h0=>?_⟩
        obtain ⟨b,off,e,hlt,hc⟩:=hr 0 h0
        have hge:=hr' b off e
        exact ⟨b,off,e,by omega,hlt,fun e'=>by have:=(h.own.lt b e').2;omega,hc⟩
    refine ⟨key.1,fun h0=>?_⟩
    obtain ⟨b,off,e,hpb,hlt,hne,hc⟩:=key.2 h0
    refine ⟨b,off,e,hpb,by omega,fun e'=>?_,fun i hi=>?_⟩
    · rcases hk b e' with q | q
      · exact hne q
      · omega
    · rw [World.cell?_of_block (a:=⟨b,off + i,none⟩) (hg.block b hlt (fun q=>hne q.symm))]
      exact hc i hi
  · refine ⟨hg.os.trans hb.os,hg.tape.trans hb.tape,hg.output.trans hb.output,by omega,fun k hk=>?_⟩
    rw [hg.block k (by omega) (fun e=>by have:=(h.own.lt k e.symm).1;omega)]
    exact hb.block k (by omega)
theorem Shelf.next {w w1 w2 : World} {z p : Nat} {v v' : Value} {rs rs' : List Pl} {r : Pl} (h : Shelf w z p v rs) (hb : Below w.heap.size w w1) (hg : w1.grownBy w2 v.ownBlock)
    (ho : w2.ownsRow z 58 4 v' rs'.length (rowC rs')) (hk : ∀ k,v'.ownBlock = some k → v.ownBlock = some k ∨ w1.heap.size ≤ k)
    (hm : ∀ s ∈ rs',s ∈ rs ∨ s = r) (hl : r.x.links.length ≤ 1000 ∧ r.x.links.length ≤ r.sc) (hr : Holds w1 r.sa r.x.links) (hr' : ∀ b off,r.sa = some ⟨b,off,none⟩ → w.heap.size ≤ b) :
    Shelf (w2.setCell ⟨p,0,none⟩ v') z p v' rs' ∧ Below z w (w2.setCell ⟨p,0,none⟩ v'):=by
  have hpl:=h.lt
  have hzp:=h.zp
  obtain ⟨O,HB⟩:=h.objs.next (by omega) hb hg ho hk hm hl hr hr'
  have h1:=h.below hb
  have hbp : w2.heap[p]? = some (.cells #[v] 181):=(hg.block p h1.lt (fun e=>h.sep e.symm)).trans h1.blk
  have hoth : ∀ k,k ≠ p → (w2.setCell ⟨p,0,none⟩ v').heap[k]? = w2.heap[k]?:=fun k hk=>heap_setCell_other w2 ⟨p,0,none⟩ k v' hk
  have hsz : (w2.setCell ⟨p,0,none⟩ v').heap.size = w2.heap.size:=World.size_setCell _ _ _
  have hs1:=hb.size
  have hs2:=hg.size
  have hsep : v'.ownBlock ≠ some p:=fun e=>by
    rcases hk p e with q | q
    · exact h.sep q
    · omega
  have hoff : ∀ s ∈ rs',0 < s.x.links.length → ∀ b off,s.sa = some ⟨b,off,none⟩ → b ≠ p:=fun s hs h0 b off e=>by
    rcases hm s hs with hin | rfl
    · exact h.off s hin h0 b off e
    · have:=hr' b off e;omega
  refine ⟨⟨hzp,?_,hsep,⟨?_,?_⟩,hoff⟩,?_⟩
  · have:=heap_setCell_same w2 p 0 #[v] 181 v' hbp
    simpa using this
  · exact ownsRow_same O.own (fun g e=>hoth g (fun q=>hsep (q ▸ e)))
  · intro s hs
    obtain ⟨k1,k2⟩:=O.each s hs
    refine ⟨k1,fun h0=>?_⟩
    obtain ⟨b,off,e,hpb,hlt,hne,hc⟩:=k2 h0
    refine ⟨b,off,e,hpb,by omega,hne,fun i hi=>?_⟩
    rw [World.cell?_of_block (a:=⟨b,off + i,none⟩) (hoth b (hoff s hs h0 b off e))]
    exact hc i hi
  · refine ⟨HB.os,HB.tape,HB.output,by have:=HB.size;omega,fun k hk=>?_⟩
    rw [hoth k (by omega)]
    exact HB.block k hk
end

section
open Go.RowKit
theorem own_slice {w : World} {base : Nat} {v : Value} {n : Nat} {xs : List Value} (h : w.ownsRow base 58 4 v n xs) : ∃ g m c,v = .slice g m c:=by
  rcases h.2 with ⟨e,_⟩ | ⟨g,cap,_,e,_⟩
  · exact ⟨_,_,_,e⟩
  · exact ⟨_,_,_,e⟩
theorem Cells4.grown {B : Nat} {x0 x1 x2 x3 : Value} {w w' : World} {row : Option Nat} (h : Cells4 B x0 x1 x2 x3 w) (hg : w.grownBy w' row) (hn : row ≠ some B) : Cells4 B x0 x1 x2 x3 w':=by
  have e:=hg.block B h.lt (Ne.symm hn)
  exact ⟨(World.cell?_of_block (a:=⟨B,0,none⟩) e).trans h.c0,(World.cell?_of_block (a:=⟨B,1,none⟩) e).trans h.c1,(World.cell?_of_block (a:=⟨B,2,none⟩) e).trans h.c2,(World.cell?_of_block (a:=⟨B,3,none⟩) e).trans h.c3,
    (World.frozen?_of_block (a:=⟨B,0,none⟩) e).trans h.f0,(World.frozen?_of_block (a:=⟨B,1,none⟩) e).trans h.f1,(World.frozen?_of_block (a:=⟨B,2,none⟩) e).trans h.f2,(World.frozen?_of_block (a:=⟨B,3,none⟩) e).trans h.f3,Nat.lt_of_lt_of_le h.lt hg.size⟩
theorem wpList_append_h {t : TypeId} {ops : Array Oper} {rest : List Oper} {o : Oper} {a : Act} {w : World} {Q : Exit → Act → World → Prop} (hgd : o.guard = none) (d s : Operand)
    (ho : o.op = .call { callee:=.builtin .append,args:=#[d,s],argTypes:=#[t,t] }) (v u : Value) (hd : a.eval d = v) (hs : a.eval s = u) {v' : Value} {w' : World}
    (hr : (Builtin.append_ #[t,t] o.type #[v,u]).run Tryz.prog w = .ok v' w') (h : wpList Tryz.prog ops Q rest (a.put o.dst v') w') : wpList Tryz.prog ops Q (o :: rest) a w:=by
  refine wpList_plain hgd fun K hK=>?_
  unfold Oper.wp execOp
  simp only [ho,resolve,invoke,builtin,Sem.run_bind,Sem.run_pure,Result.andThen_ok,List.map_toArray,List.map_cons,List.map_nil,hd,hs,hr]
  exact hK _ _ h
theorem Objs.shelf {w : World} {z : Nat} {v : Value} {rs : List Pl} (h : Objs w z v rs) (hz : z ≤ w.heap.size) : Shelf (w.alloc (.cells #[v] 181)) z w.heap.size v rs :=
  ⟨hz,heap_alloc_new w _,fun e=>by have:=(h.own.lt _ e).2;omega,h.below (below_alloc _ _),fun r hr h0 b off e=>by
    obtain ⟨b',off',e',_,hlt,_⟩:=(h.each r hr).2 h0
    rw [e] at e'
    cases e'
    omega⟩
set_option maxHeartbeats 1000000 in
theorem objects_any (a : Option Addr) (c : Nat) (l : List Ob) (w : World) (h : HoldsS w a l) (hl : l.length ≤ 1000) (hx : ∀ x ∈ l,x.links.length ≤ 1000) :
    Calls Tryz.prog 130 #[.slice a l.length c] w fun e w'=>∃ v rs,e = .returned v ∧ rs.map Pl.x = l ∧ Objs w' w.heap.size v rs ∧ Below w.heap.size w w':=by
  have S0 : Objs w w.heap.size (.slice none 0 0) []:=⟨World.ownsRow_nil _ _ _ _,fun r hr=>by cases hr⟩
  go_enter Tryz.func130,Tryz.ntmps130
  go_wp2
  go_loopw [3,8] (fun o i wr=>∃ (k : Nat) (v : Value) (rs : List Pl),i = .int .i64 k ∧ o = v ∧ k ≤ l.length ∧ rs.map Pl.x = l.take k ∧ Objs wr w.heap.size v rs ∧ Below w.heap.size w wr) (fun _ i _=>l.length - (intOf i).toNat)
  case atStart=>exact ⟨0,_,[],rfl,rfl,Nat.zero_le _,rfl,S0,Below.refl _ _⟩
  case round =>
    clear S0
    obtain ⟨k,v,rs,rfl,rfl,hk,hrs,SH,HB⟩:=hrel
    obtain ⟨g0,m0,c0,rfl⟩:=own_slice SH.own
    by_cases hlt : k < l.length
    · obtain ⟨b,off,rfl,hb,hc⟩:=h k hlt
      have hO:=(hc k hlt).below HB hb
      clear hc
      obtain ⟨sa,sc,y0,y1,y2,y3,y4,y5⟩:=hO
      have hA:=below_alloc wr (.cells #[.int .i64 l[k].id,.int .i64 l[k].kind,.slice sa l[k].links.length sc,.string l[k].text] 58)
      have SA:=SH.below hA
      have C:=Cells4.new wr (.int .i64 l[k].id) (.int .i64 l[k].kind) (.slice sa l[k].links.length sc) (.string l[k].text) 58
      have hH:=y4.below hA
      have hxl:=hx l[k] (List.getElem_mem hlt)
      have HBA:=HB.trans (hA.mono HB.size)
      go_wp2_with fail
      generalize wr.alloc (.cells #[.int .i64 l[k].id,.int .i64 l[k].kind,.slice sa l[k].links.length sc,.string l[k].text] 58) = W at *
      clear y0 y1 y2 y3 y4 hA HB SH
      refine (copyOf_any l[k] sa sc W hH hxl).mono ?_
      rintro e W1 ⟨ta,tc,rfl,hta,hb1,hfr,htc⟩
      have hb2:=below_alloc W1 (.cells #[.int .i64 l[k].id,.int .i64 l[k].kind,.slice ta l[k].links.length tc,.string l[k].text] 58)
      have hv2:=heap_alloc_new W1 (.cells #[.int .i64 l[k].id,.int .i64 l[k].kind,.slice ta l[k].links.length tc,.string l[k].text] 58)
      have SH2:=(SA.below hb1).below hb2
      have hrl : rs.length = k:=by have:=congrArg List.length hrs;rw [List.length_map,List.length_take] at this;omega
      have hwz:=Nat.le_trans HBA.size (Nat.le_trans hb1.size hb2.size)
      obtain ⟨v',W3,hr3,ho3,hg3,hf3⟩:=app_own _ w.heap.size 25 _ rs.length (rowC rs) SH2.own W1.heap.size _ hv2 rfl (by intro u hu;simp only [List.mem_cons,List.not_mem_nil,or_false] at hu;rcases hu with rfl | rfl | rfl | rfl <;> rfl) (by omega) hwz
      obtain ⟨g',m',c',rfl⟩:=own_slice ho3
      have NX:=SA.next (rs':=rs ++ [⟨l[k],ta,tc⟩]) (r:=⟨l[k],ta,tc⟩) HBA.size (hb1.trans (hb2.mono hb1.size)) hg3 (by rw [List.length_append,rowC_append];exact ho3) hf3 (by intro s hs;rcases List.mem_append.1 hs with q | q;exact .inl q;exact .inr (List.mem_singleton.1 q)) ⟨hxl,htc⟩ (hta.below hb2) hfr
      have hBB:=HBA.trans (NX.2.mono (Nat.le_refl _))
      have hM : (rs ++ [(⟨l[k],ta,tc⟩ : Pl)]).map Pl.x = l.take (k + 1):=by rw [List.map_append,hrs,List.take_succ_eq_append_getElem hlt];rfl
      have HN : Hid (_ ∧ _ ∧ _):=⟨hM,NX.1,hBB⟩
      clear NX hBB hM hf3 hg3 ho3 SH2 hv2 hb2 hb1 hta hfr htc SA C HBA hH hwz
      go_wp2_with (at_builtin;refine wpList_append_h (by rfl) (.tmp 12) (.tmp 15) (by rfl) _ _ (by rfl) (by rfl) hr3 ?_)
      go_roundw
      case rel=>exact ⟨k + 1,_,_,by go_num,rfl,by omega,HN.out.1,HN.out.2.1,HN.out.2.2⟩
      case measure=>simp [intOf];omega
    · have hM : rs.map Pl.x = l:=by rw [hrs,List.take_of_length_le (by omega)]
      have HN : Hid (_ ∧ _ ∧ _):=⟨hM,SH,HB⟩
      clear hM SH HB hrs
      go_wp2
      go_ret
      exact ⟨_,rs,rfl,HN.out.1,HN.out.2.1,HN.out.2.2⟩
set_option maxHeartbeats 400000 in
theorem newShelf_any (a : Option Addr) (c : Nat) (l : List Ob) (w : World) (h : HoldsS w a l) (hl : l.length ≤ 1000) (hx : ∀ x ∈ l,x.links.length ≤ 1000) :
    Calls Tryz.prog 135 #[.slice a l.length c] w fun e w'=>∃ p v rs,e = .returned (.pointer (some ⟨p,0,none⟩)) ∧ rs.map Pl.x = l ∧ Shelf w' w.heap.size p v rs ∧ Below w.heap.size w w':=by
  go_enter Tryz.func135,Tryz.ntmps135
  go_wp2_with fail
  refine (objects_any a c l w h hl hx).mono ?_
  rintro e w1 ⟨v,rs,rfl,hrs,O1,hb1⟩
  obtain ⟨g',m',c',rfl⟩:=own_slice O1.own
  have SH : Hid (_ ∧ _):=⟨O1.shelf hb1.size,hb1.trans ((below_alloc w1 (.cells #[.slice g' m' c'] 181)).mono hb1.size)⟩
  clear O1 hb1
  go_wp2
  go_ret
  exact ⟨_,_,rs,rfl,hrs,SH.out.1,SH.out.2⟩
end

section
open Go.RowKit
def hitE : Bool → Int
  | true=>0
  | false=>6
set_option maxHeartbeats 1000000 in
theorem take_new (z p : Nat) (v : Value) (rs : List Pl) (L : List Ob) (HL : Hid (rs.map Pl.x = L)) (x : Ob) (sa : Option Addr) (sc : Nat) (w : World) (SH : Shelf w z p v rs) (hn : rs.length ≤ 1000) (hx : Holds w sa x.links) (hxl : x.links.length ≤ 1000) (hp : placeI L x.id = -1) :
    Calls Tryz.prog 136 #[.pointer (some ⟨p,0,none⟩),x.val sa sc] w fun e w'=>∃ v' rs',e = .returned (.int .i64 0) ∧ rs'.map Pl.x = L.take (belowN L x.id) ++ [x] ++ L.drop (belowN L x.id) ∧ Shelf w' z p v' rs' ∧ Below z w w':=by
  obtain ⟨a,c,rfl,hHS,hcl⟩:=SH.reads
  rw [HL.out] at hHS SH
  have HLl : Hid (L.length = rs.length):=by rw [← HL.out,List.length_map];exact rfl
  have hLn : L.length ≤ 1000:=by rw [HLl.out];exact hn
  have hA:=below_alloc w (.cells #[.int .i64 x.id,.int .i64 x.kind,.slice sa x.links.length sc,.string x.text] 58)
  have SA:=SH.below hA
  have C:=Cells4.new w (.int .i64 x.id) (.int .i64 x.kind) (.slice sa x.links.length sc) (.string x.text) 58
  have hH:=hx.below hA
  have hS:=hHS.below hA
  have hgB : ∀ g,(Value.slice a L.length c).ownBlock = some g → g < w.heap.size:=fun g e=>(SH.own.lt g e).2
  have hpB:=SH.lt
  go_enter Tryz.func136,Tryz.ntmps136
  go_wp2_with fail
  generalize w.alloc (.cells #[.int .i64 x.id,.int .i64 x.kind,.slice sa x.links.length sc,.string x.text] 58) = W at *
  obtain ⟨B,hB⟩ : ∃ B,B = w.heap.size:=⟨_,rfl⟩
  rw [← hB] at C hgB hpB hA ⊢
  have SD:=SA.below (Below.refl W.heap.size W).drew
  have hHD:=hH.below (Below.refl W.heap.size W).drew
  have hSD:=hS.below (Below.refl W.heap.size W).drew
  have CD:=C.below (Below.refl W.heap.size W).drew C.lt
  have HBD:=hA.trans ((Below.refl W.heap.size W).drew.mono (by rw [hB];exact hA.size))
  have HBw : Hid (B = w.heap.size):=hB
  clear hB
  clear SA hH C hA hS hHS hx SH
  refine wp_region_E (fun W=>W.cell? ⟨p,0,none⟩ = some (.slice a L.length c) ∧ Cells4 B (.int .i64 x.id) (.int .i64 x.kind) (.slice sa x.links.length sc) (.string x.text) W) (fun _=>false) (by kernel_rfl) ⟨SD.cell,CD⟩ (fun hS=>?_)
  refine wpAnyE.take (i:=0) (v:=?_) rfl (by kernel_rfl) (by kernel_rfl) (by kernel_rfl) (by kernel_rfl) (fun _ _ _ h=>h) (Or.inl ⟨by rfl,?_⟩) (by assumption) ?_
  rotate_left
  · intro w hSw;obtain ⟨z,zb⟩:=hSw;have z0:=zb.c0;have z1:=zb.c1;have z2:=zb.c2;have z3:=zb.c3;clear zb;go_simp;with_reducible rfl
  try simp only [Act.put,uA,uC,uD,uE,uF]
  refine wpAnyE.take (i:=1) (v:=?_) rfl (by kernel_rfl) (by kernel_rfl) (by kernel_rfl) (by kernel_rfl) (fun _ _ _ h=>h) (Or.inl ⟨by rfl,?_⟩) (by assumption) ?_
  rotate_left
  · intro w hSw;obtain ⟨z,zb⟩:=hSw;have z0:=zb.c0;have z1:=zb.c1;have z2:=zb.c2;have z3:=zb.c3;clear zb;go_simp;with_reducible rfl
  try simp only [Act.put,uA,uB,uC,uD,uE,uF]
  refine wpAnyE.take (i:=2) (v:=?_) rfl (by kernel_rfl) (by kernel_rfl) (by kernel_rfl) (by kernel_rfl) (fun _ _ _ h=>h) (Or.inl ⟨by rfl,?_⟩) (by assumption) ?_
  rotate_left
  · intro w hSw;obtain ⟨z,zb⟩:=hSw;have z0:=zb.c0;have z1:=zb.c1;have z2:=zb.c2;have z3:=zb.c3;clear zb;go_simp;with_reducible rfl
  try simp only [Act.put,uA,uB,uC,uD,uE,uF]
  refine wpAnyE.take (i:=3) (v:=?_) rfl (by kernel_rfl) (by kernel_rfl) (by kernel_rfl) (by kernel_rfl) (fun _ _ _ h=>h) (Or.inl ⟨by rfl,?_⟩) (by assumption) ?_
  rotate_left
  · intro w hSw;obtain ⟨z,zb⟩:=hSw;have z0:=zb.c0;have z1:=zb.c1;have z2:=zb.c2;have z3:=zb.c3;clear zb;go_simp;with_reducible rfl
  try simp only [Act.put,uA,uB,uC,uD,uE,uF]
  refine wpAnyE.take (i:=4) (v:=?_) rfl (by kernel_rfl) (by kernel_rfl) (by kernel_rfl) (by kernel_rfl) (fun _ _ _ h=>h) (Or.inl ⟨by rfl,?_⟩) (by assumption) ?_
  rotate_left
  · intro w hSw;obtain ⟨z,zb⟩:=hSw;have z0:=zb.c0;have z1:=zb.c1;have z2:=zb.c2;have z3:=zb.c3;clear zb;go_simp;with_reducible rfl
  try simp only [Act.put,uA,uB,uC,uD,uE,uF]
  refine wpAnyE.take (i:=5) (v:=?_) rfl (by kernel_rfl) (by kernel_rfl) (by kernel_rfl) (by kernel_rfl) (fun _ _ _ h=>h) (Or.inl ⟨by rfl,?_⟩) (by assumption) ?_
  rotate_left
  · intro w hSw;obtain ⟨z,zb⟩:=hSw;have z0:=zb.c0;have z1:=zb.c1;have z2:=zb.c2;have z3:=zb.c3;clear zb;go_simp;with_reducible rfl
  try simp only [Act.put,uA,uB,uC,uD,uE,uF]
  generalize W.drew = W0 at *
  refine wpAnyE.one (i:=6) (by kernel_rfl) rfl (fun K hK=>?_)
  go_simp
  refine (place_any a c L x.id W0 hSD (by omega)).mono ?_
  rintro e W1 ⟨rfl,hb1⟩
  have hS1 : W1.cell? ⟨p,0,none⟩ = some (.slice a L.length c) ∧ Cells4 B (.int .i64 x.id) (.int .i64 x.kind) (.slice sa x.links.length sc) (.string x.text) W1:=⟨(SD.below hb1).cell,CD.below hb1 CD.lt⟩
  refine hK _ _ (fun _=>hS1) ?_
  clear hK K
  try simp only [Act.put,uA,uB,uC,uD,uE,uF]
  clear hS
  refine wpAnyE.one (i:=7) (by kernel_rfl) rfl (fun K hK=>?_)
  go_simp
  refine hK _ _ (fun _=>hS1) ?_
  clear hK K
  try simp only [Act.put,uA,uB,uC,uD,uE,uF]
  refine wpAnyE.done (by kernel_rfl) ?_
  have S1:=SD.below hb1
  have hH1:=hHD.below hb1
  have hL1:=hSD.below hb1
  have HB1:=HBD.trans (hb1.mono (by have:=CD.lt;omega))
  have C1:=hS1.2
  clear SD hHD hSD HBD CD hb1 hS1
  go_wp2_with fail
  have SD:=S1.below (Below.refl W1.heap.size W1).drew
  have hHD:=hH1.below (Below.refl W1.heap.size W1).drew
  have hSD:=hL1.below (Below.refl W1.heap.size W1).drew
  have CD:=C1.below (Below.refl W1.heap.size W1).drew C1.lt
  have HBD:=HB1.trans ((Below.refl W1.heap.size W1).drew.mono (by have:=C1.lt;omega))
  clear S1 hH1 hL1 C1 HB1
  refine wp_region_E (fun W=>W.cell? ⟨p,0,none⟩ = some (.slice a L.length c) ∧ Cells4 B (.int .i64 x.id) (.int .i64 x.kind) (.slice sa x.links.length sc) (.string x.text) W) (fun k=>k == 18) (by kernel_rfl) ⟨SD.cell,CD⟩ (fun hS=>?_)
  refine wpAnyE.take (i:=0) (v:=?_) rfl (by kernel_rfl) (by kernel_rfl) (by kernel_rfl) (by kernel_rfl) (fun _ _ _ h=>h) (Or.inl ⟨by rfl,?_⟩) (by assumption) ?_
  rotate_left
  · intro w hSw;obtain ⟨z,zb⟩:=hSw;have z0:=zb.c0;have z1:=zb.c1;have z2:=zb.c2;have z3:=zb.c3;clear zb;go_simp;with_reducible rfl
  try simp only [Act.put,uA,uC,uD,uE,uF]
  refine wpAnyE.take (i:=1) (v:=?_) rfl (by kernel_rfl) (by kernel_rfl) (by kernel_rfl) (by kernel_rfl) (fun _ _ _ h=>h) (Or.inl ⟨by rfl,?_⟩) (by assumption) ?_
  rotate_left
  · intro w hSw;obtain ⟨z,zb⟩:=hSw;have z0:=zb.c0;have z1:=zb.c1;have z2:=zb.c2;have z3:=zb.c3;clear zb;go_simp;with_reducible rfl
  try simp only [Act.put,uA,uB,uC,uD,uE,uF]
  refine wpAnyE.take (i:=2) (v:=?_) rfl (by kernel_rfl) (by kernel_rfl) (by kernel_rfl) (by kernel_rfl) (fun _ _ _ h=>h) (Or.inl ⟨by rfl,?_⟩) (by assumption) ?_
  rotate_left
  · intro w hSw;obtain ⟨z,zb⟩:=hSw;have z0:=zb.c0;have z1:=zb.c1;have z2:=zb.c2;have z3:=zb.c3;clear zb;go_simp;with_reducible rfl
  try simp only [Act.put,uA,uB,uC,uD,uE,uF]
  refine wpAnyE.take (i:=3) (v:=?_) rfl (by kernel_rfl) (by kernel_rfl) (by kernel_rfl) (by kernel_rfl) (fun _ _ _ h=>h) (Or.inl ⟨by rfl,?_⟩) (by assumption) ?_
  rotate_left
  · intro w hSw;obtain ⟨z,zb⟩:=hSw;have z0:=zb.c0;have z1:=zb.c1;have z2:=zb.c2;have z3:=zb.c3;clear zb;go_simp;with_reducible rfl
  try simp only [Act.put,uA,uB,uC,uD,uE,uF]
  refine wpAnyE.take (i:=4) (v:=?_) rfl (by kernel_rfl) (by kernel_rfl) (by kernel_rfl) (by kernel_rfl) (fun _ _ _ h=>h) (Or.inl ⟨by rfl,?_⟩) (by assumption) ?_
  rotate_left
  · intro w hSw;obtain ⟨z,zb⟩:=hSw;have z0:=zb.c0;have z1:=zb.c1;have z2:=zb.c2;have z3:=zb.c3;clear zb;go_simp;with_reducible rfl
  try simp only [Act.put,uA,uB,uC,uD,uE,uF]
  refine wpAnyE.take (i:=5) (v:=?_) rfl (by kernel_rfl) (by kernel_rfl) (by kernel_rfl) (by kernel_rfl) (fun _ _ _ h=>h) (Or.inl ⟨by rfl,?_⟩) (by assumption) ?_
  rotate_left
  · intro w hSw;obtain ⟨z,zb⟩:=hSw;have z0:=zb.c0;have z1:=zb.c1;have z2:=zb.c2;have z3:=zb.c3;clear zb;go_simp;with_reducible rfl
  try simp only [Act.put,uA,uB,uC,uD,uE,uF]
  refine wpAnyE.take (i:=6) (v:=?_) rfl (by kernel_rfl) (by kernel_rfl) (by kernel_rfl) (by kernel_rfl) (fun _ _ _ h=>h) (Or.inl ⟨by rfl,?_⟩) (by assumption) ?_
  rotate_left
  · intro w hSw;obtain ⟨z,zb⟩:=hSw;have z0:=zb.c0;have z1:=zb.c1;have z2:=zb.c2;have z3:=zb.c3;clear zb;go_simp;with_reducible rfl
  try simp only [Act.put,uA,uB,uC,uD,uE,uF]
  refine wpAnyE.take (i:=7) (v:=?_) rfl (by kernel_rfl) (by kernel_rfl) (by kernel_rfl) (by kernel_rfl) (fun _ _ _ h=>h) (Or.inl ⟨by rfl,?_⟩) (by assumption) ?_
  rotate_left
  · intro w hSw;obtain ⟨z,zb⟩:=hSw;have z0:=zb.c0;have z1:=zb.c1;have z2:=zb.c2;have z3:=zb.c3;clear zb;go_simp;with_reducible rfl
  try simp only [Act.put,uA,uB,uC,uD,uE,uF]
  refine wpAnyE.take (i:=8) (v:=?_) rfl (by kernel_rfl) (by kernel_rfl) (by kernel_rfl) (by kernel_rfl) (fun _ _ _ h=>h) (Or.inl ⟨by rfl,?_⟩) (by assumption) ?_
  rotate_left
  · intro w hSw;obtain ⟨z,zb⟩:=hSw;have z0:=zb.c0;have z1:=zb.c1;have z2:=zb.c2;have z3:=zb.c3;clear zb;go_simp;with_reducible rfl
  try simp only [Act.put,uA,uB,uC,uD,uE,uF]
  refine wpAnyE.take (i:=9) (v:=?_) rfl (by kernel_rfl) (by kernel_rfl) (by kernel_rfl) (by kernel_rfl) (fun _ _ _ h=>h) (Or.inl ⟨by rfl,?_⟩) (by assumption) ?_
  rotate_left
  · intro w hSw;obtain ⟨z,zb⟩:=hSw;have z0:=zb.c0;have z1:=zb.c1;have z2:=zb.c2;have z3:=zb.c3;clear zb;go_simp;with_reducible rfl
  try simp only [Act.put,uA,uB,uC,uD,uE,uF]
  refine wpAnyE.take (i:=10) (v:=?_) rfl (by kernel_rfl) (by kernel_rfl) (by kernel_rfl) (by kernel_rfl) (fun _ _ _ h=>h) (Or.inl ⟨by rfl,?_⟩) (by assumption) ?_
  rotate_left
  · intro w hSw;obtain ⟨z,zb⟩:=hSw;have z0:=zb.c0;have z1:=zb.c1;have z2:=zb.c2;have z3:=zb.c3;clear zb;go_simp;with_reducible rfl
  try simp only [Act.put,uA,uB,uC,uD,uE,uF]
  refine wpAnyE.take (i:=12) (v:=?_) rfl (by kernel_rfl) (by kernel_rfl) (by kernel_rfl) (by kernel_rfl) (fun _ _ _ h=>h) (Or.inl ⟨by rfl,?_⟩) (by assumption) ?_
  rotate_left
  · intro w hSw;obtain ⟨z,zb⟩:=hSw;have z0:=zb.c0;have z1:=zb.c1;have z2:=zb.c2;have z3:=zb.c3;clear zb;go_simp;with_reducible rfl
  try simp only [Act.put,uA,uB,uC,uD,uE,uF]
  generalize W1.drew = W2 at *
  refine wpAnyE.one (i:=11) (by kernel_rfl) rfl (fun K hK=>?_)
  go_simp
  refine (countBelow_any a c L x.id W2 hSD hLn).mono ?_
  rintro e W3 ⟨rfl,hb3⟩
  have hS3 : W3.cell? ⟨p,0,none⟩ = some (.slice a L.length c) ∧ Cells4 B (.int .i64 x.id) (.int .i64 x.kind) (.slice sa x.links.length sc) (.string x.text) W3:=⟨(SD.below hb3).cell,CD.below hb3 CD.lt⟩
  refine hK _ _ (fun _=>hS3) ?_
  clear hK K
  try simp only [Act.put,uA,uB,uC,uD,uE,uF]
  refine wpAnyE.one (i:=13) (by kernel_rfl) rfl (fun K hK=>?_)
  go_simp
  refine (copyOf_any x sa sc W3 (hHD.below hb3) hxl).mono ?_
  rintro e W4 ⟨ta,tc,rfl,hta,hb4,hfr,htc⟩
  have hS4 : W4.cell? ⟨p,0,none⟩ = some (.slice a L.length c) ∧ Cells4 B (.int .i64 x.id) (.int .i64 x.kind) (.slice sa x.links.length sc) (.string x.text) W4:=⟨((SD.below hb3).below hb4).cell,hS3.2.below hb4 hS3.2.lt⟩
  refine hK _ _ (fun _=>hS4) ?_
  clear hK K
  try simp only [Act.put,uA,uB,uC,uD,uE,uF]
  refine wpAnyE.one (i:=14) (by kernel_rfl) rfl (fun K hK=>?_)
  go_simp
  obtain ⟨W5,hW5⟩ : ∃ W5,W5 = W4.alloc (.cells #[.int .i64 x.id,.int .i64 x.kind,.slice ta x.links.length tc,.string x.text] 58):=⟨_,rfl⟩
  have hb5 : Below W4.heap.size W4 W5:=by rw [hW5];exact below_alloc _ _
  have hv5 : W5.heap[W4.heap.size]? = some (.cells #[.int .i64 x.id,.int .i64 x.kind,.slice ta x.links.length tc,.string x.text] 58):=by rw [hW5];exact heap_alloc_new W4 _
  rw [← hW5]
  clear hW5
  have hS5 : W5.cell? ⟨p,0,none⟩ = some (.slice a L.length c) ∧ Cells4 B (.int .i64 x.id) (.int .i64 x.kind) (.slice sa x.links.length sc) (.string x.text) W5:=⟨(((SD.below hb3).below hb4).below hb5).cell,hS4.2.below hb5 hS4.2.lt⟩
  refine hK _ _ (fun _=>hS5) ?_
  clear hK K
  try simp only [Act.put,uA,uB,uC,uD,uE,uF]
  refine wpAnyE.one (i:=15) (by kernel_rfl) rfl (fun K hK=>?_)
  go_simp
  have SH5:=((SD.below hb3).below hb4).below hb5
  have hle : belowN L x.id ≤ rs.length:=by rw [← HLl.out];exact belowN_le L x.id
  have hW4:=hb4.size
  have hW3:=hb3.size
  refine (insert_any z rs.length (belowN L x.id) W4.heap.size _ (rowC rs) _ W5 hle hn SH5.own hv5 rfl (fun e=>by have q1:=hgB _ e;have q2:=CD.lt;omega) (rowC_one rs) (by intro u hu;simp only [List.mem_cons,List.not_mem_nil,or_false] at hu;rcases hu with rfl | rfl | rfl | rfl <;> rfl) (by have:=SH5.lt;have:=SH5.zp;omega)).mono ?_
  rintro e W6 ⟨v',rfl,ho6,hg6,hf6⟩
  obtain ⟨g',m',c',rfl⟩:=own_slice ho6
  have hne6 : some p ≠ (Value.slice a L.length c).ownBlock:=fun e=>SH5.sep e.symm
  have hp6:=(hg6.block _ SH5.lt hne6).trans SH5.blk
  have hc6 : W6.cell? ⟨p,0,none⟩ = some (.slice a L.length c):=by simp [World.cell?,hp6]
  have hz6 : W6.frozen? ⟨p,0,none⟩ = false:=by simp [World.frozen?,hp6]
  have hS6 : W6.cell? ⟨p,0,none⟩ = some (.slice a L.length c) ∧ Cells4 B (.int .i64 x.id) (.int .i64 x.kind) (.slice sa x.links.length sc) (.string x.text) W6:=⟨hc6,hS5.2.grown hg6 (fun e=>by have:=hgB B e;omega)⟩
  refine hK _ _ (fun _=>hS6) ?_
  clear hK K
  try simp only [Act.put,uA,uB,uC,uD,uE,uF]
  refine wpAnyE.one (i:=16) (by kernel_rfl) rfl (fun K hK=>?_)
  go_simp
  refine hK _ _ (fun _=>hS6) ?_
  clear hK K
  try simp only [Act.put,uA,uB,uC,uD,uE,uF]
  refine wpAnyE.one (i:=17) (by kernel_rfl) rfl (fun K hK=>?_)
  go_simp
  refine hK _ _ (fun _=>hS6) ?_
  clear hK K
  try simp only [Act.put,uA,uB,uC,uD,uE,uF]
  clear hS3 hS4 hS5 hS6 hS
  refine wpAnyE.one (i:=18) (by kernel_rfl) rfl (fun K hK=>?_)
  go_simp
  refine hK _ _ (fun h=>by cases h) ?_
  clear hK K
  try simp only [Act.put,uA,uB,uC,uD,uE,uF]
  refine wpAnyE.done (by kernel_rfl) ?_
  have hr1 : (rowC rs).take (belowN L x.id * 4) ++ #[.int .i64 x.id,.int .i64 x.kind,.slice ta x.links.length tc,.string x.text].toList ++ (rowC rs).drop (belowN L x.id * 4) = rowC (rs.take (belowN L x.id) ++ [⟨x,ta,tc⟩] ++ rs.drop (belowN L x.id)):=by
    rw [rowC_append,rowC_append,rowC_take rs _ hle,rowC_drop rs _ hle];rfl
  rw [hr1] at ho6
  have NX:=SD.next (rs':=rs.take (belowN L x.id) ++ [⟨x,ta,tc⟩] ++ rs.drop (belowN L x.id)) (r:=⟨x,ta,tc⟩) (w1:=W5) (hb3.trans ((hb4.mono hb3.size).trans (hb5.mono (by omega)))) hg6 (by rw [show (rs.take (belowN L x.id) ++ [(⟨x,ta,tc⟩ : Pl)] ++ rs.drop (belowN L x.id)).length = rs.length + 1 by simp;omega];exact ho6) hf6
    (by intro s hs;simp only [List.mem_append,List.mem_singleton] at hs;rcases hs with (q | q) | q;exact .inl (List.mem_of_mem_take q);exact .inr q;exact .inl (List.mem_of_mem_drop q)) ⟨hxl,htc⟩ (hta.below hb5) (fun b off e=>by have:=hfr b off e;omega)
  have hBB : Below z w _:=(HBD.mono (by have:=SH5.zp;omega)).trans NX.2
  have hM : (rs.take (belowN L x.id) ++ [(⟨x,ta,tc⟩ : Pl)] ++ rs.drop (belowN L x.id)).map Pl.x = L.take (belowN L x.id) ++ [x] ++ L.drop (belowN L x.id):=by
    rw [← HL.out];simp [List.map_take,List.map_drop]
  have HN : Hid (_ ∧ _ ∧ _):=⟨hM,NX.1,hBB⟩
  clear NX hBB hM hr1 ho6 hf6 hg6 hc6 hz6 hne6 hp6 SH5 SD CD hHD hSD HBD hb3 hb4 hb5 hv5 hta hfr htc hp
  generalize W6.setCell ⟨p,0,none⟩ (.slice g' m' c') = W7 at *
  go_wp2
  go_ret
  exact ⟨_,_,rfl,HN.out⟩
set_option maxHeartbeats 1000000 in
theorem take_hit (z p : Nat) (v : Value) (rs : List Pl) (L : List Ob) (HL : Hid (rs.map Pl.x = L)) (x : Ob) (sa : Option Addr) (sc : Nat) (w : World) (SH : Shelf w z p v rs) (hn : rs.length ≤ 1000) (hx : Holds w sa x.links) (i : Nat) (hp : placeI L x.id = i) (hi : i < L.length) :
    Calls Tryz.prog 136 #[.pointer (some ⟨p,0,none⟩),x.val sa sc] w fun e w'=>e = .returned (.int .i64 (hitE (sameO L[i].id L[i].kind L[i].links L[i].text x.id x.kind x.links x.text))) ∧ (∃ v',Shelf w' z p v' rs) ∧ Below w.heap.size w w':=by
  obtain ⟨a,c,rfl,hHS,hcl⟩:=SH.reads
  rw [HL.out] at hHS SH
  have HLl : Hid (L.length = rs.length):=by rw [← HL.out,List.length_map];exact rfl
  have hLn : L.length ≤ 1000:=by rw [HLl.out];exact hn
  have hA:=below_alloc w (.cells #[.int .i64 x.id,.int .i64 x.kind,.slice sa x.links.length sc,.string x.text] 58)
  have SA:=SH.below hA
  have C:=Cells4.new w (.int .i64 x.id) (.int .i64 x.kind) (.slice sa x.links.length sc) (.string x.text) 58
  have hH:=hx.below hA
  have hS:=hHS.below hA
  have hgB : ∀ g,(Value.slice a L.length c).ownBlock = some g → g < w.heap.size:=fun g e=>(SH.own.lt g e).2
  have hpB:=SH.lt
  go_enter Tryz.func136,Tryz.ntmps136
  go_wp2_with fail
  generalize w.alloc (.cells #[.int .i64 x.id,.int .i64 x.kind,.slice sa x.links.length sc,.string x.text] 58) = W at *
  obtain ⟨B,hB⟩ : ∃ B,B = w.heap.size:=⟨_,rfl⟩
  rw [← hB] at C hgB hpB hA ⊢
  have SD:=SA.below (Below.refl W.heap.size W).drew
  have hHD:=hH.below (Below.refl W.heap.size W).drew
  have hSD:=hS.below (Below.refl W.heap.size W).drew
  have CD:=C.below (Below.refl W.heap.size W).drew C.lt
  have HBD:=hA.trans ((Below.refl W.heap.size W).drew.mono (by rw [hB];exact hA.size))
  have HBw : Hid (B = w.heap.size):=hB
  clear hB
  clear SA hH C hA hS hHS hx SH
  refine wp_region_E (fun W=>W.cell? ⟨p,0,none⟩ = some (.slice a L.length c) ∧ Cells4 B (.int .i64 x.id) (.int .i64 x.kind) (.slice sa x.links.length sc) (.string x.text) W) (fun _=>false) (by kernel_rfl) ⟨SD.cell,CD⟩ (fun hS=>?_)
  refine wpAnyE.take (i:=0) (v:=?_) rfl (by kernel_rfl) (by kernel_rfl) (by kernel_rfl) (by kernel_rfl) (fun _ _ _ h=>h) (Or.inl ⟨by rfl,?_⟩) (by assumption) ?_
  rotate_left
  · intro w hSw;obtain ⟨z,zb⟩:=hSw;have z0:=zb.c0;have z1:=zb.c1;have z2:=zb.c2;have z3:=zb.c3;clear zb;go_simp;with_reducible rfl
  try simp only [Act.put,uA,uC,uD,uE,uF]
  refine wpAnyE.take (i:=1) (v:=?_) rfl (by kernel_rfl) (by kernel_rfl) (by kernel_rfl) (by kernel_rfl) (fun _ _ _ h=>h) (Or.inl ⟨by rfl,?_⟩) (by assumption) ?_
  rotate_left
  · intro w hSw;obtain ⟨z,zb⟩:=hSw;have z0:=zb.c0;have z1:=zb.c1;have z2:=zb.c2;have z3:=zb.c3;clear zb;go_simp;with_reducible rfl
  try simp only [Act.put,uA,uB,uC,uD,uE,uF]
  refine wpAnyE.take (i:=2) (v:=?_) rfl (by kernel_rfl) (by kernel_rfl) (by kernel_rfl) (by kernel_rfl) (fun _ _ _ h=>h) (Or.inl ⟨by rfl,?_⟩) (by assumption) ?_
  rotate_left
  · intro w hSw;obtain ⟨z,zb⟩:=hSw;have z0:=zb.c0;have z1:=zb.c1;have z2:=zb.c2;have z3:=zb.c3;clear zb;go_simp;with_reducible rfl
  try simp only [Act.put,uA,uB,uC,uD,uE,uF]
  refine wpAnyE.take (i:=3) (v:=?_) rfl (by kernel_rfl) (by kernel_rfl) (by kernel_rfl) (by kernel_rfl) (fun _ _ _ h=>h) (Or.inl ⟨by rfl,?_⟩) (by assumption) ?_
  rotate_left
  · intro w hSw;obtain ⟨z,zb⟩:=hSw;have z0:=zb.c0;have z1:=zb.c1;have z2:=zb.c2;have z3:=zb.c3;clear zb;go_simp;with_reducible rfl
  try simp only [Act.put,uA,uB,uC,uD,uE,uF]
  refine wpAnyE.take (i:=4) (v:=?_) rfl (by kernel_rfl) (by kernel_rfl) (by kernel_rfl) (by kernel_rfl) (fun _ _ _ h=>h) (Or.inl ⟨by rfl,?_⟩) (by assumption) ?_
  rotate_left
  · intro w hSw;obtain ⟨z,zb⟩:=hSw;have z0:=zb.c0;have z1:=zb.c1;have z2:=zb.c2;have z3:=zb.c3;clear zb;go_simp;with_reducible rfl
  try simp only [Act.put,uA,uB,uC,uD,uE,uF]
  refine wpAnyE.take (i:=5) (v:=?_) rfl (by kernel_rfl) (by kernel_rfl) (by kernel_rfl) (by kernel_rfl) (fun _ _ _ h=>h) (Or.inl ⟨by rfl,?_⟩) (by assumption) ?_
  rotate_left
  · intro w hSw;obtain ⟨z,zb⟩:=hSw;have z0:=zb.c0;have z1:=zb.c1;have z2:=zb.c2;have z3:=zb.c3;clear zb;go_simp;with_reducible rfl
  try simp only [Act.put,uA,uB,uC,uD,uE,uF]
  generalize W.drew = W0 at *
  refine wpAnyE.one (i:=6) (by kernel_rfl) rfl (fun K hK=>?_)
  go_simp
  refine (place_any a c L x.id W0 hSD (by omega)).mono ?_
  rintro e W1 ⟨rfl,hb1⟩
  have hS1 : W1.cell? ⟨p,0,none⟩ = some (.slice a L.length c) ∧ Cells4 B (.int .i64 x.id) (.int .i64 x.kind) (.slice sa x.links.length sc) (.string x.text) W1:=⟨(SD.below hb1).cell,CD.below hb1 CD.lt⟩
  refine hK _ _ (fun _=>hS1) ?_
  clear hK K
  try simp only [Act.put,uA,uB,uC,uD,uE,uF]
  clear hS
  refine wpAnyE.one (i:=7) (by kernel_rfl) rfl (fun K hK=>?_)
  go_simp
  refine hK _ _ (fun _=>hS1) ?_
  clear hK K
  try simp only [Act.put,uA,uB,uC,uD,uE,uF]
  refine wpAnyE.done (by kernel_rfl) ?_
  have S1:=SD.below hb1
  have hH1:=hHD.below hb1
  have hL1:=hSD.below hb1
  have HB1:=HBD.trans (hb1.mono (by have:=CD.lt;omega))
  have C1:=hS1.2
  clear SD hHD hSD HBD CD hb1 hS1
  obtain ⟨b,off,rfl,hbl,hcc⟩:=hL1 i hi
  obtain ⟨ya,yc,y0,y1,y2,y3,y4,y5⟩:=hcc i hi
  clear hcc
  obtain ⟨y,hy⟩ : ∃ y,y = L[i]:=⟨_,rfl⟩
  rw [← hy] at y0 y1 y2 y3 y4 y5
  have HY : Hid (y = L[i]):=hy
  clear hy
  have hi0 : (0 : Int) ≤ (i : Int):=by omega
  have HI : (i : Int) < (L.length : Int):=by omega
  go_wp2_with fail
  have SD:=S1.below (Below.refl W1.heap.size W1).drew
  have hHD:=hH1.below (Below.refl W1.heap.size W1).drew
  have CD:=C1.below (Below.refl W1.heap.size W1).drew C1.lt
  have hYD:=y4.below (Below.refl W1.heap.size W1).drew
  have HBD:=HB1.trans ((Below.refl W1.heap.size W1).drew.mono (by have:=C1.lt;omega))
  clear S1 hH1 C1 HB1 hL1
  refine wp_region_E (fun W=>W.cell? ⟨p,0,none⟩ = some (.slice (some ⟨b,off,none⟩) L.length c) ∧ Cells4 B (.int .i64 x.id) (.int .i64 x.kind) (.slice sa x.links.length sc) (.string x.text) W ∧ W.cell? ⟨b,off + i * 4,none⟩ = some (.int .i64 y.id) ∧ W.cell? ⟨b,off + i * 4 + 1,none⟩ = some (.int .i64 y.kind) ∧ W.cell? ⟨b,off + i * 4 + 2,none⟩ = some (.slice ya y.links.length yc) ∧ W.cell? ⟨b,off + i * 4 + 3,none⟩ = some (.string y.text)) (fun _=>false) (by kernel_rfl) ⟨SD.cell,CD,y0,y1,y2,y3⟩ (fun hS=>?_)
  refine wpAnyE.take (i:=0) (v:=?_) rfl (by kernel_rfl) (by kernel_rfl) (by kernel_rfl) (by kernel_rfl) (fun _ _ _ h=>h) (Or.inl ⟨by rfl,?_⟩) (by assumption) ?_
  rotate_left
  · intro w hSw;obtain ⟨z,zb,t0,t1,t2,t3⟩:=hSw;have z0:=zb.c0;have z1:=zb.c1;have z2:=zb.c2;have z3:=zb.c3;clear zb;go_simp;with_reducible rfl
  try simp only [Act.put,uA,uC,uD,uE,uF]
  refine wpAnyE.take (i:=1) (v:=?_) rfl (by kernel_rfl) (by kernel_rfl) (by kernel_rfl) (by kernel_rfl) (fun _ _ _ h=>h) (Or.inl ⟨by rfl,?_⟩) (by assumption) ?_
  rotate_left
  · intro w hSw;obtain ⟨z,zb,t0,t1,t2,t3⟩:=hSw;have z0:=zb.c0;have z1:=zb.c1;have z2:=zb.c2;have z3:=zb.c3;clear zb;go_simp;with_reducible rfl
  try simp only [Act.put,uA,uB,uC,uD,uE,uF]
  refine wpAnyE.take (i:=2) (v:=?_) rfl (by kernel_rfl) (by kernel_rfl) (by kernel_rfl) (by kernel_rfl) (fun _ _ _ h=>h) (Or.inl ⟨by rfl,?_⟩) (by assumption) ?_
  rotate_left
  · intro w hSw;obtain ⟨z,zb,t0,t1,t2,t3⟩:=hSw;have z0:=zb.c0;have z1:=zb.c1;have z2:=zb.c2;have z3:=zb.c3;clear zb;go_simp;with_reducible rfl
  try simp only [Act.put,uA,uB,uC,uD,uE,uF]
  refine wpAnyE.take (i:=3) (v:=?_) rfl (by kernel_rfl) (by kernel_rfl) (by kernel_rfl) (by kernel_rfl) (fun _ _ _ h=>h) (Or.inl ⟨by rfl,?_⟩) (by assumption) ?_
  rotate_left
  · intro w hSw;obtain ⟨z,zb,t0,t1,t2,t3⟩:=hSw;have z0:=zb.c0;have z1:=zb.c1;have z2:=zb.c2;have z3:=zb.c3;clear zb;go_simp;with_reducible rfl
  try simp only [Act.put,uA,uB,uC,uD,uE,uF]
  refine wpAnyE.take (i:=4) (v:=?_) rfl (by kernel_rfl) (by kernel_rfl) (by kernel_rfl) (by kernel_rfl) (fun _ _ _ h=>h) (Or.inl ⟨by rfl,?_⟩) (by assumption) ?_
  rotate_left
  · intro w hSw;obtain ⟨z,zb,t0,t1,t2,t3⟩:=hSw;have z0:=zb.c0;have z1:=zb.c1;have z2:=zb.c2;have z3:=zb.c3;clear zb;go_simp;with_reducible rfl
  try simp only [Act.put,uA,uB,uC,uD,uE,uF]
  refine wpAnyE.take (i:=5) (v:=?_) rfl (by kernel_rfl) (by kernel_rfl) (by kernel_rfl) (by kernel_rfl) (fun _ _ _ h=>h) (Or.inl ⟨by rfl,?_⟩) (by assumption) ?_
  rotate_left
  · intro w hSw;obtain ⟨z,zb,t0,t1,t2,t3⟩:=hSw;have z0:=zb.c0;have z1:=zb.c1;have z2:=zb.c2;have z3:=zb.c3;clear zb;go_simp;with_reducible rfl
  try simp only [Act.put,uA,uB,uC,uD,uE,uF]
  refine wpAnyE.take (i:=6) (v:=?_) rfl (by kernel_rfl) (by kernel_rfl) (by kernel_rfl) (by kernel_rfl) (fun _ _ _ h=>h) (Or.inl ⟨by rfl,?_⟩) (by assumption) ?_
  rotate_left
  · intro w hSw;obtain ⟨z,zb,t0,t1,t2,t3⟩:=hSw;have z0:=zb.c0;have z1:=zb.c1;have z2:=zb.c2;have z3:=zb.c3;clear zb;go_simp;with_reducible rfl
  try simp only [Act.put,uA,uB,uC,uD,uE,uF]
  refine wpAnyE.take (i:=7) (v:=?_) rfl (by kernel_rfl) (by kernel_rfl) (by kernel_rfl) (by kernel_rfl) (fun _ _ _ h=>h) (Or.inl ⟨by rfl,?_⟩) (by assumption) ?_
  rotate_left
  · intro w hSw;obtain ⟨z,zb,t0,t1,t2,t3⟩:=hSw;have z0:=zb.c0;have z1:=zb.c1;have z2:=zb.c2;have z3:=zb.c3;clear zb;go_simp;with_reducible rfl
  try simp only [Act.put,uA,uB,uC,uD,uE,uF]
  have hL2 : b < W1.drew.heap.size:=hbl
  generalize W1.drew = W2 at *
  refine wpAnyE.one (i:=8) (by kernel_rfl) rfl (fun K hK=>?_)
  go_simp
  obtain ⟨_,_,s0,s1,s2,s3⟩:=hS
  refine (same_any y x ya yc sa sc W2 hYD hHD y5).mono ?_
  rintro e W3 ⟨rfl,hb3⟩
  have SH3:=SD.below hb3
  have HB3:=HBD.trans (hb3.mono (by have:=CD.lt;omega))
  have hS3 : W3.cell? ⟨p,0,none⟩ = some (.slice (some ⟨b,off,none⟩) L.length c) ∧ Cells4 B (.int .i64 x.id) (.int .i64 x.kind) (.slice sa x.links.length sc) (.string x.text) W3 ∧ W3.cell? ⟨b,off + i * 4,none⟩ = some (.int .i64 y.id) ∧ W3.cell? ⟨b,off + i * 4 + 1,none⟩ = some (.int .i64 y.kind) ∧ W3.cell? ⟨b,off + i * 4 + 2,none⟩ = some (.slice ya y.links.length yc) ∧ W3.cell? ⟨b,off + i * 4 + 3,none⟩ = some (.string y.text):=by
    have hbl' : b < W2.heap.size:=hL2
    exact ⟨SH3.cell,CD.below hb3 CD.lt,(hb3.cell (p:=⟨b,off + i * 4,none⟩) hbl').trans s0,(hb3.cell (p:=⟨b,off + i * 4 + 1,none⟩) hbl').trans s1,(hb3.cell (p:=⟨b,off + i * 4 + 2,none⟩) hbl').trans s2,(hb3.cell (p:=⟨b,off + i * 4 + 3,none⟩) hbl').trans s3⟩
  refine hK _ _ (fun _=>hS3) ?_
  clear hK K
  try simp only [Act.put,uA,uB,uC,uD,uE,uF]
  have HN : Hid (Shelf W3 z p (.slice (some ⟨b,off,none⟩) L.length c) rs ∧ Below w.heap.size w W3):=⟨SH3,by rw [← HBw.out];exact HB3⟩
  refine wpAnyE.one (i:=9) (by kernel_rfl) rfl (fun K hK=>?_)
  go_simp
  refine hK _ _ (fun _=>hS3) ?_
  clear hK K
  try simp only [Act.put,uA,uB,uC,uD,uE,uF]
  refine wpAnyE.done (by kernel_rfl) ?_
  clear SD CD hHD hYD HBD SH3 HB3 hS3 hb3 s0 s1 s2 s3 y0 y1 y2 y3 y4
  have HE : Hid (sameO y.id y.kind y.links y.text x.id x.kind x.links x.text = sameO L[i].id L[i].kind L[i].links L[i].text x.id x.kind x.links x.text):=by rw [HY.out];exact rfl
  rw [HE.out]
  clear HE
  cases hq : sameO L[i].id L[i].kind L[i].links L[i].text x.id x.kind x.links x.text with
  | true =>
    go_wp2
    go_ret
    exact ⟨ret_int (by rw [hq];rfl),⟨_,HN.out.1⟩,HN.out.2⟩
  | false =>
    go_wp2
    go_ret
    exact ⟨ret_int (by rw [hq];rfl),⟨_,HN.out.1⟩,HN.out.2⟩
end

section
open Go.RowKit
def eachE : List Ob → Int
  | []=>0
  | x :: m=>if x.err ≠ 0 then x.err else eachE m
theorem ee_bad {m : List Ob} {k : Nat} {r : Int} (hk : k < m.length) (H : r = eachE (m.drop k)) (h : m[k].err ≠ 0) : r = m[k].err:=by
  rw [H,List.drop_eq_getElem_cons hk,eachE,if_pos h]
theorem ee_next {m : List Ob} {k : Nat} {r : Int} (hk : k < m.length) (H : r = eachE (m.drop k)) (h : m[k].err = 0) : r = eachE (m.drop (k + 1)):=by
  rw [H,List.drop_eq_getElem_cons hk,eachE,if_neg (fun e=>e h)]
theorem ee_end {m : List Ob} {k : Nat} {r : Int} (hk : ¬ k < m.length) (H : r = eachE (m.drop k)) : r = 0:=by
  rw [H,List.drop_of_length_le (by omega)];rfl
set_option maxHeartbeats 800000 in
theorem each_obj (a : Option Addr) (c : Nat) (l : List Ob) (w : World) (h : HoldsS w a l) (hl : l.length ≤ 9223372036854775807) :
    Calls Tryz.prog 133 #[.slice a l.length c,.func (.func 134) #[] #[]] w fun e w'=>e = .returned (.int .i64 (eachE l)) ∧ Below w.heap.size w w':=by
  go_enter Tryz.func133,Tryz.ntmps133
  go_wp2
  go_loopw [10] (fun i wr=>∃ (k : Nat),i = .int .i64 k ∧ k ≤ l.length ∧ Below w.heap.size w wr ∧ Hid (eachE l = eachE (l.drop k))) (fun i _=>l.length - (intOf i).toNat)
  case atStart=>exact ⟨0,rfl,Nat.zero_le _,Below.refl _ _,rfl⟩
  case round =>
    obtain ⟨k,rfl,hk,hBr,H⟩:=hrel
    by_cases hlt : k < l.length
    · obtain ⟨b,off,rfl,hb,hc⟩:=h k hlt
      have hO:=(hc k hlt).below hBr hb
      obtain ⟨sa,sc,y0,y1,y2,y3,y4,y5⟩:=hO
      clear hc
      have hA:=below_alloc wr (.cells #[.int .i64 l[k].id,.int .i64 l[k].kind,.slice sa l[k].links.length sc,.string l[k].text] 58)
      go_wp2_with fail
      refine (check_any l[k].id l[k].kind sa sc l[k].links l[k].text _ (y4.below hA) y5).mono ?_
      rintro e w1 ⟨rfl,hb1⟩
      have hB1:=(hBr.trans (hA.mono hBr.size)).trans (hb1.mono (by have:=hBr.size;have:=hA.size;omega))
      clear hb1 hA y0 y1 y2 y3 y4 hBr
      by_cases hz : l[k].err = 0
      · have HN : Hid (eachE l = eachE (l.drop (k + 1))):=ee_next hlt H.out hz
        rw [show checkE l[k].id l[k].kind l[k].links l[k].text.size = 0 from hz]
        clear hz
        go_wp2
        go_roundw
        case rel=>exact ⟨k + 1,by go_num,by omega,hB1,HN⟩
        case measure=>simp [intOf];omega
      · have HR : Hid (eachE l = l[k].err):=ee_bad hlt H.out hz
        have hz' : (checkE l[k].id l[k].kind l[k].links l[k].text.size != 0) = true:=by simpa using hz
        clear hz
        go_wp2
        go_ret
        exact ⟨ret_int HR.out.symm,hB1⟩
    · have HR : Hid (eachE l = 0):=ee_end hlt H.out
      go_wp2
      go_ret
      exact ⟨ret_int HR.out.symm,hBr⟩
def takeE (L : List Ob) (x : Ob) : Int:=match L[(placeI L x.id).toNat]? with
  | some y=>if placeI L x.id = -1 then 0 else hitE (sameO y.id y.kind y.links y.text x.id x.kind x.links x.text)
  | none=>0
def takeL (L : List Ob) (x : Ob) : List Ob:=if placeI L x.id = -1 then L.take (belowN L x.id) ++ [x] ++ L.drop (belowN L x.id) else L
def takeErr : List Ob → List Ob → Int
  | _,[]=>0
  | L,x :: m=>if takeE L x ≠ 0 then takeE L x else takeErr (takeL L x) m
def takeRes : List Ob → List Ob → List Ob
  | L,[]=>L
  | L,x :: m=>takeRes (takeL L x) m
theorem takeL_length (L : List Ob) (x : Ob) : (takeL L x).length ≤ L.length + 1:=by
  unfold takeL
  split
  · have:=belowN_le L x.id
    simp only [List.length_append,List.length_take,List.length_drop,List.length_singleton];omega
  · omega
theorem take_any (z p : Nat) (v : Value) (rs : List Pl) (L : List Ob) (hL : rs.map Pl.x = L) (x : Ob) (sa : Option Addr) (sc : Nat) (w : World) (SH : Shelf w z p v rs) (hn : rs.length ≤ 1000) (hx : Holds w sa x.links) (hxl : x.links.length ≤ 1000) :
    Calls Tryz.prog 136 #[.pointer (some ⟨p,0,none⟩),x.val sa sc] w fun e w'=>∃ v' rs',e = .returned (.int .i64 (takeE L x)) ∧ rs'.map Pl.x = takeL L x ∧ Shelf w' z p v' rs' ∧ Below z w w':=by
  rcases placeI_cases L x.id with hp | ⟨i,hp,hi⟩
  · refine (take_new z p v rs L hL x sa sc w SH hn hx hxl hp).mono ?_
    rintro e w' ⟨v',rs',rfl,h1,h2,h3⟩
    refine ⟨v',rs',ret_int ?_,by rw [takeL,if_pos hp];exact h1,h2,h3⟩
    unfold takeE
    split
    · rw [if_pos hp]
    · rfl
  · refine (take_hit z p v rs L hL x sa sc w SH hn hx i hp hi).mono ?_
    rintro e w' ⟨rfl,⟨v',h2⟩,h3⟩
    have hne : ¬ placeI L x.id = -1:=by omega
    refine ⟨v',rs,ret_int ?_,by rw [takeL,if_neg hne];exact hL,h2,h3.mono (Nat.le_trans SH.zp (Nat.le_of_lt SH.lt))⟩
    have ht : (placeI L x.id).toNat = i:=by omega
    unfold takeE
    rw [ht,List.getElem?_eq_getElem hi]
    simp only
    rw [if_neg hne]
theorem te_bad {L0 L m : List Ob} {k : Nat} (hk : k < m.length) (H : takeErr L0 m = takeErr L (m.drop k) ∧ takeRes L0 m = takeRes L (m.drop k)) (h : takeE L m[k] ≠ 0) : takeErr L0 m = takeE L m[k]:=by
  rw [H.1,List.drop_eq_getElem_cons hk,takeErr,if_pos h]
theorem te_next {L0 L m : List Ob} {k : Nat} (hk : k < m.length) (H : takeErr L0 m = takeErr L (m.drop k) ∧ takeRes L0 m = takeRes L (m.drop k)) (h : takeE L m[k] = 0) : takeErr L0 m = takeErr (takeL L m[k]) (m.drop (k + 1)) ∧ takeRes L0 m = takeRes (takeL L m[k]) (m.drop (k + 1)):=by
  rw [H.1,H.2,List.drop_eq_getElem_cons hk,takeErr,takeRes,if_neg (fun e=>e h)]
  exact ⟨rfl,rfl⟩
theorem te_end {L0 L m : List Ob} {k : Nat} (hk : ¬ k < m.length) (H : takeErr L0 m = takeErr L (m.drop k) ∧ takeRes L0 m = takeRes L (m.drop k)) : takeErr L0 m = 0 ∧ takeRes L0 m = L:=by
  rw [H.1,H.2,List.drop_of_length_le (by omega)];exact ⟨rfl,rfl⟩
set_option maxHeartbeats 800000 in
theorem each_take (a : Option Addr) (c : Nat) (l L0 : List Ob) (z p : Nat) (v0 : Value) (rs0 : List Pl) (w0 w : World) (h : HoldsS w0 a l) (hB : Below w0.heap.size w0 w) (hp : w0.heap.size ≤ z) (S0 : Shelf w z p v0 rs0) (hL0 : rs0.map Pl.x = L0)
    (hl : L0.length + l.length ≤ 1000) (hx : ∀ x ∈ l,x.links.length ≤ 1000) :
    Calls Tryz.prog 133 #[.slice a l.length c,.func (.func 136) #[.pointer (some ⟨p,0,none⟩)] #[]] w fun e w'=>e = .returned (.int .i64 (takeErr L0 l)) ∧ (takeErr L0 l = 0 → ∃ v' rs',rs'.map Pl.x = takeRes L0 l ∧ Shelf w' z p v' rs') ∧ Below w0.heap.size w0 w':=by
  have hl' : l.length ≤ 9223372036854775807:=by omega
  go_enter Tryz.func133,Tryz.ntmps133
  go_wp2
  go_loopw [10] (fun i wr=>∃ (k : Nat) (v : Value) (rs : List Pl) (L : List Ob),i = .int .i64 k ∧ k ≤ l.length ∧ Hid (rs.map Pl.x = L) ∧ L.length ≤ L0.length + k ∧ Shelf wr z p v rs ∧ Below w0.heap.size w0 wr ∧ Hid (takeErr L0 l = takeErr L (l.drop k) ∧ takeRes L0 l = takeRes L (l.drop k))) (fun i _=>l.length - (intOf i).toNat)
  case atStart=>exact ⟨0,v0,rs0,L0,rfl,Nat.zero_le _,hL0,by omega,S0,hB,rfl,rfl⟩
  case round =>
    clear S0 hL0
    obtain ⟨k,v,rs,L,rfl,hk,HL,hLk,SH,hBr,H⟩:=hrel
    by_cases hlt : k < l.length
    · obtain ⟨b,off,rfl,hb,hc⟩:=h k hlt
      have hO:=(hc k hlt).below hBr hb
      obtain ⟨sa,sc,y0,y1,y2,y3,y4,y5⟩:=hO
      clear hc
      have hA:=below_alloc wr (.cells #[.int .i64 l[k].id,.int .i64 l[k].kind,.slice sa l[k].links.length sc,.string l[k].text] 58)
      have hxl:=hx l[k] (List.getElem_mem hlt)
      have hrl : rs.length ≤ 1000:=by have:=congrArg List.length HL.out;rw [List.length_map] at this;omega
      go_wp2_with fail
      refine (take_any z p v rs L HL.out l[k] sa sc _ (SH.below hA) hrl (y4.below hA) hxl).mono ?_
      rintro e w1 ⟨v',rs',rfl,hL1,S1,hb1⟩
      have hB1:=(hBr.trans (hA.mono hBr.size)).trans (hb1.mono hp)
      have HL1 : Hid (rs'.map Pl.x = takeL L l[k]):=hL1
      have HLl : Hid ((takeL L l[k]).length ≤ L0.length + (k + 1)):=by have:=takeL_length L l[k];unfold Hid;omega
      clear hb1 hA y0 y1 y2 y3 y4 hBr SH hL1 hrl
      by_cases hz : takeE L l[k] = 0
      · have HN : Hid (_ ∧ _):=te_next hlt H.out hz
        rw [hz]
        clear hz
        go_wp2
        go_roundw
        case rel=>exact ⟨k + 1,v',rs',_,by go_num,by omega,HL1,HLl.out,S1,hB1,HN⟩
        case measure=>simp [intOf];omega
      · have HR : Hid (takeErr L0 l = takeE L l[k]):=te_bad hlt H.out hz
        have HZ : Hid (¬ takeE L l[k] = 0):=hz
        have hz' : (takeE L l[k] != 0) = true:=by simpa using hz
        clear hz
        go_wp2
        go_ret
        exact ⟨ret_int HR.out.symm,fun e=>absurd (HR.out.symm.trans e) HZ.out,hB1⟩
    · have HR : Hid (takeErr L0 l = 0 ∧ takeRes L0 l = L):=te_end hlt H.out
      go_wp2
      go_ret
      exact ⟨ret_int HR.out.1.symm,fun _=>⟨v,rs,HL.out.trans HR.out.2.symm,SH⟩,hBr⟩
end

section
open Go.RowKit
def addE (l m : List Ob) : Int:=if checkS l ≠ 0 then checkS l else if 12 < m.length then 2 else if eachE m ≠ 0 then eachE m else if takeErr l m ≠ 0 then takeErr l m else checkS (takeRes l m)
theorem err_links {x : Ob} (h : x.err = 0) : x.links.length ≤ 1000:=by
  have:=(checkE_zero h).2.2.1
  omega
theorem eachE_all {m : List Ob} (h : eachE m = 0) : ∀ x ∈ m,x.err = 0:=by
  induction m with
  | nil=>intro x hx;cases hx
  | cons y m ih =>
    rw [eachE] at h
    split at h
    · rename_i hy;exact absurd h hy
    · rename_i hy
      have hy' : y.err = 0:=Classical.byContradiction hy
      intro x hx
      rcases List.mem_cons.1 hx with rfl | hx
      · exact hy'
      · exact ih h x hx
theorem takeRes_length (m : List Ob) : ∀ L : List Ob,(takeRes L m).length ≤ L.length + m.length:=by
  induction m with
  | nil=>intro L;simp [takeRes]
  | cons x m ih =>
    intro L
    have h1:=ih (takeL L x)
    have h2:=takeL_length L x
    rw [takeRes,List.length_cons];omega
def AddPost (l m : List Ob) (w : World) (e : Ending) (w' : World) : Prop :=
  Below w.heap.size w w' ∧ ((addE l m ≠ 0 ∧ e = .returned (.tuple #[.slice none 0 0,.int .i64 (addE l m)])) ∨
    (addE l m = 0 ∧ ∃ a' c',e = .returned (.tuple #[.slice a' (takeRes l m).length c',.int .i64 0]) ∧ HoldsS w' a' (takeRes l m) ∧ (takeRes l m).length ≤ c' ∧ Room w' a' (takeRes l m)))
theorem AddPost.bad {l m : List Ob} {w w' : World} {r : Int} (hr : addE l m = r) (h0 : r ≠ 0) (hb : Below w.heap.size w w') : AddPost l m w (.returned (.tuple #[.slice none 0 0,.int .i64 r])) w' :=
  ⟨hb,.inl ⟨by rw [hr];exact h0,by rw [hr]⟩⟩
set_option maxHeartbeats 1000000 in
theorem add_any (a : Option Addr) (c : Nat) (l : List Ob) (a2 : Option Addr) (c2 : Nat) (m : List Ob) (w : World) (h : HoldsS w a l) (hl : l.length ≤ 9223372036854775807) (h2 : HoldsS w a2 m) (hm : m.length ≤ 9223372036854775807) :
    Calls Tryz.prog 77 #[.slice a l.length c,.slice a2 m.length c2] w (AddPost l m w):=by
  have hmf : ∀ (fn : Fn) (first cap : Array Value) (w : World),(Instr.makeFunc fn first cap).run Tryz.prog w = .ok (.func fn first cap) w:=fun _ _ _ _=>rfl
  go_enter Tryz.func77,Tryz.ntmps77
  go_wp2_with fail
  refine (checkS_any a c l w h hl).mono ?_
  rintro e w1 ⟨rfl,hb1⟩
  by_cases k1 : checkS l = 0
  case neg =>
    have HR : Hid (addE l m = checkS l):=by unfold Hid;rw [addE,if_pos k1]
    have HZ : Hid (checkS l ≠ 0):=k1
    have hz : (checkS l != 0) = true:=by simpa using k1
    clear k1
    go_wp2
    refine bodyPost_ret (v:=.tuple #[.slice none 0 0,.int .i64 (checkS l)]) (by simp [results,Tryz.results77,go_sem]) rfl ?_
    exact AddPost.bad HR.out HZ.out hb1
  have K1 : Hid (checkS l = 0):=k1
  rw [k1]
  clear k1
  by_cases k2 : (12 : Int) < (m.length : Int)
  case pos =>
    have HR : Hid (addE l m = 2):=by unfold Hid;rw [addE,if_neg (fun e=>e K1.out),if_pos (by omega)]
    go_wp2
    refine bodyPost_ret (v:=.tuple #[.slice none 0 0,.int .i64 2]) (by simp [results,Tryz.results77,go_sem]) rfl ?_
    exact AddPost.bad HR.out (by simp) hb1
  go_wp2_with fail
  refine (each_obj a2 c2 m w1 (h2.below hb1) hm).mono ?_
  rintro e w2 ⟨rfl,hb2⟩
  have hB2:=hb1.trans (hb2.mono hb1.size)
  by_cases k3 : eachE m = 0
  case neg =>
    have HR : Hid (addE l m = eachE m):=by unfold Hid;rw [addE,if_neg (fun e=>e K1.out),if_neg (by omega),if_pos k3]
    have HZ : Hid (eachE m ≠ 0):=k3
    have hz : (eachE m != 0) = true:=by simpa using k3
    clear k3
    go_wp2
    refine bodyPost_ret (v:=.tuple #[.slice none 0 0,.int .i64 (eachE m)]) (by simp [results,Tryz.results77,go_sem]) rfl ?_
    exact AddPost.bad HR.out HZ.out hB2
  have K3 : Hid (eachE m = 0):=k3
  rw [k3]
  clear k3
  have hll : l.length ≤ 40:=(checkS_zero K1.out).1
  go_wp2_with fail
  refine (newShelf_any a c l w2 (h.below hB2) (by omega) (fun x hx=>err_links (checkS_err K1.out x hx))).mono ?_
  rintro e w3 ⟨p,v,rs,rfl,hrs,SH,hb3⟩
  have HRS : Hid (rs.map Pl.x = l):=hrs
  clear hrs
  have hB3:=hB2.trans (hb3.mono hB2.size)
  have hpw : w.heap.size ≤ w2.heap.size:=hB2.size
  go_wp2_with fail
  refine (each_take a2 c2 m l w2.heap.size p v rs w w3 h2 hB3 hpw SH HRS.out (by omega) (fun x hx=>err_links (eachE_all K3.out x hx))).mono ?_
  rintro e w4 ⟨rfl,hres,hB4⟩
  by_cases k4 : takeErr l m = 0
  case neg =>
    have HR : Hid (addE l m = takeErr l m):=by unfold Hid;rw [addE,if_neg (fun e=>e K1.out),if_neg (by omega),if_neg (fun e=>e K3.out),if_pos k4]
    have HZ : Hid (takeErr l m ≠ 0):=k4
    have hz : (takeErr l m != 0) = true:=by simpa using k4
    clear k4 hres
    go_wp2
    refine bodyPost_ret (v:=.tuple #[.slice none 0 0,.int .i64 (takeErr l m)]) (by simp [results,Tryz.results77,go_sem]) rfl ?_
    exact AddPost.bad HR.out HZ.out hB4
  obtain ⟨v',rs',hrs',SH'⟩:=hres k4
  have HA : Hid (addE l m = checkS (takeRes l m)):=by unfold Hid;rw [addE,if_neg (fun e=>e K1.out),if_neg (by omega),if_neg (fun e=>e K3.out),if_neg (fun e=>e k4)]
  rw [k4]
  clear k4 hres SH hb3 hb2 hb1 hB2 hB3
  obtain ⟨a',c',rfl,hH',hc'⟩:=SH'.reads
  have hcell:=SH'.cell
  rw [hrs'] at hH' hcell
  have hRL : (takeRes l m).length ≤ c':=by rw [← hrs',List.length_map];exact hc'
  have hR1 : (takeRes l m).length ≤ 9223372036854775807:=by have:=takeRes_length m l;omega
  have hpl:=SH'.lt
  have hRm : Room w4 a' (takeRes l m):=by rw [← hrs'];exact SH'.room
  clear hrs' hc' SH'
  go_wp2_with fail
  refine (checkS_any a' c' (takeRes l m) w4 hH' hR1).mono ?_
  rintro e w5 ⟨rfl,hb5⟩
  have hB5:=hB4.trans (hb5.mono hB4.size)
  have hcell5:=(hb5.cell (p:=⟨p,0,none⟩) hpl).trans hcell
  have hH5:=hH'.below hb5
  have hRm5 : Hid (Room w5 a' (takeRes l m)):=hRm.below hb5
  clear hb5 hcell hH' hB4 hRm
  by_cases k5 : checkS (takeRes l m) = 0
  case neg =>
    have HZ : Hid (checkS (takeRes l m) ≠ 0):=k5
    have hz : (checkS (takeRes l m) != 0) = true:=by simpa using k5
    clear k5
    go_wp2
    refine bodyPost_ret (v:=.tuple #[.slice none 0 0,.int .i64 (checkS (takeRes l m))]) (by simp [results,Tryz.results77,go_sem]) rfl ?_
    exact AddPost.bad HA.out HZ.out hB5
  have HF : Hid (addE l m = 0 ∧ HoldsS w5 a' (takeRes l m) ∧ (takeRes l m).length ≤ c' ∧ Below w.heap.size w w5):=⟨HA.out.trans k5,hH5,hRL,hB5⟩
  rw [k5]
  clear k5 hH5 hB5
  go_wp2
  refine bodyPost_ret (v:=.tuple #[.slice a' (takeRes l m).length c',.int .i64 0]) (by simp [results,Tryz.results77,go_sem]) rfl ?_
  exact ⟨HF.out.2.2.2,.inr ⟨HF.out.1,a',c',rfl,HF.out.2.1,HF.out.2.2.1,hRm5.out⟩⟩
end

section
open Go.RowKit
abbrev o1 : Ob:=⟨1,1,[],tee⟩
abbrev o2 : Ob:=⟨2,2,[1],tee⟩
abbrev o3 : Ob:=⟨3,3,[2],tee⟩
abbrev o4 : Ob:=⟨4,2,[1,2],tee⟩
abbrev o5 : Ob:=⟨5,3,[4,3],tee⟩
def shelfL : List Ob:=[o1,o2,o3,o4,o5]
structure C4 (g o : Nat) (x : Ob) (sa : Option Addr) (sc : Nat) (w : World) : Prop where
  lt : g < w.heap.size
  c0 : w.cell? ⟨g,o,none⟩ = some (.int .i64 x.id)
  c1 : w.cell? ⟨g,o + 1,none⟩ = some (.int .i64 x.kind)
  c2 : w.cell? ⟨g,o + 2,none⟩ = some (.slice sa x.links.length sc)
  c3 : w.cell? ⟨g,o + 3,none⟩ = some (.string x.text)
  holds : Holds w sa x.links
theorem C4.at {g o : Nat} {x : Ob} {sa : Option Addr} {sc : Nat} {w : World} (h : C4 g o x sa sc w) (hl : x.links.length ≤ 9223372036854775807) : ObAt w g o x:=⟨sa,sc,h.c0,h.c1,h.c2,h.c3,h.holds,hl⟩
theorem shelf_five (w : World) : Calls Tryz.prog 61 #[] w fun e w'=>∃ g b2 b3 b4 b5,e = .returned (.slice (some ⟨g,0,none⟩) 5 5) ∧ Below w.heap.size w w' ∧
    C4 g 0 o1 none 0 w' ∧ C4 g 4 o2 (some ⟨b2,0,none⟩) 1 w' ∧ C4 g 8 o3 (some ⟨b3,0,none⟩) 1 w' ∧ C4 g 12 o4 (some ⟨b4,0,none⟩) 2 w' ∧ C4 g 16 o5 (some ⟨b5,0,none⟩) 2 w':=by
  refine (shelf_any w).mono ?_
  rintro e w' ⟨g,b2,b3,b4,b5,rfl,hB,_,hlt,hg,q2,q3,q4,q5⟩
  refine ⟨g,b2,b3,b4,b5,rfl,hB,?_,?_,?_,?_,?_⟩
  · constructor <;> first | exact hlt | (simp [World.cell?,hg,shelfCells];done) | (intro i hi;simp at hi)
  · constructor <;> first | exact hlt | (simp [World.cell?,hg,shelfCells];done) | exact q2
  · constructor <;> first | exact hlt | (simp [World.cell?,hg,shelfCells];done) | exact q3
  · constructor <;> first | exact hlt | (simp [World.cell?,hg,shelfCells];done) | exact q4
  · constructor <;> first | exact hlt | (simp [World.cell?,hg,shelfCells];done) | exact q5
theorem five_holds {g b2 b3 b4 b5 : Nat} {w : World} (h1 : C4 g 0 o1 none 0 w) (h2 : C4 g 4 o2 (some ⟨b2,0,none⟩) 1 w) (h3 : C4 g 8 o3 (some ⟨b3,0,none⟩) 1 w) (h4 : C4 g 12 o4 (some ⟨b4,0,none⟩) 2 w) (h5 : C4 g 16 o5 (some ⟨b5,0,none⟩) 2 w) : HoldsS w (some ⟨g,0,none⟩) shelfL:=by
  intro i hi
  refine ⟨g,0,rfl,h1.lt,fun j hj=>?_⟩
  match j,hj with
  | 0,_=>exact h1.at (by simp)
  | 1,_=>exact h2.at (by simp)
  | 2,_=>exact h3.at (by simp)
  | 3,_=>exact h4.at (by simp)
  | 4,_=>exact h5.at (by simp)
theorem shelf_holds (w : World) : Calls Tryz.prog 61 #[] w fun e w'=>∃ g,e = .returned (.slice (some ⟨g,0,none⟩) 5 5) ∧ Below w.heap.size w w' ∧ HoldsS w' (some ⟨g,0,none⟩) shelfL:=by
  refine (shelf_five w).mono ?_
  rintro e w' ⟨g,b2,b3,b4,b5,rfl,hB,h1,h2,h3,h4,h5⟩
  exact ⟨g,rfl,hB,five_holds h1 h2 h3 h4 h5⟩
theorem same_same (x : Ob) : sameO x.id x.kind x.links x.text x.id x.kind x.links x.text = true:=sameO_refl _ _ _ _
end

section
open Go.RowKit
end

section
open Go.RowKit
def Rises (l : List Ob) : Prop:=l.Pairwise (fun x y=>x.id < y.id)
theorem eachC_iff {l : List Ob} (m : List Ob) : ∀ last : Int,eachC l last m = 0 ↔ (∀ x ∈ m,x.err = 0 ∧ last < x.id ∧ linkS l x.kind 0 x.links = 0) ∧ Rises m:=by
  induction m with
  | nil=>intro last;simp [eachC,Rises]
  | cons y ys ih =>
    intro last
    constructor
    · intro h
      refine ⟨eachC_all _ _ h,?_⟩
      rw [eachC] at h
      split at h
      · omega
      · obtain ⟨h1,h2⟩:=(ih y.id).1 h
        exact List.pairwise_cons.2 ⟨fun x hx=>(h1 x hx).2.1,h2⟩
    · rintro ⟨h1,h2⟩
      obtain ⟨hy,hr⟩:=List.pairwise_cons.1 h2
      obtain ⟨e1,e2,e3⟩:=h1 y (by simp)
      have hc : chk1 l last y = 0:=by rw [chk1,if_neg (fun e=>e e1),if_neg (by omega),e3]
      rw [eachC,if_neg (fun e=>e hc),ih]
      exact ⟨fun x hx=>⟨(h1 x (by simp [hx])).1,hy x hx,(h1 x (by simp [hx])).2.2⟩,hr⟩
theorem checkS_iff {l : List Ob} : checkS l = 0 ↔ l.length ≤ 40 ∧ (∀ x ∈ l,x.err = 0 ∧ linkS l x.kind 0 x.links = 0) ∧ Rises l:=by
  unfold checkS
  split
  · constructor
    · intro h;omega
    · intro h;omega
  · rw [eachC_iff]
    constructor
    · rintro ⟨h1,h2⟩
      exact ⟨by omega,fun x hx=>⟨(h1 x hx).1,(h1 x hx).2.2⟩,h2⟩
    · rintro ⟨_,h1,h2⟩
      exact ⟨fun x hx=>⟨(h1 x hx).1,by have:=(checkE_zero (h1 x hx).1).1;omega,(h1 x hx).2⟩,h2⟩
theorem Rises.lt {l : List Ob} (h : Rises l) {i j : Nat} (hi : i < l.length) (hj : j < l.length) (hij : i < j) : l[i].id < l[j].id:=List.pairwise_iff_getElem.1 h i j hi hj hij
theorem Rises.of_lt {l : List Ob} (h : Rises l) {i j : Nat} (hi : i < l.length) (hj : j < l.length) (hid : l[i].id < l[j].id) : i < j:=by
  rcases Nat.lt_trichotomy i j with c | c | c
  · exact c
  · subst c;omega
  · have:=h.lt hj hi c;omega
theorem placeI_get {l : List Ob} {x : Int} {i : Nat} (h : placeI l x = i) : ∃ hi : i < l.length,l[i].id = x:=by
  unfold placeI at h
  split at h
  · rename_i k hk
    rw [List.findIdx?_eq_some_iff_getElem] at hk
    obtain ⟨hk',hid,_⟩:=hk
    have : k = i:=by omega
    subst this
    exact ⟨hk',by simpa using hid⟩
  · omega
theorem placeI_rise {l : List Ob} (h : Rises l) {i : Nat} (hi : i < l.length) : placeI l l[i].id = i :=
  findIdx_hit hi (fun j hj hji=>by have:=h.lt hj hi hji;simp;omega) (by simp)
theorem linkS_iff {l : List Ob} {kind : Int} (L : List Int) : ∀ i : Nat,linkS l kind i L = 0 ↔ ∀ j (h : j < L.length),0 ≤ placeI l L[j] ∧ mayB kind ((i + j : Nat) : Int) (kindAt l L[j]) = true:=by
  induction L with
  | nil=>intro i;simp [linkS]
  | cons x xs ih =>
    intro i
    rw [linkS]
    constructor
    · intro h j hj
      split at h
      · omega
      split at h
      · omega
      rename_i h1 h2
      match j,hj with
      | 0,_=>exact ⟨by simpa using h1,by simpa using h2⟩
      | j + 1,hj =>
        have:=(ih (i + 1)).1 h j (by simpa using hj)
        rw [show i + (j + 1) = i + 1 + j by omega]
        simpa using this
    · intro h
      have h0:=h 0 (by simp)
      simp only [List.getElem_cons_zero,Nat.add_zero] at h0
      rw [if_neg (by omega),if_neg (by rw [h0.2];simp),ih]
      intro j hj
      have:=h (j + 1) (by simpa using hj)
      rw [show i + (j + 1) = i + 1 + j by omega] at this
      simpa using this
theorem kindAt_at {l : List Ob} {x : Int} {i : Nat} (h : placeI l x = i) (hi : i < l.length) : kindAt l x = l[i].kind:=by
  unfold kindAt
  rw [show (placeI l x).toNat = i by omega,List.getElem?_eq_getElem hi]
end

section
open Go.RowKit
theorem sameO_eq {x y : Ob} (h : sameO x.id x.kind x.links x.text y.id y.kind y.links y.text = true) : x = y:=by
  obtain ⟨i,k,L,t⟩:=x
  obtain ⟨i',k',L',t'⟩:=y
  simp only [sameO,sameB,Bool.and_eq_true,decide_eq_true_eq] at h
  obtain ⟨⟨⟨h1,h2⟩,h3⟩,h4⟩:=h
  have h5 : t = t':=by
    rw [ByteArray.toList_eq,ByteArray.toList_eq] at h3
    obtain ⟨⟨a⟩⟩:=t
    obtain ⟨⟨b⟩⟩:=t'
    simp at h3
    rw [h3]
  rw [h1,h2,h4,h5]
theorem takeL_old {L : List Ob} {x y : Ob} (h : y ∈ L) : y ∈ takeL L x:=by
  unfold takeL
  split
  · have:=List.take_append_drop (belowN L x.id) L
    rw [← this] at h
    rcases List.mem_append.1 h with h | h
    · simp [h]
    · simp [h]
  · exact h
theorem takeL_mem {L : List Ob} {x y : Ob} (h : y ∈ takeL L x) : y ∈ L ∨ y = x:=by
  unfold takeL at h
  split at h
  · simp only [List.mem_append,List.mem_singleton] at h
    rcases h with (h | h) | h
    · exact .inl (List.mem_of_mem_take h)
    · exact .inr h
    · exact .inl (List.mem_of_mem_drop h)
  · exact .inl h
theorem takeE_hit {L : List Ob} {x : Ob} {i : Nat} (hp : placeI L x.id = i) (hi : i < L.length) : takeE L x = hitE (sameO L[i].id L[i].kind L[i].links L[i].text x.id x.kind x.links x.text):=by
  unfold takeE
  rw [show (placeI L x.id).toNat = i by omega,List.getElem?_eq_getElem hi]
  simp only
  rw [if_neg (by omega)]
theorem takeL_new {L : List Ob} {x : Ob} (h : takeE L x = 0) : x ∈ takeL L x:=by
  rcases placeI_cases L x.id with hp | ⟨i,hp,hi⟩
  · rw [takeL,if_pos hp];simp
  · rw [takeE_hit hp hi] at h
    have hs : sameO L[i].id L[i].kind L[i].links L[i].text x.id x.kind x.links x.text = true:=by
      cases hq : sameO L[i].id L[i].kind L[i].links L[i].text x.id x.kind x.links x.text with
      | true=>rfl
      | false=>rw [hq] at h;cases h
    exact takeL_old (by rw [← sameO_eq hs];exact List.getElem_mem hi)
theorem takeRes_old {m : List Ob} : ∀ {L : List Ob} {y : Ob},y ∈ L → y ∈ takeRes L m:=by
  induction m with
  | nil=>intro L y h;exact h
  | cons x m ih=>intro L y h;exact ih (takeL_old h)
theorem takeRes_new {m : List Ob} : ∀ {L : List Ob},takeErr L m = 0 → ∀ y ∈ m,y ∈ takeRes L m:=by
  induction m with
  | nil=>intro L _ y hy;cases hy
  | cons x m ih =>
    intro L h y hy
    rw [takeErr] at h
    split at h
    · rename_i h0;exact absurd h h0
    · rename_i h0
      have h0' : takeE L x = 0:=Classical.byContradiction h0
      rcases List.mem_cons.1 hy with rfl | hy
      · show y ∈ takeRes (takeL L y) m
        exact takeRes_old (takeL_new h0')
      · exact ih h y hy
theorem takeRes_mem {m : List Ob} : ∀ {L : List Ob} {y : Ob},y ∈ takeRes L m → y ∈ L ∨ y ∈ m:=by
  induction m with
  | nil=>intro L y h;exact .inl h
  | cons x m ih =>
    intro L y h
    rcases ih h with h | h
    · rcases takeL_mem h with h | h
      · exact .inl h
      · exact .inr (by simp [h])
    · exact .inr (by simp [h])
theorem addE_zero {l m : List Ob} (h : addE l m = 0) : checkS l = 0 ∧ m.length ≤ 12 ∧ eachE m = 0 ∧ takeErr l m = 0 ∧ checkS (takeRes l m) = 0:=by
  unfold addE at h
  split at h
  · rename_i h0;exact absurd h h0
  split at h
  · omega
  split at h
  · rename_i h0;exact absurd h h0
  split at h
  · rename_i h0;exact absurd h h0
  rename_i h1 h2 h3 h4
  exact ⟨Classical.byContradiction h1,by omega,Classical.byContradiction h3,Classical.byContradiction h4,h⟩
end

section
open Go.RowKit
theorem rises_before {L : List Ob} (hr : Rises L) (id : Int) : ∀ k (hk : k < L.length),k < belowN L id ↔ L[k].id < id:=by
  induction L with
  | nil=>intro k hk;simp at hk
  | cons y L ih =>
    obtain ⟨hy,hr'⟩:=List.pairwise_cons.1 hr
    intro k hk
    by_cases c : y.id < id
    · have hb : belowN (y :: L) id = belowN L id + 1:=by simp [belowN,c]
      rw [hb]
      match k,hk with
      | 0,_=>simp [c]
      | k + 1,hk =>
        have:=ih hr' k (by simpa using hk)
        simp only [List.getElem_cons_succ]
        omega
    · have hz : belowN L id = 0:=by
        simp only [belowN,List.length_eq_zero_iff,List.filter_eq_nil_iff,decide_eq_true_eq]
        intro z hz
        have:=hy z hz
        omega
      have hb : belowN (y :: L) id = 0:=by
        have : belowN (y :: L) id = belowN L id:=by simp [belowN,c]
        omega
      rw [hb]
      match k,hk with
      | 0,_=>simp [c]
      | k + 1,hk =>
        have hk' : k < L.length:=by simpa using hk
        have:=hy L[k] (List.getElem_mem hk')
        simp only [List.getElem_cons_succ]
        omega
theorem takeL_rises {L : List Ob} (hr : Rises L) (x : Ob) : Rises (takeL L x):=by
  unfold takeL
  split
  · rename_i hp
    have hno : ∀ k (hk : k < L.length),L[k].id ≠ x.id:=fun k hk e=>by
      have:=placeI_rise hr hk
      rw [e] at this;omega
    have hs : L = L.take (belowN L x.id) ++ L.drop (belowN L x.id):=(List.take_append_drop _ _).symm
    have h0 : Rises (L.take (belowN L x.id) ++ L.drop (belowN L x.id)):=by rw [← hs];exact hr
    obtain ⟨h1,h2,h3⟩:=List.pairwise_append.1 h0
    have hle:=belowN_le L x.id
    rw [List.append_assoc]
    refine List.pairwise_append.2 ⟨h1,List.pairwise_append.2 ⟨by simp,h2,?_⟩,?_⟩
    · intro a ha b hb
      obtain rfl:=List.mem_singleton.1 ha
      obtain ⟨j,hj,rfl⟩:=List.getElem_of_mem hb
      rw [List.length_drop] at hj
      rw [List.getElem_drop]
      have q1:=(rises_before hr a.id (belowN L a.id + j) (by omega))
      have q2:=hno (belowN L a.id + j) (by omega)
      omega
    · intro a ha b hb
      rcases List.mem_append.1 hb with hb | hb
      · obtain rfl:=List.mem_singleton.1 hb
        obtain ⟨j,hj,rfl⟩:=List.getElem_of_mem ha
        rw [List.length_take] at hj
        rw [List.getElem_take]
        exact (rises_before hr b.id j (by omega)).1 (by omega)
      · exact h3 a ha b hb
  · exact hr
theorem takeRes_rises (m : List Ob) : ∀ {L : List Ob},Rises L → Rises (takeRes L m):=by
  induction m with
  | nil=>intro L h;exact h
  | cons x m ih=>intro L h;exact ih (takeL_rises h x)
theorem rises_ext : ∀ {A B : List Ob},Rises A → Rises B → (∀ x,x ∈ A ↔ x ∈ B) → A = B:=by
  intro A
  induction A with
  | nil =>
    intro B _ _ h
    cases B with
    | nil=>rfl
    | cons y B=>have:=(h y).2 (by simp);cases this
  | cons x A ih =>
    intro B ha hb h
    cases B with
    | nil=>have:=(h x).1 (by simp);cases this
    | cons y B =>
      obtain ⟨hx,ha'⟩:=List.pairwise_cons.1 ha
      obtain ⟨hy,hb'⟩:=List.pairwise_cons.1 hb
      have hxy : x = y:=by
        rcases List.mem_cons.1 ((h x).1 (by simp)) with e | e
        · exact e
        · rcases List.mem_cons.1 ((h y).2 (by simp)) with e' | e'
          · exact e'.symm
          · have q1:=hy x e;have q2:=hx y e';omega
      subst hxy
      congr 1
      refine ih ha' hb' fun z=>⟨fun hz=>?_,fun hz=>?_⟩
      · rcases List.mem_cons.1 ((h z).1 (by simp [hz])) with e | e
        · subst e;have:=hx z hz;omega
        · exact e
      · rcases List.mem_cons.1 ((h z).2 (by simp [hz])) with e | e
        · subst e;have:=hy z hz;omega
        · exact e
def Agree (l : List Ob) : Prop:=∀ x ∈ l,∀ y ∈ l,x.id = y.id → x = y
theorem takeErr_iff (m : List Ob) : ∀ {L : List Ob},Rises L → (takeErr L m = 0 ↔ Agree (L ++ m)):=by
  induction m with
  | nil =>
    intro L hr
    simp only [takeErr,List.append_nil,true_iff]
    intro x hx y hy e
    obtain ⟨i,hi,rfl⟩:=List.getElem_of_mem hx
    obtain ⟨j,hj,rfl⟩:=List.getElem_of_mem hy
    have h1:=placeI_rise hr hi
    have h2:=placeI_rise hr hj
    rw [e] at h1
    have : i = j:=by omega
    subst this;rfl
  | cons z m ih =>
    intro L hr
    rw [takeErr]
    constructor
    · intro h
      split at h
      · rename_i h0;exact absurd h h0
      · rename_i h0
        have h0' : takeE L z = 0:=Classical.byContradiction h0
        have hA:=(ih (takeL_rises hr z)).1 h
        have hin : ∀ x ∈ L ++ z :: m,x ∈ takeL L z ++ m:=fun x hx=>by
          simp only [List.mem_append,List.mem_cons] at hx ⊢
          rcases hx with hx | rfl | hx
          · exact .inl (takeL_old hx)
          · exact .inl (takeL_new h0')
          · exact .inr hx
        exact fun x hx y hy e=>hA x (hin x hx) y (hin y hy) e
    · intro h
      have h0 : takeE L z = 0:=by
        rcases placeI_cases L z.id with hp | ⟨i,hp,hi⟩
        · unfold takeE
          split
          · rw [if_pos hp]
          · rfl
        · obtain ⟨_,hid⟩:=placeI_get hp
          have:=h L[i] (by simp) z (by simp) hid
          rw [takeE_hit hp hi,this,same_same];rfl
      rw [if_neg (fun e=>e h0),ih (takeL_rises hr z)]
      have hin : ∀ x ∈ takeL L z ++ m,x ∈ L ++ z :: m:=fun x hx=>by
        simp only [List.mem_append,List.mem_cons] at hx ⊢
        rcases hx with hx | hx
        · rcases takeL_mem hx with hx | hx
          · exact .inl hx
          · exact .inr (.inl hx)
        · exact .inr (.inr hx)
      exact fun x hx y hy e=>h x (hin x hx) y (hin y hy) e
end

section
open Go.RowKit
theorem holds_row {w : World} {a : Option Addr} {m : List Ob} (h : HoldsS w a m) (hm : 0 < m.length) :
    ∃ (b off : Nat) (rs : List Pl),a = some ⟨b,off,none⟩ ∧ b < w.heap.size ∧ rs.map Pl.x = m ∧ (∀ j u,(rowC rs)[j]? = some u → w.cell? ((⟨b,off,none⟩ : Addr).add j) = some u) ∧ ∀ r ∈ rs,Holds w r.sa r.x.links:=by
  obtain ⟨b,off,rfl,hbl,hc⟩:=h 0 hm
  have key : ∀ (n : Nat),n ≤ m.length → ∃ rs : List Pl,rs.map Pl.x = m.take n ∧ (∀ j u,(rowC rs)[j]? = some u → w.cell? ⟨b,off + j,none⟩ = some u) ∧ ∀ r ∈ rs,Holds w r.sa r.x.links:=by
    intro n
    induction n with
    | zero=>intro _;exact ⟨[],rfl,fun j u hj=>by simp [rowC] at hj,fun r hr=>by cases hr⟩
    | succ n ih =>
      intro hn
      obtain ⟨rs,e1,e2,e3⟩:=ih (by omega)
      obtain ⟨sa,sc,c0,c1,c2,c3,hh,_⟩:=hc n (by omega)
      have hl : rs.length = n:=by have:=congrArg List.length e1;rw [List.length_map,List.length_take] at this;omega
      refine ⟨rs ++ [⟨m[n],sa,sc⟩],?_,?_,?_⟩
      · rw [List.map_append,e1,List.take_succ_eq_append_getElem (by omega)];rfl
      · intro j u hj
        rw [rowC_append] at hj
        rcases Nat.lt_or_ge j (n * 4) with c | c
        · rw [List.getElem?_append_left (by rw [rowC_length,hl];exact c)] at hj
          exact e2 j u hj
        · rw [List.getElem?_append_right (by rw [rowC_length,hl];exact c),rowC_length,hl] at hj
          have hj4 : j - n * 4 < 4:=by
            rcases Nat.lt_or_ge (j - n * 4) 4 with q | q
            · exact q
            · rw [List.getElem?_eq_none (by simpa [rowC,Pl.cells] using q)] at hj;cases hj
          obtain ⟨i,hi⟩ : ∃ i,j = n * 4 + i ∧ i < 4:=⟨j - n * 4,by omega,hj4⟩
          obtain ⟨rfl,hi⟩:=hi
          rw [show n * 4 + i - n * 4 = i by omega] at hj
          match i,hi with
          | 0,_=>rw [show off + (n * 4 + 0) = off + n * 4 by omega,c0];simpa [rowC,Pl.cells] using hj
          | 1,_=>rw [show off + (n * 4 + 1) = off + n * 4 + 1 by omega,c1];simpa [rowC,Pl.cells] using hj
          | 2,_=>rw [show off + (n * 4 + 2) = off + n * 4 + 2 by omega,c2];simpa [rowC,Pl.cells] using hj
          | 3,_=>rw [show off + (n * 4 + 3) = off + n * 4 + 3 by omega,c3];simpa [rowC,Pl.cells] using hj
      · intro r hr
        rcases List.mem_append.1 hr with q | q
        · exact e3 r q
        · obtain rfl:=List.mem_singleton.1 q;exact hh
  obtain ⟨rs,e1,e2,e3⟩:=key m.length (Nat.le_refl _)
  rw [List.take_length] at e1
  refine ⟨b,off,rs,rfl,hbl,e1,fun j u hj=>?_,e3⟩
  have hadd : (⟨b,off,none⟩ : Addr).add j = ⟨b,off + j,none⟩:=by unfold Addr.add;split <;> simp_all
  rw [hadd]
  exact e2 j u hj
theorem own_reads {w : World} {base : Nat} {v : Value} {rs : List Pl} (h : w.ownsRow base 58 4 v rs.length (rowC rs)) (hh : ∀ r ∈ rs,Holds w r.sa r.x.links ∧ r.x.links.length ≤ 9223372036854775807) :
    ∃ a c,v = .slice a (rs.map Pl.x).length c ∧ HoldsS w a (rs.map Pl.x) ∧ (rs.map Pl.x).length ≤ c:=by
  rw [List.length_map]
  rcases h.2 with ⟨rfl,e⟩ | ⟨g,cap,cur,rfl,h1,h2,h3,h4,h5,h6⟩
  · rw [e]
    refine ⟨none,0,rfl,fun i hi=>?_,Nat.le_refl _⟩
    rw [List.length_map] at hi;omega
  · refine ⟨_,_,rfl,fun i hi=>⟨g,0,rfl,heap_lt h2,fun k hk=>?_⟩,h3⟩
    rw [List.length_map] at hk
    have hc : ∀ j,j < 4 → w.cell? ⟨g,0 + k * 4 + j,none⟩ = (rs[k].cells)[j]?:=fun j hj=>by
      rw [Nat.zero_add,cell_of_row w g _ _ _ _ h2,← rowC_get rs k j hk hj,← h6,List.getElem?_take,if_pos (by omega)]
      simp
    have hr:=hh rs[k] (List.getElem_mem hk)
    refine ⟨rs[k].sa,rs[k].sc,?_⟩
    rw [List.getElem_map]
    exact ⟨by simpa [Pl.cells] using hc 0 (by omega),by simpa [Pl.cells] using hc 1 (by omega),by simpa [Pl.cells] using hc 2 (by omega),by simpa [Pl.cells] using hc 3 (by omega),hr.1,hr.2⟩
end

section
open Go.RowKit
theorem eachE_iff {m : List Ob} : eachE m = 0 ↔ ∀ x ∈ m,x.err = 0:=by
  refine ⟨eachE_all,fun h=>?_⟩
  induction m with
  | nil=>rfl
  | cons y m ih =>
    rw [eachE,if_neg (fun e=>e (h y (by simp)))]
    exact ih (fun x hx=>h x (by simp [hx]))
theorem addE_iff {l m : List Ob} : addE l m = 0 ↔ checkS l = 0 ∧ m.length ≤ 12 ∧ (∀ x ∈ m,x.err = 0) ∧ Agree (l ++ m) ∧ checkS (takeRes l m) = 0:=by
  constructor
  · intro h
    obtain ⟨h1,h2,h3,h4,h5⟩:=addE_zero h
    exact ⟨h1,h2,eachE_iff.1 h3,(takeErr_iff m (checkS_iff.1 h1).2.2).1 h4,h5⟩
  · rintro ⟨h1,h2,h3,h4,h5⟩
    have q:=(takeErr_iff m (checkS_iff.1 h1).2.2).2 h4
    rw [addE,if_neg (fun e=>e h1),if_neg (by omega),if_neg (fun e=>e (eachE_iff.2 h3)),if_neg (fun e=>e q)]
    exact h5
theorem takeRes_iff {l m : List Ob} (h : takeErr l m = 0) {x : Ob} : x ∈ takeRes l m ↔ x ∈ l ∨ x ∈ m :=
  ⟨takeRes_mem,fun q=>q.elim takeRes_old (takeRes_new h x)⟩
end
end Go.Proofs.YtehmlpkapjdhkaaGreatDoor
