import Derived.Test.YtehmlpkapjdhkaaGreatDoorMD
import Derived.Deep.RegionHeld
import Derived.RangeFuncNested
import Derived.RangeFuncBound
import Derived.RangeFuncCalls
import Derived.RangeFuncLeaves
import Derived.Shelf.Abstract
import Derived.Shelf.RegionOpen
import Derived.OwnWalkIn
import Derived.TacticsInMore
import Derived.LoopNIn
import Derived.LoopIn
namespace Go.Proofs.YtehmlpkapjdhkaaGreatDoor
section
open Go.RowKit
set_option maxHeartbeats 400000 in
theorem there1_any (x : Ob) (sa : Option Addr) (sc : Nat) (id : Int) (p : Nat) (w : World) (hp : w.cell? ⟨p,0,none⟩ = some (.int .i64 id)) (hlt : p < w.heap.size) :
    Calls Tryz.prog 194 #[x.val sa sc,.pointer (some ⟨p,0,none⟩)] w fun e w'=>e = .returned (.bool (x.id == id)) ∧ Below w.heap.size w w':=by
  go_enter Tryz.func194,Tryz.ntmps194
  go_wp2
  go_ret
  exact ⟨rfl,below_alloc _ _⟩
set_option maxHeartbeats 400000 in
theorem indexThere_any (a : Option Addr) (c : Nat) (l : List Ob) (id : Int) (p : Nat) (w : World) (h : HoldsS w a l) (hl : l.length ≤ 9223372036854775807) (hp : w.cell? ⟨p,0,none⟩ = some (.int .i64 id)) (hlt : p < w.heap.size) :
    Calls Tryz.prog 139 #[.slice a l.length c,.func (.func 194) #[] #[.pointer (some ⟨p,0,none⟩)]] w fun e w'=>e = .returned (.int .i64 (placeI l id)) ∧ Below w.heap.size w w':=by
  go_enter Tryz.func139,Tryz.ntmps139
  go_wp2
  go_loopw [8] (fun i wr=>∃ k : Nat,i = .int .i64 k ∧ k ≤ l.length ∧ Below w.heap.size w wr ∧ Hid (∀ j (hj : j < l.length),j < k → (l[j].id == id) = false)) (fun i _=>l.length - (intOf i).toNat)
  case atStart=>exact ⟨0,rfl,Nat.zero_le _,Below.refl _ _,fun j _ h=>absurd h (Nat.not_lt_zero j)⟩
  case round =>
    obtain ⟨k,rfl,hk,hB,H⟩:=hrel
    by_cases hkl : k < l.length
    · obtain ⟨b,off,rfl,hb,hc⟩:=(h.below hB) k hkl
      obtain ⟨sa,sc,x0,x1,x2,x3,x4,x5⟩:=hc k hkl
      have hpr : wr.cell? ⟨p,0,none⟩ = some (.int .i64 id):=(hB.cell (p:=⟨p,0,none⟩) hlt).trans hp
      clear hc
      go_wp2_with fail
      refine (there1_any l[k] sa sc id p _ hpr (Nat.lt_of_lt_of_le hlt hB.size)).mono ?_
      rintro e w1 ⟨rfl,hb1⟩
      have hB1:=hB.trans (hb1.mono hB.size)
      clear hb1 x0 x1 x2 x3 x4 hpr
      by_cases hq : (l[k].id == id) = true
      · have HR : Hid (placeI l id = k):=findIdx_hit hkl H.out hq
        rw [hq]
        clear hq
        go_wp2
        go_ret
        exact ⟨ret_int HR.out.symm,hB1⟩
      · have hq' : (l[k].id == id) = false:=by simpa using hq
        have HN : Hid (∀ j (hj : j < l.length),j < k + 1 → (l[j].id == id) = false):=fun j hj hjk=>by
          rcases Nat.lt_or_ge j k with h1 | h1
          · exact H.out j hj h1
          · have : j = k:=by omega
            subst this
            exact hq'
        rw [hq']
        clear hq hq'
        go_wp2
        go_roundw
        case rel=>exact ⟨k + 1,by go_num,by omega,hB1,HN⟩
        case measure=>simp [intOf];omega
    · have HR : Hid (placeI l id = -1):=findIdx_miss (fun j hj=>H.out j hj (by omega))
      go_wp2
      go_ret
      exact ⟨ret_int HR.out.symm,hB⟩
set_option maxHeartbeats 400000 in
theorem containsThere_any (a : Option Addr) (c : Nat) (l : List Ob) (id : Int) (p : Nat) (w : World) (h : HoldsS w a l) (hl : l.length ≤ 9223372036854775807) (hp : w.cell? ⟨p,0,none⟩ = some (.int .i64 id)) (hlt : p < w.heap.size) :
    Calls Tryz.prog 193 #[.slice a l.length c,.func (.func 194) #[] #[.pointer (some ⟨p,0,none⟩)]] w fun e w'=>e = .returned (.bool (decide (0 ≤ placeI l id))) ∧ Below w.heap.size w w':=by
  go_enter Tryz.func193,Tryz.ntmps193
  go_wp2_with fail
  refine (indexThere_any a c l id p w h hl hp hlt).mono ?_
  rintro e w1 ⟨rfl,hb⟩
  go_wp2
  go_ret
  exact ⟨rfl,hb⟩
def thereE (l : List Ob) (ids : List Int) : Int:=if ids.all (fun id=>decide (0 ≤ placeI l id)) then 0 else 5
set_option maxHeartbeats 800000 in
theorem mustBeThere_any (a : Option Addr) (c : Nat) (l : List Ob) (a2 : Option Addr) (c2 : Nat) (ids : List Int) (w : World) (h : HoldsS w a l) (hl : l.length ≤ 9223372036854775807) (h2 : Holds w a2 ids) (hm : ids.length ≤ 9223372036854775807) :
    Calls Tryz.prog 141 #[.slice a l.length c,.slice a2 ids.length c2] w fun e w'=>e = .returned (.int .i64 (thereE l ids)) ∧ Below w.heap.size w w':=by
  have hmf : ∀ (fn : Fn) (first cap : Array Value) (w : World),(Instr.makeFunc fn first cap).run Tryz.prog w = .ok (.func fn first cap) w:=fun _ _ _ _=>rfl
  go_enter Tryz.func141,Tryz.ntmps141
  go_wp2
  go_loopw [9] (fun i wr=>∃ k : Nat,i = .int .i64 k ∧ k ≤ ids.length ∧ Below w.heap.size w wr ∧ Hid (∀ id ∈ ids.take k,0 ≤ placeI l id)) (fun i _=>ids.length - (intOf i).toNat)
  case atStart=>exact ⟨0,rfl,Nat.zero_le _,Below.refl _ _,fun j h=>by simp at h⟩
  case round =>
    obtain ⟨k,rfl,hk,hB,H⟩:=hrel
    by_cases hkl : k < ids.length
    · obtain ⟨b,off,rfl,hb,hc⟩:=(h2.below hB) k hkl
      have x0:=hc k hkl
      clear hc
      have hA:=below_alloc wr (.cells #[.int .i64 (ids.getD k 0)] 3)
      have hp : (wr.alloc (.cells #[.int .i64 (ids.getD k 0)] 3)).cell? ⟨wr.heap.size,0,none⟩ = some (.int .i64 (ids.getD k 0)):=by rw [World.cell?_alloc_at _ _ _ _ rfl];rfl
      have HG : Hid (ids.getD k 0 = ids[k]):=by unfold Hid;simp [hkl]
      generalize ids.getD k 0 = id at *
      go_wp2_with fail
      refine (containsThere_any a c l id wr.heap.size _ (h.below (hB.trans (hA.mono hB.size))) hl hp (by simp)).mono ?_
      rintro e w1 ⟨rfl,hb1⟩
      have hB1:=(hB.trans (hA.mono hB.size)).trans (hb1.mono (Nat.le_trans hB.size hA.size))
      clear hb1 x0 hp hA
      by_cases hq : 0 ≤ placeI l id
      · have HN : Hid (∀ id ∈ ids.take (k + 1),0 ≤ placeI l id):=fun j hj=>by
          rw [List.take_succ_eq_append_getElem hkl] at hj
          rcases List.mem_append.1 hj with q | q
          · exact H.out j q
          · rw [List.mem_singleton.1 q,← HG.out];exact hq
        rw [show decide (0 ≤ placeI l id) = true by simpa using hq]
        clear hq
        go_wp2
        go_roundw
        case rel=>exact ⟨k + 1,by go_num,by omega,hB1,HN⟩
        case measure=>simp [intOf];omega
      · have HR : Hid (thereE l ids = 5):=by
          unfold Hid thereE
          rw [if_neg]
          intro q
          have:=List.all_eq_true.1 q _ (List.getElem_mem hkl)
          rw [← HG.out] at this
          exact hq (by simpa using this)
        rw [show decide (0 ≤ placeI l id) = false by simpa using hq]
        clear hq
        go_wp2
        go_ret
        exact ⟨ret_int HR.out.symm,hB1⟩
    · have HR : Hid (thereE l ids = 0):=by
        unfold Hid thereE
        rw [if_pos]
        rw [List.all_eq_true]
        intro id hid
        simpa using H.out id (by rw [List.take_of_length_le (by omega)];exact hid)
      go_wp2
      go_ret
      exact ⟨ret_int HR.out.symm,hB⟩
end

section
open Go.RowKit
def indexI (L : List Int) (x : Int) : Int:=match L.findIdx? (fun y=>x == y) with | some i=>(i : Int) | none=>-1
theorem indexI_hit {L : List Int} {x : Int} {k : Nat} (hk : k < L.length) (hno : ∀ j (h : j < L.length),j < k → (x == L[j]) = false) (h : (x == L[k]) = true) : indexI L x = k:=by
  have : L.findIdx? (fun y=>x == y) = some k:=by
    rw [List.findIdx?_eq_some_iff_getElem]
    exact ⟨hk,h,fun j hj=>by simpa using hno j (by omega) hj⟩
  simp [indexI,this]
theorem indexI_miss {L : List Int} {x : Int} (hno : ∀ j (h : j < L.length),(x == L[j]) = false) : indexI L x = -1:=by
  have : L.findIdx? (fun y=>x == y) = none:=by
    rw [List.findIdx?_eq_none_iff]
    intro y hy
    obtain ⟨j,hj,rfl⟩:=List.getElem_of_mem hy
    exact hno j hj
  simp [indexI,this]
theorem indexI_mem {L : List Int} {x : Int} : (0 ≤ indexI L x) ↔ x ∈ L:=by
  unfold indexI
  split
  · rename_i i hi
    rw [List.findIdx?_eq_some_iff_getElem] at hi
    obtain ⟨h1,h2,_⟩:=hi
    refine ⟨fun _=>?_,fun _=>by omega⟩
    rw [show x = L[i] by simpa using h2]
    exact List.getElem_mem h1
  · rename_i hi
    rw [List.findIdx?_eq_none_iff] at hi
    refine ⟨fun h=>by omega,fun h=>?_⟩
    have:=hi x h
    simp at this
set_option maxHeartbeats 400000 in
theorem index_any (a : Option Addr) (c : Nat) (L : List Int) (x : Int) (w : World) (h : Holds w a L) (hl : L.length ≤ 9223372036854775807) :
    Calls Tryz.prog 239 #[.slice a L.length c,.int .i64 x] w fun e w'=>e = .returned (.int .i64 (indexI L x)) ∧ Below w.heap.size w w':=by
  go_enter Tryz.func239,Tryz.ntmps239
  go_wp2
  go_loopw [8] (fun i wr=>∃ k : Nat,i = .int .i64 k ∧ k ≤ L.length ∧ Below w.heap.size w wr ∧ Hid (∀ j (hj : j < L.length),j < k → (x == L[j]) = false)) (fun i _=>L.length - (intOf i).toNat)
  case atStart=>exact ⟨0,rfl,Nat.zero_le _,Below.refl _ _,fun j _ h=>absurd h (Nat.not_lt_zero j)⟩
  case round =>
    obtain ⟨k,rfl,hk,hB,H⟩:=hrel
    by_cases hkl : k < L.length
    · obtain ⟨b,off,rfl,hb,hc⟩:=(h.below hB) k hkl
      have x0:=hc k hkl
      have HG : Hid (L.getD k 0 = L[k]):=by unfold Hid;simp [hkl]
      generalize L.getD k 0 = y at *
      clear hc
      by_cases hq : x = y
      · have HR : Hid (indexI L x = k):=indexI_hit hkl H.out (by rw [← HG.out];simpa using hq)
        clear HG
        subst hq
        go_wp2
        go_ret
        exact ⟨ret_int HR.out.symm,hB⟩
      · have HN : Hid (∀ j (hj : j < L.length),j < k + 1 → (x == L[j]) = false):=fun j hj hjk=>by
          rcases Nat.lt_or_ge j k with h1 | h1
          · exact H.out j hj h1
          · have : j = k:=by omega
            subst this
            rw [← HG.out];simpa using hq
        have hq' : (x == y) = false:=by simpa using hq
        go_wp2
        go_roundw
        case rel=>exact ⟨k + 1,by go_num,by omega,hB,HN⟩
        case measure=>simp [intOf];omega
    · have HR : Hid (indexI L x = -1):=indexI_miss (fun j hj=>H.out j hj (by omega))
      go_wp2
      go_ret
      exact ⟨ret_int HR.out.symm,hB⟩
set_option maxHeartbeats 400000 in
theorem contains_any (a : Option Addr) (c : Nat) (L : List Int) (x : Int) (w : World) (h : Holds w a L) (hl : L.length ≤ 9223372036854775807) :
    Calls Tryz.prog 196 #[.slice a L.length c,.int .i64 x] w fun e w'=>e = .returned (.bool (decide (x ∈ L))) ∧ Below w.heap.size w w':=by
  go_enter Tryz.func196,Tryz.ntmps196
  go_wp2_with fail
  refine (index_any a c L x w h hl).mono ?_
  rintro e w1 ⟨rfl,hb⟩
  have HR : Hid (decide (0 ≤ indexI L x) = decide (x ∈ L)):=by unfold Hid;rw [decide_eq_decide];exact indexI_mem
  go_wp2
  go_ret
  exact ⟨ret_bool HR.out,hb⟩
set_option maxHeartbeats 400000 in
theorem other1_any (x : Ob) (sa : Option Addr) (sc : Nat) (kind : Int) (p q : Nat) (a2 : Option Addr) (c2 : Nat) (ids : List Int) (w : World) (hp : w.cell? ⟨p,0,none⟩ = some (.int .i64 kind)) (hlt : p < w.heap.size)
    (hq : w.cell? ⟨q,0,none⟩ = some (.slice a2 ids.length c2)) (hqlt : q < w.heap.size) (h2 : Holds w a2 ids) (hm : ids.length ≤ 9223372036854775807) :
    Calls Tryz.prog 195 #[x.val sa sc,.pointer (some ⟨p,0,none⟩),.pointer (some ⟨q,0,none⟩)] w fun e w'=>e = .returned (.bool (x.kind != kind && decide (x.id ∈ ids))) ∧ Below w.heap.size w w':=by
  have hA:=below_alloc w (.cells #[.int .i64 x.id,.int .i64 x.kind,.slice sa x.links.length sc,.string x.text] 58)
  have h2':=h2.below hA
  have hp':=(hA.cell (p:=⟨p,0,none⟩) hlt).trans hp
  have hq':=(hA.cell (p:=⟨q,0,none⟩) hqlt).trans hq
  go_enter Tryz.func195,Tryz.ntmps195
  by_cases hk : x.kind = kind
  · go_wp2
    go_ret
    exact ⟨ret_bool (by simp [hk]),below_alloc _ _⟩
  · have hk' : (x.kind != kind) = true:=by simpa using hk
    go_wp2_with fail
    refine (contains_any a2 c2 ids x.id _ h2' hm).mono ?_
    rintro e w1 ⟨rfl,hb1⟩
    have HR : Hid (decide (x.id ∈ ids) = (x.kind != kind && decide (x.id ∈ ids))):=by unfold Hid;rw [hk',Bool.true_and]
    have hB1:=hA.trans (hb1.mono hA.size)
    clear hb1 h2' hp' hq' hA
    go_wp2
    go_ret
    exact ⟨ret_bool HR.out,hB1⟩
end

section
open Go.RowKit
def indexP (P : Ob → Bool) (l : List Ob) : Int:=match l.findIdx? P with | some i=>(i : Int) | none=>-1
theorem indexP_hit {P : Ob → Bool} {l : List Ob} {k : Nat} (hk : k < l.length) (hno : ∀ j (h : j < l.length),j < k → P l[j] = false) (h : P l[k] = true) : indexP P l = k:=by
  have : l.findIdx? P = some k:=by
    rw [List.findIdx?_eq_some_iff_getElem]
    exact ⟨hk,h,fun j hj=>by simpa using hno j (by omega) hj⟩
  simp [indexP,this]
theorem indexP_miss {P : Ob → Bool} {l : List Ob} (hno : ∀ j (h : j < l.length),P l[j] = false) : indexP P l = -1:=by
  have : l.findIdx? P = none:=by
    rw [List.findIdx?_eq_none_iff]
    intro x hx
    obtain ⟨j,hj,rfl⟩:=List.getElem_of_mem hx
    exact hno j hj
  simp [indexP,this]
theorem indexP_any {P : Ob → Bool} {l : List Ob} : decide (0 ≤ indexP P l) = l.any P:=by
  unfold indexP
  split
  · rename_i i hi
    rw [List.findIdx?_eq_some_iff_getElem] at hi
    obtain ⟨h1,h2,_⟩:=hi
    rw [show l.any P = true from List.any_eq_true.2 ⟨_,List.getElem_mem h1,h2⟩]
    simp
  · rename_i hi
    rw [List.findIdx?_eq_none_iff] at hi
    rw [show l.any P = false from List.any_eq_false.2 (fun x hx=>by simp [hi x hx])]
    simp
def otherP (kind : Int) (ids : List Int) (x : Ob) : Bool:=x.kind != kind && decide (x.id ∈ ids)
set_option maxHeartbeats 800000 in
theorem indexOther_any (a : Option Addr) (c : Nat) (l : List Ob) (kind : Int) (p q : Nat) (a2 : Option Addr) (c2 : Nat) (ids : List Int) (w : World) (h : HoldsS w a l) (hl : l.length ≤ 9223372036854775807) (hp : w.cell? ⟨p,0,none⟩ = some (.int .i64 kind)) (hlt : p < w.heap.size)
    (hq : w.cell? ⟨q,0,none⟩ = some (.slice a2 ids.length c2)) (hqlt : q < w.heap.size) (h2 : Holds w a2 ids) (hm : ids.length ≤ 9223372036854775807) :
    Calls Tryz.prog 139 #[.slice a l.length c,.func (.func 195) #[] #[.pointer (some ⟨p,0,none⟩),.pointer (some ⟨q,0,none⟩)]] w fun e w'=>e = .returned (.int .i64 (indexP (otherP kind ids) l)) ∧ Below w.heap.size w w':=by
  go_enter Tryz.func139,Tryz.ntmps139
  go_wp2
  go_loopw [8] (fun i wr=>∃ k : Nat,i = .int .i64 k ∧ k ≤ l.length ∧ Below w.heap.size w wr ∧ Hid (∀ j (hj : j < l.length),j < k → otherP kind ids l[j] = false)) (fun i _=>l.length - (intOf i).toNat)
  case atStart=>exact ⟨0,rfl,Nat.zero_le _,Below.refl _ _,fun j _ h=>absurd h (Nat.not_lt_zero j)⟩
  case round =>
    obtain ⟨k,rfl,hk,hB,H⟩:=hrel
    by_cases hkl : k < l.length
    · obtain ⟨b,off,rfl,hb,hc⟩:=(h.below hB) k hkl
      obtain ⟨sa,sc,x0,x1,x2,x3,x4,x5⟩:=hc k hkl
      have hpr : wr.cell? ⟨p,0,none⟩ = some (.int .i64 kind):=(hB.cell (p:=⟨p,0,none⟩) hlt).trans hp
      have hqr : wr.cell? ⟨q,0,none⟩ = some (.slice a2 ids.length c2):=(hB.cell (p:=⟨q,0,none⟩) hqlt).trans hq
      have h2r:=h2.below hB
      clear hc
      go_wp2_with fail
      refine (other1_any l[k] sa sc kind p q a2 c2 ids _ hpr (Nat.lt_of_lt_of_le hlt hB.size) hqr (Nat.lt_of_lt_of_le hqlt hB.size) h2r hm).mono ?_
      rintro e w1 ⟨rfl,hb1⟩
      have hB1:=hB.trans (hb1.mono hB.size)
      clear hb1 x0 x1 x2 x3 x4 hpr hqr h2r
      by_cases hqq : (l[k].kind != kind && decide (l[k].id ∈ ids)) = true
      · have HR : Hid (indexP (otherP kind ids) l = k):=indexP_hit hkl H.out hqq
        rw [hqq]
        clear hqq
        go_wp2
        go_ret
        exact ⟨ret_int HR.out.symm,hB1⟩
      · have hq' : (l[k].kind != kind && decide (l[k].id ∈ ids)) = false:=by simpa using hqq
        have HN : Hid (∀ j (hj : j < l.length),j < k + 1 → otherP kind ids l[j] = false):=fun j hj hjk=>by
          rcases Nat.lt_or_ge j k with h1 | h1
          · exact H.out j hj h1
          · have : j = k:=by omega
            subst this
            exact hq'
        rw [hq']
        clear hqq hq'
        go_wp2
        go_roundw
        case rel=>exact ⟨k + 1,by go_num,by omega,hB1,HN⟩
        case measure=>simp [intOf];omega
    · have HR : Hid (indexP (otherP kind ids) l = -1):=indexP_miss (fun j hj=>H.out j hj (by omega))
      go_wp2
      go_ret
      exact ⟨ret_int HR.out.symm,hB⟩
set_option maxHeartbeats 400000 in
theorem containsOther_any (a : Option Addr) (c : Nat) (l : List Ob) (kind : Int) (p q : Nat) (a2 : Option Addr) (c2 : Nat) (ids : List Int) (w : World) (h : HoldsS w a l) (hl : l.length ≤ 9223372036854775807) (hp : w.cell? ⟨p,0,none⟩ = some (.int .i64 kind)) (hlt : p < w.heap.size)
    (hq : w.cell? ⟨q,0,none⟩ = some (.slice a2 ids.length c2)) (hqlt : q < w.heap.size) (h2 : Holds w a2 ids) (hm : ids.length ≤ 9223372036854775807) :
    Calls Tryz.prog 193 #[.slice a l.length c,.func (.func 195) #[] #[.pointer (some ⟨p,0,none⟩),.pointer (some ⟨q,0,none⟩)]] w fun e w'=>e = .returned (.bool (l.any (otherP kind ids))) ∧ Below w.heap.size w w':=by
  have HR : Hid (decide (0 ≤ indexP (otherP kind ids) l) = l.any (otherP kind ids)):=indexP_any
  go_enter Tryz.func193,Tryz.ntmps193
  go_wp2_with fail
  refine (indexOther_any a c l kind p q a2 c2 ids w h hl hp hlt hq hqlt h2 hm).mono ?_
  rintro e w1 ⟨rfl,hb⟩
  go_wp2
  go_ret
  exact ⟨ret_bool HR.out,hb⟩
set_option maxHeartbeats 400000 in
theorem anyOther_any (a : Option Addr) (c : Nat) (l : List Ob) (kind : Int) (a2 : Option Addr) (c2 : Nat) (ids : List Int) (w : World) (h : HoldsS w a l) (hl : l.length ≤ 9223372036854775807) (h2 : Holds w a2 ids) (hm : ids.length ≤ 9223372036854775807) :
    Calls Tryz.prog 142 #[.slice a l.length c,.int .i64 kind,.slice a2 ids.length c2] w fun e w'=>e = .returned (.bool (l.any (otherP kind ids))) ∧ Below w.heap.size w w':=by
  have hmf : ∀ (fn : Fn) (first cap : Array Value) (w : World),(Instr.makeFunc fn first cap).run Tryz.prog w = .ok (.func fn first cap) w:=fun _ _ _ _=>rfl
  have hA:=below_alloc w (.cells #[.int .i64 kind] 3)
  have hp : (w.alloc (.cells #[.int .i64 kind] 3)).cell? ⟨w.heap.size,0,none⟩ = some (.int .i64 kind):=by rw [World.cell?_alloc_at _ _ _ _ rfl];rfl
  have hA2:=below_alloc (w.alloc (.cells #[.int .i64 kind] 3)) (.cells #[.slice a2 ids.length c2] 45)
  have hp2:=(hA2.cell (p:=⟨w.heap.size,0,none⟩) (by simp)).trans hp
  have hq : ((w.alloc (.cells #[.int .i64 kind] 3)).alloc (.cells #[.slice a2 ids.length c2] 45)).cell? ⟨w.heap.size + 1,0,none⟩ = some (.slice a2 ids.length c2):=by
    rw [World.cell?_alloc_at _ _ _ _ (by simp)];rfl
  have hB:=hA.trans (hA2.mono hA.size)
  clear hA hA2 hp
  go_enter Tryz.func142,Tryz.ntmps142
  go_wp2_with fail
  refine (containsOther_any a c l kind w.heap.size (w.heap.size + 1) a2 c2 ids _ (h.below hB) hl hp2 (by simp;omega) hq (by simp) (h2.below hB) hm).mono ?_
  rintro e w1 ⟨rfl,hb⟩
  have hB1:=hB.trans (hb.mono hB.size)
  clear hb hB hp2 hq
  go_wp2
  go_ret
  exact ⟨rfl,hB1⟩
set_option maxHeartbeats 400000 in
theorem parents_any (x : Ob) (sa : Option Addr) (sc : Nat) (w : World) (h1 : 1 ≤ x.links.length) (hs : x.links.length ≤ sc) (hl : x.links.length ≤ 9223372036854775807) :
    Calls Tryz.prog 144 #[x.val sa sc] w fun e w'=>e = .returned (.slice (if sc = 1 then sa else sa.map (fun y=>y.add 1)) (x.links.length - 1) (sc - 1)) ∧ Below w.heap.size w w':=by
  have hs1 : (1 : Int) ≤ (sc : Int):=by omega
  have h1' : (1 : Int) ≤ (x.links.length : Int):=by omega
  by_cases hc : sc = 1
  · rw [if_pos hc,show sc - 1 = 0 by omega]
    go_enter Tryz.func144,Tryz.ntmps144
    go_wp2
    go_ret
    exact ⟨rfl,below_alloc _ _⟩
  · rw [if_neg hc]
    go_enter Tryz.func144,Tryz.ntmps144
    go_wp2
    go_ret
    exact ⟨rfl,below_alloc _ _⟩
end

section
open Go.RowKit Go.Shelf
attribute [local go_sem] Oper.semAt_some
def marksL (S : List Int) : Array Value:=((List.range 100).map (fun (j : Nat)=>Value.bool (decide ((j : Int) ∈ S)))).toArray
theorem marksL_size (S : List Int) : (marksL S).size = 100:=by simp [marksL]
theorem marksL_get (S : List Int) (i : Nat) (hi : i < 100) : (marksL S)[i]? = some (.bool (decide ((i : Int) ∈ S))):=by
  simp [marksL,hi]
theorem marksL_congr {S T : List Int} (h : ∀ j,j ∈ S ↔ j ∈ T) : marksL S = marksL T:=by
  unfold marksL
  congr 2
  funext j
  rw [decide_eq_decide.2 (h j)]
theorem marksL_set (S : List Int) (i : Nat) (_ : i < 100) : (marksL S).setIfInBounds i (.bool true) = marksL ((i : Int) :: S):=by
  apply Array.ext
  · simp [marksL]
  · intro k h1 h2
    have hk : k < 100:=by simpa [marksL] using h2
    by_cases e : i = k
    · subst e
      simp [marksL]
    · have e' : ¬ (k : Int) = (i : Int):=by omega
      rw [Array.getElem_setIfInBounds_ne (by simpa [marksL] using hk) e]
      simp [marksL,e']
theorem zeroMarks : Tryz.zeroCells188 = marksL []:=by kernel_rfl
theorem marksL_one (S : List Int) : (marksL S).all (·.oneCell') = true:=by
  rw [Array.all_eq_true_iff_forall_mem]
  intro v hv
  simp [marksL] at hv
  obtain ⟨j,_,rfl⟩:=hv
  rfl
def KeptB (n₀ Bs : Nat) (W W' : World) : Prop:=Below n₀ W W' ∧ W'.heap[Bs]? = W.heap[Bs]?
theorem KeptB.trans {n₀ Bs : Nat} {A B C : World} (h : KeptB n₀ Bs A B) (k : KeptB n₀ Bs B C) : KeptB n₀ Bs A C:=⟨h.1.trans k.1,k.2.trans h.2⟩
theorem KeptB.book {n₀ Bs : Nat} {w : World} (hn : n₀ ≤ w.heap.size) (hb : Bs < w.heap.size) (W : World) (l : Nat) (o o' : Obj) (hl : w.heap.size ≤ l) (h : W.heap[l]? = some o) (h1 : o.isCells = false) (h2 : o.isWalk = false) : KeptB n₀ Bs W (W.putObj l o'):=by
  refine ⟨belowK_b hn W l o o' hl h h1 h2,?_⟩
  have hlt : l < W.heap.size:=heap_lt h
  exact (grownBy_putObj' W l o').block Bs (by omega) (fun e=>by cases e;omega)
abbrev Come (Q : Pl → Prop):={ r : Nat × Pl // Q r.2 }
def Come.vals {Q : Pl → Prop} (r : Come Q) : Array Value:=#[.int .i64 (r.1.1 : Int),r.1.2.x.val r.1.2.sa r.1.2.sc]
set_option maxRecDepth 100000 in
set_option maxHeartbeats 2000000 in
theorem back1_in (n : Nat) (hn : 1 ≤ n) (l Bs n₀ b off cap : Nat) (rs : List Pl) (Q : Pl → Prop) (hQ : ∀ k (hk : k < rs.length),Q rs[k]) (hlen : rs.length ≤ 9223372036854775807) (hb : b < n₀) (J Jx : List (Come Q) → World → Prop)
    (hY : ∀ (pre : List (Come Q)) (x : Come Q) W,J pre W → pre.length < rs.length → YieldAt Fence.wide (n - 1) Tryz.prog l x.vals W fun e W' =>
      (e = .returned (.bool true) ∧ J (pre ++ [x]) W' ∧ KeptB n₀ Bs W W') ∨ (e = .returned (.bool false) ∧ Jx (pre ++ [x]) W'))
    (W : World) (hBs : W.cell? ⟨Bs,0,none⟩ = some (.slice (some ⟨b,off,none⟩) rs.length cap))
    (hc : ∀ k (hk : k < rs.length) j,j < 4 → W.cell? ⟨b,off + k * 4 + j,none⟩ = (rs[k].cells)[j]?) (h0 : J [] W) :
    CallsIn Fence.wide n Tryz.prog 240 #[.func (.yield l) #[] #[],.pointer (some ⟨Bs,0,none⟩)] W fun e W'=>(∃ v,e = .returned v) ∧
      ((∃ ys : List (Come Q),ys.map (fun r=>r.1.2) = rs.reverse ∧ J ys W') ∨ (∃ pre : List (Come Q),True ∧ Jx pre W')):=by
  refine callsIn_of_wp Tryz.func240 rfl trivial ?_ rfl
  simp only [Tryz.ntmps240,List.size_toArray,List.length_cons,List.length_nil,Nat.reduceAdd,Nat.reduceSub,Array.replicate_succ,Array.replicate_zero,List.push_toArray,List.append_toArray,List.nil_append,List.cons_append]
  gi_wp2
  gi_loopw [3] (fun i wr=>∃ (j : Nat) (pre : List (Come Q)),j + pre.length = rs.length ∧ i = .int .i64 ((j : Int) - 1) ∧ pre.map (fun r=>r.1.2) = rs.reverse.take pre.length ∧ J pre wr ∧ KeptB n₀ Bs W wr)
    (fun i _=>(intOf i + 1).toNat)
  case atStart=>exact ⟨rs.length,[],by simp,rfl,by simp,h0,Below.refl _ _,rfl⟩
  case round =>
    obtain ⟨j,pre,hj,rfl,hpre,hJs,hK⟩:=hrel
    cases j with
    | zero =>
      rw [show (((0 : Nat) : Int) - 1) = -1 by rfl]
      have HF : Hid (pre.map (fun r=>r.1.2) = rs.reverse):=by
        unfold Hid
        rw [hpre,List.take_of_length_le (by rw [List.length_reverse];omega)]
      clear hpre
      gi_wp2
      go_end0
      exact ⟨⟨_,rfl⟩,.inl ⟨pre,HF.out,hJs⟩⟩
    | succ j =>
      have hjl : j < rs.length:=by omega
      have hjl' : (j : Int) < (rs.length : Int):=by omega
      have hcs:=hc j hjl
      have x0:=(hK.1.cell (p:=⟨b,off + j * 4 + 0,none⟩) hb).trans (hcs 0 (by omega))
      have x1:=(hK.1.cell (p:=⟨b,off + j * 4 + 1,none⟩) hb).trans (hcs 1 (by omega))
      have x2:=(hK.1.cell (p:=⟨b,off + j * 4 + 2,none⟩) hb).trans (hcs 2 (by omega))
      have x3:=(hK.1.cell (p:=⟨b,off + j * 4 + 3,none⟩) hb).trans (hcs 3 (by omega))
      have xs:=(World.cell?_of_block (a:=⟨Bs,0,none⟩) hK.2).trans hBs
      obtain ⟨fn,tmps,assign,body,hy,hR⟩:=hY pre ⟨(j,rs[j]),hQ j hjl⟩ wr hJs (by omega)
      simp only [Come.vals] at hy
      have HN : Hid ((pre ++ [(⟨(j,rs[j]),hQ j hjl⟩ : Come Q)]).map (fun r=>r.1.2) = rs.reverse.take (pre ++ [(⟨(j,rs[j]),hQ j hjl⟩ : Come Q)]).length):=by
        unfold Hid
        rw [List.map_append,hpre,List.length_append,List.length_singleton,List.take_succ_eq_append_getElem (by rw [List.length_reverse];omega),List.getElem_reverse]
        simp only [List.map_cons,List.map_nil]
        congr 3
        omega
      clear hcs hpre
      simp only [Pl.cells,List.getElem?_cons_zero,List.getElem?_cons_succ,Nat.add_zero] at x0 x1 x2 x3
      rw [show (((j + 1 : Nat) : Int) - 1) = j by omega]
      gi_wp2
      refine hR.mono ?_
      rintro e W3 (⟨rfl,hJ3,hk3⟩ | ⟨rfl,hJx3⟩)
      · gi_wp2
        go_roundw
        case rel=>exact ⟨j,_,by rw [List.length_append,List.length_singleton];omega,by go_num,HN.out,hJ3,hK.trans hk3⟩
        case measure=>simp [intOf]
      · gi_wp2
        refine bodyPost_ret (results_none rfl _ _ _) rfl ?_
        exact ⟨⟨_,rfl⟩,.inr ⟨_,trivial,hJx3⟩⟩
set_option maxHeartbeats 1000000 in
theorem back_in (n : Nat) (a : Option Addr) (len cap : Nat) (w : World) :
    CallsIn Fence.wide n Tryz.prog 197 #[.slice a len cap] w fun e w'=>e = .returned (.func (.func 240) #[] #[.pointer (some ⟨w.heap.size,0,none⟩)]) ∧ w' = w.alloc (.cells #[.slice a len cap] 25):=by
  refine callsIn_of_wp Tryz.func197 rfl trivial ?_ rfl
  simp only [Tryz.ntmps197,List.size_toArray,List.length_cons,List.length_nil,Nat.reduceAdd,Nat.reduceSub,Array.replicate_succ,Array.replicate_zero,List.push_toArray,List.append_toArray,List.nil_append,List.cons_append]
  gi_wp2
  go_ret
  exact ⟨rfl,rfl⟩
end

section
open Go.RowKit Go.Shelf
attribute [local go_sem] Oper.semAt_some
set_option maxRecDepth 100000 in
set_option maxHeartbeats 1000000 in
theorem back1_nil (n : Nat) (l Bs : Nat) (a : Option Addr) (cap : Nat) (W : World) (hBs : W.cell? ⟨Bs,0,none⟩ = some (.slice a 0 cap)) :
    CallsIn Fence.wide n Tryz.prog 240 #[.func (.yield l) #[] #[],.pointer (some ⟨Bs,0,none⟩)] W fun e W'=>(∃ v,e = .returned v) ∧ W' = W:=by
  refine callsIn_of_wp Tryz.func240 rfl trivial ?_ rfl
  simp only [Tryz.ntmps240,List.size_toArray,List.length_cons,List.length_nil,Nat.reduceAdd,Nat.reduceSub,Array.replicate_succ,Array.replicate_zero,List.push_toArray,List.append_toArray,List.nil_append,List.cons_append]
  gi_wp2
  gi_loopw [3] (fun i wr=>i = .int .i64 (-1) ∧ wr = W) (fun _ _=>0)
  case atStart=>exact ⟨rfl,rfl⟩
  case round =>
    obtain ⟨rfl,rfl⟩:=hrel
    gi_wp2
    go_end0
    exact ⟨⟨_,rfl⟩,rfl⟩
theorem back_stops (n : Nat) (hn : 1 ≤ n) (Bs n₀ : Nat) (a : Option Addr) (cap : Nat) (rs : List Pl) (Q : Pl → Prop) (hQ : ∀ k (hk : k < rs.length),Q rs[k]) (hlen : rs.length ≤ 9223372036854775807) (w : World) (hBs : Bs < w.heap.size) (hn₀ : n₀ ≤ w.heap.size)
    (hcell : w.cell? ⟨Bs,0,none⟩ = some (.slice a rs.length cap))
    (hrows : rs.length = 0 ∨ ∃ b off,a = some ⟨b,off,none⟩ ∧ b < n₀ ∧ ∀ k (hk : k < rs.length) j,j < 4 → w.cell? ⟨b,off + k * 4 + j,none⟩ = (rs[k].cells)[j]?) :
    SeqStopsK Fence.wide n Tryz.prog 240 #[.pointer (some ⟨Bs,0,none⟩)] (Come.vals (Q:=Q)) (KeptB n₀ Bs) (fun ys=>ys.map (fun r=>r.1.2) = rs.reverse) (fun _=>True) rs.length w:=fun l J Jx W hW _ _ hY h0=>by
  have hc':=(hW.cell (p:=⟨Bs,0,none⟩) hBs).trans hcell
  rcases hrows with hz | ⟨b,off,rfl,hb,hc⟩
  · rw [hz] at hc'
    refine (back1_nil n l Bs a cap W hc').mono ?_
    rintro e W' ⟨he,rfl⟩
    refine ⟨he,.inl ⟨[],?_,h0⟩⟩
    rw [List.eq_nil_of_length_eq_zero hz]
    rfl
  · exact back1_in n hn l Bs n₀ b off cap rs Q hQ hlen hb J Jx hY W hc' (fun k hk j hj=>((hW.mono hn₀).cell (p:=⟨b,off + k * 4 + j,none⟩) hb).trans (hc k hk j hj)) h0
def stepF (on : Ob → List Int) (S : List Int) (x : Ob) : List Int:=if x.id ∈ S then on x ++ S else S
structure FW (w : World) (fv : Value) (S : List Int) (W : World) : Prop where
  bx : W.heap[w.heap.size]? = some (.cells #[fv] 190)
  rz : W.heap[w.heap.size + 1]? = some (.cells (marksL []) 188)
  mm : W.heap[w.heap.size + 1 + 1]? = some (.cells (marksL S) 188)
  bl : Below w.heap.size w W
theorem FW.start (w : World) (fv : Value) : FW w fv [] (((w.alloc (.cells #[fv] 190)).alloc (.cells Tryz.zeroCells188 188)).alloc (.cells Tryz.zeroCells188 188)):=by
  have e1:=heap_alloc_new w (.cells #[fv] 190)
  have e2:=heap_alloc_new (w.alloc (.cells #[fv] 190)) (.cells Tryz.zeroCells188 188)
  have e3:=heap_alloc_new ((w.alloc (.cells #[fv] 190)).alloc (.cells Tryz.zeroCells188 188)) (.cells Tryz.zeroCells188 188)
  have b1:=below_alloc w (.cells #[fv] 190)
  have b2:=below_alloc (w.alloc (.cells #[fv] 190)) (.cells Tryz.zeroCells188 188)
  have b3:=below_alloc ((w.alloc (.cells #[fv] 190)).alloc (.cells Tryz.zeroCells188 188)) (.cells Tryz.zeroCells188 188)
  simp only [World.size_alloc] at e2 e3 b2 b3
  rw [zeroMarks] at e2 e3
  refine ⟨?_,?_,e3,(b1.trans (b2.mono (by omega))).trans (b3.mono (by omega))⟩
  · exact (b3.block _ (by omega)).trans ((b2.block _ (by omega)).trans e1)
  · exact (b3.block _ (by omega)).trans e2
theorem FW.cell {w : World} {fv : Value} {S : List Int} {W : World} (h : FW w fv S W) (i : Nat) (hi : i < 100) : W.cell? ⟨w.heap.size + 1 + 1,i,none⟩ = some (.bool (decide ((i : Int) ∈ S))):=by
  rw [cell_of_row W _ i _ _ _ h.mm,marksL_get S i hi]
theorem FW.thaw {w : World} {fv : Value} {S : List Int} {W : World} (h : FW w fv S W) (i : Nat) : W.frozen? ⟨w.heap.size + 1 + 1,i,none⟩ = false:=by
  simp [World.frozen?,h.mm]
theorem FW.mark {w : World} {fv : Value} {S : List Int} {W : World} (h : FW w fv S W) (i : Nat) (hi : i < 100) {T : List Int} (hT : ∀ j,j ∈ T ↔ j = (i : Int) ∨ j ∈ S) : FW w fv T (W.setCell ⟨w.heap.size + 1 + 1,i,none⟩ (.bool true)):=by
  refine ⟨(heap_setCell_other W _ _ _ (by show w.heap.size ≠ w.heap.size + 1 + 1;omega)).trans h.bx,(heap_setCell_other W _ _ _ (by show w.heap.size + 1 ≠ w.heap.size + 1 + 1;omega)).trans h.rz,?_,h.bl.setCell (p:=⟨w.heap.size + 1 + 1,i,none⟩) (by show w.heap.size ≤ w.heap.size + 1 + 1;omega) _⟩
  rw [heap_setCell_same W _ i _ 188 (.bool true) h.mm,marksL_set S i hi,marksL_congr (T:=T)]
  intro j
  rw [hT,List.mem_cons]
theorem FW.below {w : World} {fv : Value} {S : List Int} {W W' : World} (h : FW w fv S W) (hb : Below W.heap.size W W') : FW w fv S W':=by
  have hs : w.heap.size + 1 + 1 < W.heap.size:=heap_lt h.mm
  exact ⟨(hb.block _ (by omega)).trans h.bx,(hb.block _ (by omega)).trans h.rz,(hb.block _ (by omega)).trans h.mm,h.bl.trans (hb.mono h.bl.size)⟩
theorem FW.own {w : World} {fv : Value} {S : List Int} {W W' : World} {row : Option Nat} (h : FW w fv S W) (hg : W.grownBy W' row) {B : Nat} (hB : w.heap.size ≤ B) (hr : ∀ r,row = some r → B ≤ r ∧ ∃ o : Obj,W.heap[r]? = some o ∧ o.isCells = false) : FW w fv S W':=by
  have key : ∀ (k : Nat) (cs : Array Value) (t : TypeId),W.heap[k]? = some (Obj.cells cs t) → W'.heap[k]? = some (Obj.cells cs t):=fun k cs t hk=>by
    refine (hg.block k (heap_lt hk) (fun e=>?_)).trans hk
    obtain ⟨_,o,ho,hc⟩:=hr k e.symm
    rw [hk] at ho
    cases ho
    cases hc
  exact ⟨key _ _ _ h.bx,key _ _ _ h.rz,key _ _ _ h.mm,h.bl.grown hg h.bl.size (fun k e=>Nat.le_trans hB (hr k e).1)⟩
end

section
open Go.RowKit Go.Shelf
attribute [local go_sem] Oper.semAt_some
def foldC {Q : Pl → Prop} (on : Ob → List Int) (ids : List Int) (pre : List (Come Q)) : List Int:=pre.foldl (fun S r=>stepF on S r.1.2.x) ids
theorem foldC_snoc {Q : Pl → Prop} (on : Ob → List Int) (ids : List Int) (pre : List (Come Q)) (x : Come Q) : foldC on ids (pre ++ [x]) = stepF on (foldC on ids pre) x.1.2.x:=by simp [foldC]
theorem size64 (S : List Int) : (Tryz.prog.info? 188).map (·.size) = some (marksL S).size:=by rw [marksL_size];kernel_rfl
theorem wide_load_row {n : Nat} {o : Oper} {a : Act} {w : World} {K : Act → World → Prop} {Q : Exit → Act → World → Prop} (x : Operand) (ho : o.op = .load 188 x)
    (g : Nat) (hx : a.eval x = .pointer (some ⟨g,0,none⟩)) (S : List Int) (hg : w.heap[g]? = some (.cells (marksL S) 188)) (h : K (a.put o.dst (.agg (marksL S))) w) : o.wpIn Fence.wide n Tryz.prog a w K Q:=by
  refine ⟨fun _ _=>trivial,?_⟩
  have : (o.semAt Fence.wide.round a.eval).run Tryz.prog w = .ok (.value (.agg (marksL S))) w:=by
    show (execOp a.eval o).run Tryz.prog w = _
    unfold execOp
    simp only [ho,hx,Instr.loadAt,Instr.sureAddr,Sem.run_bind,Sem.run_pure,Result.andThen_ok,run_loadVar_row w g 188 188 (marksL S) (0,0) _ hg Tryz.underlying188 rfl (size64 S)]
  rw [this]
  exact h
theorem run_store_marks (w : World) (g : Nat) (S T : List Int) (hg : w.heap[g]? = some (.cells (marksL T) 188)) :
    (storeCells ⟨g,0,none⟩ (marksL S).toList).run Tryz.prog w = .ok () (w.setRow g (marksL S)):=by
  have:=run_storeCells_from (P:=Tryz.prog) g 188 (marksL S).toList 0 (marksL T) w hg (by rw [Nat.zero_add,Array.length_toList,marksL_size,marksL_size]) (fun v hv=>(Array.all_eq_true_iff_forall_mem.1 (marksL_one S)) v (by simpa using hv))
  simpa using this
theorem results_marks (tmps : Array Value) (g : Nat) (w : World) (ht : tmps[6]?.getD undef = .pointer (some ⟨g,0,none⟩)) (S : List Int) (hg : w.heap[g]? = some (.cells (marksL S) 188)) :
    (results Tryz.f143 tmps).run Tryz.prog w = .ok (.agg (marksL S)) w:=by
  simp [results,Tryz.results143,ht,asAddr,run_loadVar_row w g 188 188 (marksL S) (0,0) _ hg Tryz.underlying188 rfl (size64 S)]
end

section
open Go.RowKit Go.Shelf
attribute [local go_sem] Oper.semAt_some
set_option maxRecDepth 100000 in
set_option maxHeartbeats 4000000 in
theorem follow_parents (a : Option Addr) (c : Nat) (l : List Ob) (a2 : Option Addr) (c2 : Nat) (ids : List Int) (w : World) (hll : l.length ≤ 9223372036854775807) (h2 : Holds w a2 ids) (hil : ids.length ≤ 9223372036854775807)
    (hids : ∀ i ∈ ids,0 ≤ i ∧ i ≤ 99) (hl : ∀ x ∈ l,0 ≤ x.id ∧ x.id ≤ 99) (good : Ob → Prop) (on : Ob → List Int) (hon : ∀ x ∈ l,good x → ∀ i ∈ on x,0 ≤ i ∧ i ≤ 99) (hg0 : ∀ x ∈ l,x.id ∈ ids → good x) (hg1 : ∀ x ∈ l,good x → ∀ y ∈ l,y.id ∈ on x → good y)
    (rs : List Pl) (hrs : rs.map Pl.x = l) (hrows : rs.length = 0 ∨ ∃ b off,a = some ⟨b,off,none⟩ ∧ b < w.heap.size ∧ ∀ k (hk : k < rs.length) j,j < 4 → w.cell? ⟨b,off + k * 4 + j,none⟩ = (rs[k].cells)[j]?)
    (hfun : ∀ r ∈ rs,good r.x → ∀ W,Below w.heap.size w W → Calls Tryz.prog 144 #[r.x.val r.sa r.sc] W fun e W'=>∃ a' c',e = .returned (.slice a' (on r.x).length c') ∧ Holds w a' (on r.x) ∧ (on r.x).length ≤ 9223372036854775807 ∧ Below W.heap.size W W') :
    Calls Tryz.prog 143 #[.slice a l.length c,.func (.func 144) #[] #[],.slice a2 ids.length c2] w fun e w'=>e = .returned (.agg (marksL (l.foldr (fun x S=>stepF on S x) ids))) ∧ Below w.heap.size w w':=by
  refine (callsIn_wide (n:=6)).1 ?_
  refine callsIn_of_wp_marks Tryz.func143 rfl trivial ?_ rfl
  simp only [Tryz.ntmps143,List.size_toArray,List.length_cons,List.length_nil,Nat.reduceAdd,Nat.reduceSub,Array.replicate_succ,Array.replicate_zero,List.push_toArray,List.append_toArray,List.nil_append,List.cons_append]
  have FW0:=FW.start w (.func (.func 144) #[] #[])
  have hsz0 : (((w.alloc (.cells #[.func (.func 144) #[] #[]] 190)).alloc (.cells Tryz.zeroCells188 188)).alloc (.cells Tryz.zeroCells188 188)).heap.size = w.heap.size + 3:=by simp
  gi_wp2
  gi_loopw [16] (fun i wr=>∃ k : Nat,i = .int .i64 k ∧ k ≤ ids.length ∧ FW w (.func (.func 144) #[] #[]) (ids.take k) wr ∧ wr.heap.size = w.heap.size + 3) (fun i _=>ids.length - (intOf i).toNat)
  case atStart=>exact ⟨0,rfl,Nat.zero_le _,by rw [List.take_zero];exact FW0,hsz0⟩
  case round =>
    clear FW0 hsz0
    obtain ⟨k,rfl,hk,hF,hsz⟩:=hrel
    by_cases hlt : k < ids.length
    · obtain ⟨b,off,rfl,hb,hc⟩:=h2 k hlt
      have x0:=(hF.bl.cell (p:=⟨b,off + k,none⟩) hb).trans (hc k hlt)
      obtain ⟨i,hi,hi99⟩ : ∃ i : Nat,ids[k] = (i : Int) ∧ i < 100:=by
        have:=hids _ (List.getElem_mem hlt)
        exact ⟨ids[k].toNat,by omega,by omega⟩
      rw [show ids.getD k 0 = (i : Int) by rw [← hi];simp [hlt]] at x0
      have HM : Hid (FW w (.func (.func 144) #[] #[]) (ids.take (k + 1)) (wr.setCell ⟨w.heap.size + 1 + 1,i,none⟩ (.bool true))):=hF.mark i hi99 (fun j=>by
        rw [List.take_succ_eq_append_getElem hlt,hi]
        simp only [List.mem_append,List.mem_singleton]
        exact Or.comm)
      have y0:=hF.cell i hi99
      have y1:=hF.thaw i
      have hi99' : (i : Int) < 100:=by omega
      clear hc hi hF
      gi_wp2
      go_roundw
      case rel=>exact ⟨k + 1,by go_num,by omega,HM.out,by rw [← hsz];exact World.size_setCell _ _ _⟩
      case measure=>simp [intOf];omega
    · obtain rfl : k = ids.length:=by omega
      rw [List.take_length] at hF
      gi_wp2
      refine ⟨trivial,(back_in 5 _ _ _ _).mono ?_⟩
      rintro e w' ⟨rfl,rfl⟩
      have hF1:=hF.below (below_alloc wr (.cells #[.slice a l.length c] 25))
      have hsz1 : (wr.alloc (.cells #[.slice a l.length c] 25)).heap.size = w.heap.size + 4:=by rw [World.size_alloc,hsz]
      have hbs:=heap_alloc_new wr (.cells #[.slice a l.length c] 25)
      rw [hsz] at hbs
      rw [hsz]
      clear hF hsz
      generalize wr.alloc (.cells #[.slice a l.length c] 25) = W0 at *
      gi_wp2
      have hrl : rs.length = l.length:=by rw [← hrs,List.length_map]
      have hcell : W0.cell? ⟨w.heap.size + 3,0,none⟩ = some (.slice a rs.length c):=by rw [cell_of_row W0 _ 0 _ _ _ hbs,hrl];rfl
      have hrows' : rs.length = 0 ∨ ∃ b off,a = some ⟨b,off,none⟩ ∧ b < w.heap.size ∧ ∀ k (hk : k < rs.length) j,j < 4 → W0.cell? ⟨b,off + k * 4 + j,none⟩ = (rs[k].cells)[j]?:=by
        rcases hrows with e | ⟨b,off,e,hb,hc⟩
        · exact .inl e
        · exact .inr ⟨b,off,e,hb,fun k hk j hj=>(hF1.bl.cell (p:=⟨b,off + k * 4 + j,none⟩) hb).trans (hc k hk j hj)⟩
      refine wpIn_rangeFunc_ownH (F:=Fence.wide) rfl (by omega) (gf:=240) (lb:=#[.pointer (some ⟨w.heap.size + 3,0,none⟩)]) rfl trivial (enters_of Tryz.func240 (by kernel_rfl) rfl)
        (back_stops 5 (by omega) (w.heap.size + 3) w.heap.size a c rs (· ∈ rs) (fun k hk=>List.getElem_mem hk) (by omega) W0 (by omega) (by omega) hcell hrows') KeptB.trans (KeptB.book (by omega) (by omega)) (Below.refl _ _) (fun _=>rfl)
        (fun pre W=>FW w (.func (.func 144) #[] #[]) (foldC on ids pre) W ∧ w.heap.size + 4 ≤ W.heap.size ∧ ∀ x ∈ l,x.id ∈ foldC on ids pre → good x)
        (fun _ _ _=>False)
        (fun pre W W' row hs hg hr=>⟨hs.1.own hg (by omega) hr,Nat.le_trans hs.2.1 hg.size,hs.2.2⟩)
        (fun _ _ _ _ _ hs _ _=>hs)
        ⟨hF1,by omega,fun x hx hi=>hg0 x hx hi⟩
        (fun x a' W=>∃ Bx,w.heap.size + 3 < Bx ∧ W.heap[Bx]? = some (.cells #[.int .i64 x.1.2.x.id,.int .i64 x.1.2.x.kind,.slice x.1.2.sa x.1.2.x.links.length x.1.2.sc,.string x.1.2.x.text] 58) ∧ a' = { tmps:=#[.slice a l.length c,.func (.func 144) #[] #[],.slice a2 ids.length c2,undef,
          .pointer (some ⟨w.heap.size,0,none⟩),undef,.pointer (some ⟨w.heap.size + 1,0,none⟩),.pointer (some ⟨w.heap.size + 1 + 1,0,none⟩),undef,u9,undef,.pointer (some ⟨Bx,0,none⟩),undef,undef,
          .slice a2 ids.length c2,.int .i64 ids.length,.int .i64 ids.length,.bool false,u18,u19,u20,u21,u22,.slice a l.length c,
          .func (.func 240) #[] #[.pointer (some ⟨w.heap.size + 3,0,none⟩)],.int .i64 (x.1.1 : Int),x.1.2.x.val x.1.2.sa x.1.2.sc,undef,undef,undef,undef,undef,undef,undef,undef,undef,undef,undef,undef,undef,undef,undef,undef,undef],defers:=[] })
        (fun x a' s W W' row hs hg hr=>by
          obtain ⟨Bx,h1,h2,h3⟩:=hs
          refine ⟨Bx,h1,(hg.block Bx (heap_lt h2) (fun e=>?_)).trans h2,h3⟩
          obtain ⟨_,o,ho,hc⟩:=hr Bx e.symm
          rw [h2] at ho
          cases ho
          cases hc) ?assign ?body ?done ?stop
      case assign =>
        rintro lp pre x W K hi hK
        simp only [Come.vals]
        gi_wp2
        have hA:=below_alloc W (.cells #[.int .i64 x.1.2.x.id,.int .i64 x.1.2.x.kind,.slice x.1.2.sa x.1.2.x.links.length x.1.2.sc,.string x.1.2.x.text] 58)
        exact hK _ _ ((KeepsOthers.alloc _ _).from _) ⟨hA.mono (by omega),hA.block _ (by omega)⟩ ⟨hi.1.below hA,Nat.le_trans hi.2.1 hA.size,hi.2.2⟩ ⟨W.heap.size,by omega,heap_alloc_new W _,rfl⟩
      case body =>
        rintro lp pre ⟨⟨ix,r⟩,hr⟩ a' W hlp ⟨rr,hrr⟩ ⟨hFI,hWs,hgd⟩ ⟨Bx,hBx,bX,rfl⟩ hlt2
        simp only at hr bX ⊢
        have hrx : r.x ∈ l:=by rw [← hrs];exact List.mem_map.2 ⟨r,hr,rfl⟩
        obtain ⟨i,hi,hi99⟩ : ∃ i : Nat,r.x.id = (i : Int) ∧ i < 100:=by
          have:=hl _ hrx
          exact ⟨r.x.id.toNat,by omega,by omega⟩
        have HI : Hid (r.x.id = (i : Int)):=hi
        have hi99' : (i : Int) < 100:=by omega
        have x0 : W.cell? ⟨Bx,0,none⟩ = some (.int .i64 (i : Int)):=by rw [cell_of_row W _ _ _ _ _ bX,hi];rfl
        have x1 : W.cell? ⟨Bx,1,none⟩ = some (.int .i64 r.x.kind):=by rw [cell_of_row W _ _ _ _ _ bX];rfl
        have x2 : W.cell? ⟨Bx,2,none⟩ = some (.slice r.sa r.x.links.length r.sc):=by rw [cell_of_row W _ _ _ _ _ bX];rfl
        have x3 : W.cell? ⟨Bx,3,none⟩ = some (.string r.x.text):=by rw [cell_of_row W _ _ _ _ _ bX];rfl
        have y0:=hFI.cell i hi99
        have z0 : W.cell? ⟨w.heap.size,0,none⟩ = some (.func (.func 144) #[] #[]):=by rw [cell_of_row W _ _ _ _ _ hFI.bx];rfl
        have HC : Hid (foldC on ids (pre ++ [(⟨(ix,r),hr⟩ : Come (· ∈ rs))]) = stepF on (foldC on ids pre) r.x):=foldC_snoc _ _ _ _
        obtain ⟨S,hS⟩ : ∃ S,S = foldC on ids pre:=⟨_,rfl⟩
        rw [← hS] at hFI hgd y0 HC
        clear hS bX hi
        by_cases hm : (i : Int) ∈ S
        · have hgx : good r.x:=hgd r.x hrx (by rw [HI.out];exact hm)
          have HS : Hid (stepF on S r.x = on r.x ++ S):=by unfold Hid stepF;rw [if_pos (by rw [HI.out];exact hm)]
          rw [show decide ((i : Int) ∈ S) = true by simpa using hm] at y0
          clear hm
          have hfr:=hfun r hr hgx W hFI.bl
          simp only [Ob.val,HI.out] at hfr
          have hLr:=hon r.x hrx hgx
          have HGN : Hid (∀ y ∈ l,y.id ∈ on r.x ++ S → good y):=fun y hy hyS=>(List.mem_append.1 hyS).elim (fun q=>hg1 r.x hrx hgx y hy q) (fun q=>hgd y hy q)
          obtain ⟨L,hLe⟩ : ∃ L,L = on r.x:=⟨_,rfl⟩
          rw [← hLe] at hfr hLr HS HGN
          clear hLe hgx hgd
          gi_wp2
          refine ⟨trivial,(CallsIn.inRound lp (callsIn_wide.2 hfr)).mono ?_⟩
          clear hfr
          rintro e W1 ⟨a3,c3,rfl,hH,hLl,hb1⟩
          have hF1':=hFI.below hb1
          have hK1 : KeepsOthers W W1:=⟨hb1.size,fun k o hk _=>(hb1.block k (heap_lt hk)).trans hk⟩
          have hKB : KeptB w.heap.size (w.heap.size + 3) W W1:=⟨hb1.mono (by omega),hb1.block _ (by omega)⟩
          have hWs1:=Nat.le_trans hWs hb1.size
          clear hb1 hFI x0 x1 x2 x3 y0 z0 hWs
          gi_wp2
          gi_loopw [36] (fun i wr=>∃ k : Nat,i = .int .i64 k ∧ k ≤ L.length ∧ FW w (.func (.func 144) #[] #[]) (L.take k ++ S) wr ∧ KeptB w.heap.size (w.heap.size + 3) W wr ∧ KeepsOthers W wr ∧ w.heap.size + 4 ≤ wr.heap.size) (fun i _=>L.length - (intOf i).toNat)
          case atStart=>exact ⟨0,rfl,Nat.zero_le _,by rw [List.take_zero];exact hF1',hKB,hK1,hWs1⟩
          case round =>
            clear hF1' hKB hK1 hWs1
            obtain ⟨k,rfl,hk,hF,hKB,hKO,hWs⟩:=hrel
            by_cases hlt : k < L.length
            · obtain ⟨b,off,rfl,hb,hc⟩:=hH k hlt
              have x0:=(hF.bl.cell (p:=⟨b,off + k,none⟩) hb).trans (hc k hlt)
              obtain ⟨y,hy,hy99⟩ : ∃ y : Nat,L[k] = (y : Int) ∧ y < 100:=by
                have:=hLr _ (List.getElem_mem hlt)
                exact ⟨L[k].toNat,by omega,by omega⟩
              rw [show L.getD k 0 = (y : Int) by rw [← hy];simp [hlt]] at x0
              have HM : Hid (FW w (.func (.func 144) #[] #[]) (L.take (k + 1) ++ S) (wr.setCell ⟨w.heap.size + 1 + 1,y,none⟩ (.bool true))):=hF.mark y hy99 (fun j=>by
                rw [List.take_succ_eq_append_getElem hlt,hy]
                simp only [List.mem_append,List.mem_singleton,or_assoc]
                exact or_left_comm)
              have y0:=hF.cell y hy99
              have y1:=hF.thaw y
              have hy99' : (y : Int) < 100:=by omega
              have HB : Hid (KeptB w.heap.size (w.heap.size + 3) W (wr.setCell ⟨w.heap.size + 1 + 1,y,none⟩ (.bool true))) :=
                ⟨hKB.1.setCell (p:=⟨w.heap.size + 1 + 1,y,none⟩) (by show w.heap.size ≤ w.heap.size + 1 + 1;omega) _,(heap_setCell_other wr _ _ _ (by show w.heap.size + 3 ≠ w.heap.size + 1 + 1;omega)).trans hKB.2⟩
              clear hc hy hF hKB
              gi_wp2
              go_roundw
              case rel=>exact ⟨k + 1,by go_num,by omega,HM.out,HB.out,hKO.trans (KeepsOthers.setCell _ _ _),by rw [World.size_setCell];exact hWs⟩
              case measure=>simp [intOf];omega
            · obtain rfl : k = L.length:=by omega
              rw [List.take_length] at hF
              gi_wp2
              refine ⟨hKO.from _,hKB,?_⟩
              show FW w _ (foldC on ids (pre ++ [(⟨(ix,r),hr⟩ : Come (· ∈ rs))])) _ ∧ _ ∧ _
              rw [HC.out,HS.out]
              exact ⟨hF,hWs,HGN.out⟩
        · have HS : Hid (stepF on S r.x = S):=by unfold Hid stepF;rw [if_neg (by rw [HI.out];exact hm)]
          rw [show decide ((i : Int) ∈ S) = false by simpa using hm] at y0
          clear hm
          gi_wp2
          refine ⟨KeepsFrom.refl _ _,⟨Below.refl _ _,rfl⟩,?_⟩
          show FW w _ (foldC on ids (pre ++ [(⟨(ix,r),hr⟩ : Come (· ∈ rs))])) _ ∧ _ ∧ _
          rw [HC.out,HS.out]
          exact ⟨hFI,hWs,hgd⟩
      case done =>
        rintro D ys W hD hS ⟨hFI,hWs,-⟩ hK
        clear hrows hrows' hcell hF1 hbs hfun
        have hfold : foldC on ids ys = l.foldr (fun x S=>stepF on S x) ids:=by
          have e : foldC on ids ys = (ys.map (fun r=>r.1.2)).foldl (fun S r=>stepF on S r.x) ids:=by unfold foldC;rw [List.foldl_map]
          rw [e,hS,List.foldl_reverse,← hrs,List.foldr_map]
        have HFO : Hid (foldC on ids ys = l.foldr (fun x S=>stepF on S x) ids):=hfold
        obtain ⟨S,hSe⟩ : ∃ S,S = foldC on ids ys:=⟨_,rfl⟩
        rw [← hSe] at hFI HFO
        clear hSe hS hfold
        gi_wp2
        refine wide_load_row (.tmp 7) rfl (w.heap.size + 1 + 1) rfl S hFI.mm ?_
        simp only [Act.put,List.setIfInBounds_toArray,List.set_cons_zero,List.set_cons_succ]
        have hsc : (storeCells ⟨w.heap.size + 1,0,none⟩ (marksL S).toList).run Tryz.prog W = .ok () (W.setRow (w.heap.size + 1) (marksL S)):=run_store_marks W _ S [] hFI.rz
        have hms:=marksL_size S
        have hr1:=setRow_heap W (w.heap.size + 1) _ (marksL S) _ _ hFI.rz
        have hK1:=(setRow_other W (w.heap.size + 1) D (marksL S) (by omega)).trans hK
        have hb1 : Below w.heap.size w (W.setRow (w.heap.size + 1) (marksL S)):=⟨hFI.bl.os,hFI.bl.tape,hFI.bl.output,by rw [size_setRow];exact hFI.bl.size,fun k hk=>(setRow_other W _ k _ (by omega)).trans (hFI.bl.block k hk)⟩
        gi_wp2
        refine ⟨by simp,.inl ⟨_,_,rfl,run_takeDeferred hK1,?_⟩⟩
        have hD2 : w.heap.size + 4 ≤ D:=by omega
        have hDl : D < (W.setRow (w.heap.size + 1) (marksL S)).heap.size:=heap_lt hK1
        have hgp:=grownBy_putObj' (W.setRow (w.heap.size + 1) (marksL S)) D (.deferred none)
        refine ⟨_,results_marks _ (w.heap.size + 1) _ rfl S ((hgp.block _ (by omega) (fun e=>by cases e;omega)).trans hr1),?_⟩
        refine ⟨by rw [HFO.out],hb1.grown hgp hb1.size (fun k e=>by cases e;omega)⟩
      case stop =>
        rintro D c pre W _ _ h _
        exact h.elim
end
end Go.Proofs.YtehmlpkapjdhkaaGreatDoor
