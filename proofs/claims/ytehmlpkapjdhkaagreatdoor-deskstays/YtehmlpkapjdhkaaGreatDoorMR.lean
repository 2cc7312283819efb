import Derived.Test.YtehmlpkapjdhkaaGreatDoorMH
import Derived.Test.YtehmlpkapjdhkaaGreatDoorSh
namespace Go.Proofs.YtehmlpkapjdhkaaGreatDoor
set_option maxRecDepth 100000
open Go.RowKit
section
open Go.Shelf
def mayI (c : Int) : Bool:=(decide (97 ≤ c) && decide (c ≤ 122)) || (decide (48 ≤ c) && decide (c ≤ 57)) || c == 45
set_option maxHeartbeats 400000 in
theorem mayStand_any (c : Int) (w : World) : Calls Tryz.prog 173 #[.int .i32 c] w fun e w'=>e = .returned (.bool (mayI c)) ∧ Below w.heap.size w w':=by
  by_cases h1 : 97 ≤ c ∧ c ≤ 122
  · have a1 : decide (97 ≤ c) = true:=by simpa using h1.1
    have a2 : decide (c ≤ 122) = true:=by simpa using h1.2
    have HR : Hid (true = mayI c):=by unfold Hid mayI;simp [h1.1,h1.2]
    clear h1
    go_enter Tryz.func173,Tryz.ntmps173
    go_wp2
    all_goals go_ret
    all_goals exact ⟨ret_bool HR.out,Below.refl _ _⟩
  · have HN : Hid (∀ b : Bool,(b = true ↔ ((48 ≤ c ∧ c ≤ 57) ∨ c = 45)) → b = mayI c):=fun b hb=>by
      unfold mayI
      rw [Bool.eq_iff_iff,hb]
      simp only [Bool.or_eq_true,Bool.and_eq_true,decide_eq_true_eq,beq_iff_eq]
      omega
    go_enter Tryz.func173,Tryz.ntmps173
    go_wp2
    all_goals go_ret
    all_goals refine ⟨ret_bool (HN.out _ ?_),Below.refl _ _⟩
    all_goals simp only [Bool.or_eq_true,decide_eq_true_eq,beq_iff_eq,true_iff]
    all_goals first | done | omega
def badRune (x : Nat) : Bool:=!mayI (x : Int)
theorem name1_grows (w : World) : PredGrows Tryz.prog 172 #[] badRune w:=by
  intro W x _ _
  show Calls Tryz.prog 172 #[.int .i32 (x : Int)] W _
  go_enter Tryz.func172,Tryz.ntmps172
  go_wp2_with fail
  refine (mayStand_any (x : Int) W).mono ?_
  rintro e w1 ⟨rfl,hb⟩
  go_wp2
  go_ret
  exact ⟨rfl,hb⟩
abbrev slash : ByteArray:={ data:=#[47] }
def steps (s : ByteArray) : List ByteArray:=Lib.splitB slash 0 (Lib.countB s slash) s
theorem steps_length (s : ByteArray) : (steps s).length = Lib.countB s slash + 1:=Lib.splitB_all slash (by decide) 0 _ s rfl
def badStep (t : ByteArray) : Bool:=(t.toList == []) || decide (0 ≤ Lib.idxFunc badRune true t)
def nameE (s : ByteArray) : Int:=if 12 < s.size then 2 else if (steps s).any badStep then 1 else 0
def Glob (w : World) : Prop:=∃ m,w.cell? ⟨0,0,none⟩ = some (.int .i64 m)
theorem Glob.lt {w : World} (h : Glob w) : 0 < w.heap.size:=by
  obtain ⟨m,hm⟩:=h
  rcases Nat.eq_zero_or_pos w.heap.size with h0 | h0
  · have he : w.heap[0]? = none:=Array.getElem?_eq_none (by omega)
    simp [World.cell?,he] at hm
  · exact h0
theorem Glob.below {w w' : World} (h : Glob w) (hb : Below w.heap.size w w') : Glob w':=by
  have hl:=h.lt
  obtain ⟨m,hm⟩:=h
  exact ⟨m,(hb.cell (p:=⟨0,0,none⟩) hl).trans hm⟩
set_option maxHeartbeats 1000000 in
theorem name_any (s : ByteArray) (w : World) (hg : Glob w) :
    Calls Tryz.prog 105 #[.string s] w fun e w'=>e = .returned (.int .i64 (nameE s)) ∧ Below w.heap.size w w':=by
  by_cases h12 : (12 : Int) < (s.size : Int)
  · have HR : Hid (2 = nameE s):=by unfold Hid nameE;rw [if_pos (by omega)]
    go_enter Tryz.func105,Tryz.ntmps105
    go_wp2
    go_ret
    exact ⟨ret_int HR.out,Below.refl _ _⟩
  have HN : Hid (nameE s = if (steps s).any badStep then 1 else 0):=by unfold Hid nameE;rw [if_neg (by omega)]
  obtain ⟨mm,hmm⟩:=hg
  have hsp:=Tryz.strings_Split s slash mm w (by omega) hmm (by decide)
  have hA:=below_alloc w (.cells ((steps s).map Value.string).toArray 9)
  have hbk:=heap_alloc_new w (.cells ((steps s).map Value.string).toArray 9)
  have hsl : (steps s).length ≤ 1000:=by
    have h1:=steps_length s
    have h2:=Lib.countB_le slash (by decide) s.size s (Nat.le_refl _)
    omega
  rw [← steps_length s] at hsp
  obtain ⟨P,hP⟩ : ∃ P,P = steps s:=⟨_,rfl⟩
  have hsp' : Calls Tryz.prog 170 #[.string s,.string slash] w fun e w'=>e = .returned (.slice (some ⟨w.heap.size,0,none⟩) P.length P.length) ∧ w' = w.alloc (.cells (P.map Value.string).toArray 9):=by rw [hP];exact hsp
  rw [← hP] at HN hA hbk hsl
  clear hsp hP hmm
  go_enter Tryz.func105,Tryz.ntmps105
  go_wp2_with fail
  refine hsp'.mono ?_
  clear hsp'
  rintro e w1 ⟨rfl,rfl⟩
  have hcell : ∀ k (hk : k < P.length),(w.alloc (.cells (P.map Value.string).toArray 9)).cell? ⟨w.heap.size,k,none⟩ = some (.string P[k]):=fun k hk=>by
    rw [cell_of_row _ _ k _ _ _ hbk]
    simp [hk]
  have hwl : w.heap.size < (w.alloc (.cells (P.map Value.string).toArray 9)).heap.size:=heap_lt hbk
  clear hbk
  go_wp2_with fail
  generalize w.alloc (.cells (P.map Value.string).toArray 9) = W1 at *
  go_loopw [11] (fun i wr=>∃ k : Nat,i = .int .i64 k ∧ k ≤ P.length ∧ Below W1.heap.size W1 wr ∧ Hid (∀ t ∈ P.take k,badStep t = false)) (fun i _=>P.length - (intOf i).toNat)
  case atStart=>exact ⟨0,rfl,Nat.zero_le _,Below.refl _ _,fun t ht=>by simp at ht⟩
  case round =>
    obtain ⟨k,rfl,hk,hB,H⟩:=hrel
    by_cases hlt : k < P.length
    · have x0:=(hB.cell (p:=⟨w.heap.size,k,none⟩) hwl).trans (hcell k hlt)
      have hki : (k : Int) < (P.length : Int):=by omega
      have HT : Hid (P[k] ∈ P):=List.getElem_mem hlt
      have HTk : Hid (P.take (k + 1) = P.take k ++ [P[k]]):=List.take_succ_eq_append_getElem hlt
      generalize P[k] = t at *
      clear hcell
      have hBw:=hA.trans (hB.mono hA.size)
      have hcf:=Tryz.strings_ContainsFunc_grows 172 #[] (enters_of Tryz.func172 (by kernel_rfl) rfl) badRune t wr (name1_grows wr)
      by_cases h0 : t.toList = []
      · have HR : Hid (1 = nameE s):=by
          unfold Hid
          rw [HN.out,if_pos]
          exact List.any_eq_true.2 ⟨t,HT.out,by simp [badStep,h0]⟩
        have h0' : (t.toList == []) = true:=by simpa using h0
        clear hcf
        go_wp2
        go_ret
        exact ⟨ret_int HR.out,hBw⟩
      · have h0' : (t.toList == []) = false:=by simpa using h0
        go_wp2_with fail
        refine hcf.mono ?_
        clear hcf
        rintro e w5 ⟨rfl,hb5⟩
        have hB5:=hB.trans (hb5.mono hB.size)
        have hBw5:=hBw.trans (hb5.mono hBw.size)
        have HBS : Hid (badStep t = decide (0 ≤ Lib.idxFunc badRune true t)):=by unfold Hid badStep;rw [h0',Bool.false_or]
        generalize decide (0 ≤ Lib.idxFunc badRune true t) = d at *
        clear hb5 hB hBw h0 x0
        cases d with
        | true =>
          have HR : Hid (1 = nameE s):=by
            unfold Hid
            rw [HN.out,if_pos]
            exact List.any_eq_true.2 ⟨t,HT.out,HBS.out⟩
          go_wp2
          go_ret
          exact ⟨ret_int HR.out,hBw5⟩
        | false =>
          have HH : Hid (∀ u ∈ P.take (k + 1),badStep u = false):=fun u hu=>by
            rw [HTk.out] at hu
            rcases List.mem_append.1 hu with q | q
            · exact H.out u q
            · rw [List.mem_singleton.1 q];exact HBS.out
          go_wp2
          go_roundw
          case rel=>exact ⟨k + 1,by go_num,by omega,hB5,HH⟩
          case measure=>simp [intOf];omega
    · have HR : Hid (0 = nameE s):=by
        unfold Hid
        rw [HN.out,if_neg]
        intro q
        obtain ⟨t,ht,hb⟩:=List.any_eq_true.1 q
        rw [H.out t (by rw [List.take_of_length_le (by omega)];exact ht)] at hb
        cases hb
      go_wp2
      go_ret
      exact ⟨ret_int HR.out,hA.trans (hB.mono hA.size)⟩
end
structure Rf where
  name : ByteArray
  id : Int
abbrev Rf.val (r : Rf) : Value:=.agg #[.string r.name,.int .i64 r.id]
def RfAt (w : World) (b o : Nat) (r : Rf) : Prop:=w.cell? ⟨b,o,none⟩ = some (.string r.name) ∧ w.cell? ⟨b,o + 1,none⟩ = some (.int .i64 r.id)
def HoldsR (w : World) (a : Option Addr) (l : List Rf) : Prop :=
  ∀ i,i < l.length → ∃ b off,a = some ⟨b,off,none⟩ ∧ b < w.heap.size ∧ ∀ i (h : i < l.length),RfAt w b (off + i * 2) l[i]
theorem HoldsR.below {w w' : World} {a : Option Addr} {l : List Rf} (h : HoldsR w a l) (hb : Below w.heap.size w w') : HoldsR w' a l:=by
  intro i hi
  obtain ⟨b,off,e,hlt,hc⟩:=h i hi
  exact ⟨b,off,e,Nat.lt_of_lt_of_le hlt hb.size,fun j hj=>⟨(hb.cell (p:=⟨b,off + j * 2,none⟩) hlt).trans (hc j hj).1,(hb.cell (p:=⟨b,off + j * 2 + 1,none⟩) hlt).trans (hc j hj).2⟩⟩
def indexR (P : Rf → Bool) (l : List Rf) : Int:=match l.findIdx? P with | some i=>(i : Int) | none=>-1
theorem indexR_hit {P : Rf → Bool} {l : List Rf} {k : Nat} (hk : k < l.length) (hno : ∀ j (h : j < l.length),j < k → P l[j] = false) (h : P l[k] = true) : indexR P l = k:=by
  have : l.findIdx? P = some k:=by
    rw [List.findIdx?_eq_some_iff_getElem]
    exact ⟨hk,h,fun j hj=>by simpa using hno j (by omega) hj⟩
  simp [indexR,this]
theorem indexR_miss {P : Rf → Bool} {l : List Rf} (hno : ∀ j (h : j < l.length),P l[j] = false) : indexR P l = -1:=by
  have : l.findIdx? P = none:=by
    rw [List.findIdx?_eq_none_iff]
    intro x hx
    obtain ⟨j,hj,rfl⟩:=List.getElem_of_mem hx
    exact hno j hj
  simp [indexR,this]
theorem indexR_cases (P : Rf → Bool) (l : List Rf) : (indexR P l = -1 ∧ ∀ x ∈ l,P x = false) ∨ ∃ i : Nat,indexR P l = i ∧ ∃ hi : i < l.length,P l[i] = true ∧ ∀ j (hj : j < l.length),j < i → P l[j] = false:=by
  unfold indexR
  cases h : l.findIdx? P with
  | none =>
    rw [List.findIdx?_eq_none_iff] at h
    exact .inl ⟨rfl,h⟩
  | some i =>
    rw [List.findIdx?_eq_some_iff_getElem] at h
    obtain ⟨h1,h2,h3⟩:=h
    exact .inr ⟨i,rfl,h1,h2,fun j _ hji=>by simpa using h3 j hji⟩
theorem indexR_any {P : Rf → Bool} {l : List Rf} : decide (0 ≤ indexR P l) = l.any P:=by
  rcases indexR_cases P l with ⟨h1,h2⟩ | ⟨i,h1,hi,h2,_⟩
  · rw [h1,show l.any P = false from List.any_eq_false.2 (fun x hx=>by simp [h2 x hx])]
    simp
  · rw [h1,show l.any P = true from List.any_eq_true.2 ⟨_,List.getElem_mem hi,h2⟩]
    simp
def sameN (nm : ByteArray) (r : Rf) : Bool:=r.name.toList == nm.toList
def inPlace (nm : ByteArray) (r : Rf) : Bool:=Lib.hasPrefix r.name.data.toList (nm ++ slash).data.toList
set_option maxHeartbeats 400000 in
theorem get1_any (x : Rf) (nm : ByteArray) (p : Nat) (w : World) (hp : w.cell? ⟨p,0,none⟩ = some (.string nm)) (hlt : p < w.heap.size) :
    Calls Tryz.prog 110 #[x.val,.pointer (some ⟨p,0,none⟩)] w fun e w'=>e = .returned (.bool (sameN nm x)) ∧ Below w.heap.size w w':=by
  go_enter Tryz.func110,Tryz.ntmps110
  go_wp2
  go_ret
  exact ⟨rfl,below_alloc _ _⟩
set_option maxHeartbeats 400000 in
theorem isPlace1_any (x : Rf) (nm : ByteArray) (hn : nm.size ≤ 1000) (p : Nat) (w : World) (hp : w.cell? ⟨p,0,none⟩ = some (.string nm)) (hlt : p < w.heap.size) :
    Calls Tryz.prog 182 #[x.val,.pointer (some ⟨p,0,none⟩)] w fun e w'=>e = .returned (.bool (inPlace nm x)) ∧ Below w.heap.size w w':=by
  have hA:=below_alloc w (.cells #[.string x.name,.int .i64 x.id] 65)
  have hp1:=(hA.cell (p:=⟨p,0,none⟩) hlt).trans hp
  have hsum : (nm.size : Int) + 1 ≤ 9223372036854775807:=by omega
  go_enter Tryz.func182,Tryz.ntmps182
  go_wp2_with fail
  refine (Tryz.strings_HasPrefix x.name (nm ++ slash) _).mono ?_
  rintro e w1 ⟨rfl,rfl⟩
  go_wp2
  go_ret
  exact ⟨rfl,hA⟩
set_option maxHeartbeats 800000 in
theorem indexGet_any (a : Option Addr) (c : Nat) (l : List Rf) (nm : ByteArray) (p : Nat) (w : World) (h : HoldsR w a l) (hl : l.length ≤ 9223372036854775807) (hp : w.cell? ⟨p,0,none⟩ = some (.string nm)) (hlt : p < w.heap.size) :
    Calls Tryz.prog 109 #[.slice a l.length c,.func (.func 110) #[] #[.pointer (some ⟨p,0,none⟩)]] w fun e w'=>e = .returned (.int .i64 (indexR (sameN nm) l)) ∧ Below w.heap.size w w':=by
  go_enter Tryz.func109,Tryz.ntmps109
  go_wp2
  go_loopw [8] (fun i wr=>∃ k : Nat,i = .int .i64 k ∧ k ≤ l.length ∧ Below w.heap.size w wr ∧ Hid (∀ j (hj : j < l.length),j < k → (sameN nm) l[j] = false)) (fun i _=>l.length - (intOf i).toNat)
  case atStart=>exact ⟨0,rfl,Nat.zero_le _,Below.refl _ _,fun j _ h=>absurd h (Nat.not_lt_zero j)⟩
  case round =>
    obtain ⟨k,rfl,hk,hB,H⟩:=hrel
    by_cases hkl : k < l.length
    · obtain ⟨b,off,rfl,hb,hc⟩:=(h.below hB) k hkl
      obtain ⟨x0,x1⟩:=hc k hkl
      have hpr : wr.cell? ⟨p,0,none⟩ = some (.string nm):=(hB.cell (p:=⟨p,0,none⟩) hlt).trans hp
      have hcl:=get1_any l[k] nm p wr hpr (Nat.lt_of_lt_of_le hlt hB.size)
      clear hpr
      clear hc
      go_wp2_with fail
      refine hcl.mono ?_
      clear hcl
      rintro e w1 ⟨rfl,hb1⟩
      have hB1:=hB.trans (hb1.mono hB.size)
      clear hb1 x0 x1
      by_cases hq : (sameN nm) l[k] = true
      · have HR : Hid (indexR (sameN nm) l = k):=indexR_hit hkl H.out hq
        rw [hq]
        clear hq
        go_wp2
        go_ret
        exact ⟨ret_int HR.out.symm,hB1⟩
      · have hq' : (sameN nm) l[k] = false:=by simpa using hq
        have HN : Hid (∀ j (hj : j < l.length),j < k + 1 → (sameN nm) l[j] = false):=fun j hj hjk=>by
          rcases Nat.lt_or_ge j k with h1 | h1
          · exact H.out j hj h1
          · have : j = k:=by omega
            subst this
            exact hq'
        rw [hq']
        clear hq hq'
        go_wp2
        go_roundw
        case rel=>exact ⟨k + 1,by go_num,by omega,hB1,HN⟩
        case measure=>simp [intOf];omega
    · have HR : Hid (indexR (sameN nm) l = -1):=indexR_miss (fun j hj=>H.out j hj (by omega))
      go_wp2
      go_ret
      exact ⟨ret_int HR.out.symm,hB⟩
set_option maxHeartbeats 800000 in
theorem indexPlace_any (a : Option Addr) (c : Nat) (l : List Rf) (nm : ByteArray) (hn : nm.size ≤ 1000) (p : Nat) (w : World) (h : HoldsR w a l) (hl : l.length ≤ 9223372036854775807) (hp : w.cell? ⟨p,0,none⟩ = some (.string nm)) (hlt : p < w.heap.size) :
    Calls Tryz.prog 109 #[.slice a l.length c,.func (.func 182) #[] #[.pointer (some ⟨p,0,none⟩)]] w fun e w'=>e = .returned (.int .i64 (indexR (inPlace nm) l)) ∧ Below w.heap.size w w':=by
  go_enter Tryz.func109,Tryz.ntmps109
  go_wp2
  go_loopw [8] (fun i wr=>∃ k : Nat,i = .int .i64 k ∧ k ≤ l.length ∧ Below w.heap.size w wr ∧ Hid (∀ j (hj : j < l.length),j < k → (inPlace nm) l[j] = false)) (fun i _=>l.length - (intOf i).toNat)
  case atStart=>exact ⟨0,rfl,Nat.zero_le _,Below.refl _ _,fun j _ h=>absurd h (Nat.not_lt_zero j)⟩
  case round =>
    obtain ⟨k,rfl,hk,hB,H⟩:=hrel
    by_cases hkl : k < l.length
    · obtain ⟨b,off,rfl,hb,hc⟩:=(h.below hB) k hkl
      obtain ⟨x0,x1⟩:=hc k hkl
      have hpr : wr.cell? ⟨p,0,none⟩ = some (.string nm):=(hB.cell (p:=⟨p,0,none⟩) hlt).trans hp
      have hcl:=isPlace1_any l[k] nm hn p wr hpr (Nat.lt_of_lt_of_le hlt hB.size)
      clear hpr
      clear hc
      go_wp2_with fail
      refine hcl.mono ?_
      clear hcl
      rintro e w1 ⟨rfl,hb1⟩
      have hB1:=hB.trans (hb1.mono hB.size)
      clear hb1 x0 x1
      by_cases hq : (inPlace nm) l[k] = true
      · have HR : Hid (indexR (inPlace nm) l = k):=indexR_hit hkl H.out hq
        rw [hq]
        clear hq
        go_wp2
        go_ret
        exact ⟨ret_int HR.out.symm,hB1⟩
      · have hq' : (inPlace nm) l[k] = false:=by simpa using hq
        have HN : Hid (∀ j (hj : j < l.length),j < k + 1 → (inPlace nm) l[j] = false):=fun j hj hjk=>by
          rcases Nat.lt_or_ge j k with h1 | h1
          · exact H.out j hj h1
          · have : j = k:=by omega
            subst this
            exact hq'
        rw [hq']
        clear hq hq'
        go_wp2
        go_roundw
        case rel=>exact ⟨k + 1,by go_num,by omega,hB1,HN⟩
        case measure=>simp [intOf];omega
    · have HR : Hid (indexR (inPlace nm) l = -1):=indexR_miss (fun j hj=>H.out j hj (by omega))
      go_wp2
      go_ret
      exact ⟨ret_int HR.out.symm,hB⟩
def placeB (l : List Rf) (nm : ByteArray) : Bool:=l.any (inPlace nm)
def isPl (l : List Rf) (x : Rf) : Bool:=placeB l x.name
set_option maxHeartbeats 400000 in
theorem containsPlace_any (a : Option Addr) (c : Nat) (l : List Rf) (nm : ByteArray) (hn : nm.size ≤ 1000) (p : Nat) (w : World) (h : HoldsR w a l) (hl : l.length ≤ 9223372036854775807) (hp : w.cell? ⟨p,0,none⟩ = some (.string nm)) (hlt : p < w.heap.size) :
    Calls Tryz.prog 124 #[.slice a l.length c,.func (.func 182) #[] #[.pointer (some ⟨p,0,none⟩)]] w fun e w'=>e = .returned (.bool (placeB l nm)) ∧ Below w.heap.size w w':=by
  have HR : Hid (decide (0 ≤ indexR (inPlace nm) l) = placeB l nm):=indexR_any
  go_enter Tryz.func124,Tryz.ntmps124
  go_wp2_with fail
  refine (indexPlace_any a c l nm hn p w h hl hp hlt).mono ?_
  rintro e w1 ⟨rfl,hb⟩
  go_wp2
  go_ret
  exact ⟨ret_bool HR.out,hb⟩
set_option maxHeartbeats 400000 in
theorem isPlace_any (a : Option Addr) (c : Nat) (l : List Rf) (nm : ByteArray) (hn : nm.size ≤ 1000) (w : World) (h : HoldsR w a l) (hl : l.length ≤ 9223372036854775807) :
    Calls Tryz.prog 126 #[.slice a l.length c,.string nm] w fun e w'=>e = .returned (.bool (placeB l nm)) ∧ Below w.heap.size w w':=by
  have hmf : ∀ (fn : Fn) (first cap : Array Value) (w : World),(Instr.makeFunc fn first cap).run Tryz.prog w = .ok (.func fn first cap) w:=fun _ _ _ _=>rfl
  have hp : (w.alloc (.cells #[.string nm] 9)).cell? ⟨w.heap.size,0,none⟩ = some (.string nm):=by rw [World.cell?_alloc_at _ _ _ _ rfl];rfl
  go_enter Tryz.func126,Tryz.ntmps126
  go_wp2_with fail
  refine (containsPlace_any a c l nm hn w.heap.size _ (h.below (below_alloc _ _)) hl hp (by simp)).mono ?_
  rintro e w1 ⟨rfl,hb⟩
  have hB:=(below_alloc _ _).trans (hb.mono (by simp))
  go_wp2
  go_ret
  exact ⟨rfl,hB⟩
set_option maxHeartbeats 400000 in
theorem rcheck1_any (x : Rf) (hn : x.name.size ≤ 1000) (a : Option Addr) (c : Nat) (l : List Rf) (p : Nat) (w : World) (h : HoldsR w a l) (hl : l.length ≤ 9223372036854775807) (hp : w.cell? ⟨p,0,none⟩ = some (.slice a l.length c)) (hlt : p < w.heap.size) :
    Calls Tryz.prog 125 #[x.val,.pointer (some ⟨p,0,none⟩)] w fun e w'=>e = .returned (.bool (isPl l x)) ∧ Below w.heap.size w w':=by
  have hA:=below_alloc w (.cells #[.string x.name,.int .i64 x.id] 65)
  have hp1:=(hA.cell (p:=⟨p,0,none⟩) hlt).trans hp
  go_enter Tryz.func125,Tryz.ntmps125
  go_wp2_with fail
  refine (isPlace_any a c l x.name hn _ (h.below hA) hl).mono ?_
  rintro e w1 ⟨rfl,hb⟩
  have hB:=hA.trans (hb.mono hA.size)
  clear hp1 hA hb
  go_wp2
  go_ret
  exact ⟨rfl,hB⟩
set_option maxHeartbeats 800000 in
theorem indexCheck_any (a : Option Addr) (c : Nat) (l : List Rf) (hn : ∀ x ∈ l,x.name.size ≤ 1000) (p : Nat) (w : World) (h : HoldsR w a l) (hl : l.length ≤ 9223372036854775807) (hp : w.cell? ⟨p,0,none⟩ = some (.slice a l.length c)) (hlt : p < w.heap.size) :
    Calls Tryz.prog 109 #[.slice a l.length c,.func (.func 125) #[] #[.pointer (some ⟨p,0,none⟩)]] w fun e w'=>e = .returned (.int .i64 (indexR (isPl l) l)) ∧ Below w.heap.size w w':=by
  go_enter Tryz.func109,Tryz.ntmps109
  go_wp2
  go_loopw [8] (fun i wr=>∃ k : Nat,i = .int .i64 k ∧ k ≤ l.length ∧ Below w.heap.size w wr ∧ Hid (∀ j (hj : j < l.length),j < k → (isPl l) l[j] = false)) (fun i _=>l.length - (intOf i).toNat)
  case atStart=>exact ⟨0,rfl,Nat.zero_le _,Below.refl _ _,fun j _ h=>absurd h (Nat.not_lt_zero j)⟩
  case round =>
    obtain ⟨k,rfl,hk,hB,H⟩:=hrel
    by_cases hkl : k < l.length
    · obtain ⟨b,off,rfl,hb,hc⟩:=(h.below hB) k hkl
      obtain ⟨x0,x1⟩:=hc k hkl
      have hpr : wr.cell? ⟨p,0,none⟩ = some (.slice (some ⟨b,off,none⟩) l.length c):=(hB.cell (p:=⟨p,0,none⟩) hlt).trans hp
      have hcl:=rcheck1_any l[k] (hn _ (List.getElem_mem hkl)) (some ⟨b,off,none⟩) c l p wr (h.below hB) hl hpr (Nat.lt_of_lt_of_le hlt hB.size)
      clear hpr
      clear hc
      go_wp2_with fail
      refine hcl.mono ?_
      clear hcl
      rintro e w1 ⟨rfl,hb1⟩
      have hB1:=hB.trans (hb1.mono hB.size)
      clear hb1 x0 x1
      by_cases hq : (isPl l) l[k] = true
      · have HR : Hid (indexR (isPl l) l = k):=indexR_hit hkl H.out hq
        rw [hq]
        clear hq
        go_wp2
        go_ret
        exact ⟨ret_int HR.out.symm,hB1⟩
      · have hq' : (isPl l) l[k] = false:=by simpa using hq
        have HN : Hid (∀ j (hj : j < l.length),j < k + 1 → (isPl l) l[j] = false):=fun j hj hjk=>by
          rcases Nat.lt_or_ge j k with h1 | h1
          · exact H.out j hj h1
          · have : j = k:=by omega
            subst this
            exact hq'
        rw [hq']
        clear hq hq'
        go_wp2
        go_roundw
        case rel=>exact ⟨k + 1,by go_num,by omega,hB1,HN⟩
        case measure=>simp [intOf];omega
    · have HR : Hid (indexR (isPl l) l = -1):=indexR_miss (fun j hj=>H.out j hj (by omega))
      go_wp2
      go_ret
      exact ⟨ret_int HR.out.symm,hB⟩
set_option maxHeartbeats 400000 in
theorem containsCheck_any (a : Option Addr) (c : Nat) (l : List Rf) (hn : ∀ x ∈ l,x.name.size ≤ 1000) (p : Nat) (w : World) (h : HoldsR w a l) (hl : l.length ≤ 9223372036854775807) (hp : w.cell? ⟨p,0,none⟩ = some (.slice a l.length c)) (hlt : p < w.heap.size) :
    Calls Tryz.prog 124 #[.slice a l.length c,.func (.func 125) #[] #[.pointer (some ⟨p,0,none⟩)]] w fun e w'=>e = .returned (.bool (l.any (isPl l))) ∧ Below w.heap.size w w':=by
  have HR : Hid (decide (0 ≤ indexR (isPl l) l) = l.any (isPl l)):=indexR_any
  go_enter Tryz.func124,Tryz.ntmps124
  go_wp2_with fail
  refine (indexCheck_any a c l hn p w h hl hp hlt).mono ?_
  rintro e w1 ⟨rfl,hb⟩
  go_wp2
  go_ret
  exact ⟨ret_bool HR.out,hb⟩
def getE (l : List Rf) (nm : ByteArray) : Int:=if nameE nm ≠ 0 then nameE nm else if indexR (sameN nm) l < 0 then 5 else 0
def getI (l : List Rf) (nm : ByteArray) : Int:=if getE l nm ≠ 0 then 0 else (l[(indexR (sameN nm) l).toNat]?.map Rf.id).getD 0
set_option maxHeartbeats 800000 in
theorem get_any (a : Option Addr) (c : Nat) (l : List Rf) (nm : ByteArray) (w : World) (hg : Glob w) (h : HoldsR w a l) (hl : l.length ≤ 9223372036854775807) :
    Calls Tryz.prog 60 #[.slice a l.length c,.string nm] w fun e w'=>e = .returned (.tuple #[.int .i64 (getI l nm),.int .i64 (getE l nm)]) ∧ Below w.heap.size w w':=by
  have hmf : ∀ (fn : Fn) (first cap : Array Value) (w : World),(Instr.makeFunc fn first cap).run Tryz.prog w = .ok (.func fn first cap) w:=fun _ _ _ _=>rfl
  have hA:=below_alloc w (.cells #[.string nm] 9)
  have hp : (w.alloc (.cells #[.string nm] 9)).cell? ⟨w.heap.size,0,none⟩ = some (.string nm):=by rw [World.cell?_alloc_at _ _ _ _ rfl];rfl
  have hsz : w.heap.size < (w.alloc (.cells #[.string nm] 9)).heap.size:=by simp
  go_enter Tryz.func60,Tryz.ntmps60
  go_wp2_with fail
  refine (name_any nm _ (hg.below hA)).mono ?_
  rintro e w1 ⟨rfl,hb1⟩
  have hp1:=(hb1.cell (p:=⟨w.heap.size,0,none⟩) hsz).trans hp
  have hsz1:=Nat.lt_of_lt_of_le hsz hb1.size
  have hB1:=hA.trans (hb1.mono hA.size)
  clear hp hsz hb1 hA
  by_cases hz : nameE nm = 0
  case neg =>
    have HR : Hid (getE l nm = nameE nm ∧ getI l nm = 0):=by
      have e : getE l nm = nameE nm:=by rw [getE,if_pos hz]
      exact ⟨e,by rw [getI,if_pos (by rw [e];exact hz)]⟩
    have z1 : (nameE nm != 0) = true:=by simpa using hz
    clear hz
    go_wp2
    refine bodyPost_ret (v:=.tuple #[.int .i64 0,.int .i64 (nameE nm)]) (by simp [results,Tryz.results60,go_sem]) rfl ?_
    exact ⟨by rw [HR.out.1,HR.out.2],hB1⟩
  have HE : Hid (getE l nm = if indexR (sameN nm) l < 0 then 5 else 0):=by unfold Hid getE;rw [if_neg (fun e=>e hz)]
  rw [hz]
  clear hz
  go_wp2_with fail
  refine (indexGet_any a c l nm w.heap.size w1 (h.below hB1) hl hp1 hsz1).mono ?_
  rintro e w2 ⟨rfl,hb2⟩
  have hB2:=hB1.trans (hb2.mono hB1.size)
  clear hb2 hB1 hp1 hsz1
  rcases indexR_cases (sameN nm) l with ⟨h1,-⟩ | ⟨i,h1,hi,-,-⟩
  · have HR : Hid (getE l nm = 5 ∧ getI l nm = 0):=by
      have e : getE l nm = 5:=by rw [HE.out,if_pos (by omega)]
      exact ⟨e,by rw [getI,if_pos (by rw [e];decide)]⟩
    rw [h1]
    clear h1
    go_wp2
    refine bodyPost_ret (v:=.tuple #[.int .i64 0,.int .i64 5]) (by simp [results,Tryz.results60,go_sem]) rfl ?_
    exact ⟨by rw [HR.out.1,HR.out.2],hB2⟩
  · have HR : Hid (getE l nm = 0 ∧ getI l nm = l[i].id):=by
      have e : getE l nm = 0:=by rw [HE.out,if_neg (by omega)]
      refine ⟨e,?_⟩
      rw [getI,if_neg (fun q=>q e),h1]
      simp [hi]
    rw [h1]
    clear h1
    obtain ⟨b,off,rfl,hb,hc⟩:=(h.below hB2) i hi
    obtain ⟨x0,x1⟩:=hc i hi
    have hi' : (i : Int) < (l.length : Int):=by omega
    clear hc
    go_wp2
    refine bodyPost_ret (v:=.tuple #[.int .i64 l[i].id,.int .i64 0]) (by simp [results,Tryz.results60,go_sem]) rfl ?_
    exact ⟨by rw [HR.out.1,HR.out.2],hB2⟩
def commitE (l : List Ob) (id : Int) : Int:=if placeI l id < 0 then 5 else if kindAt l id ≠ 3 then 7 else 0
set_option maxHeartbeats 800000 in
theorem checkCommit_any (a : Option Addr) (c : Nat) (l : List Ob) (id : Int) (w : World) (h : HoldsS w a l) (he : checkS l = 0) :
    Calls Tryz.prog 123 #[.slice a l.length c,.int .i64 id] w fun e w'=>e = .returned (.int .i64 (commitE l id)) ∧ Below w.heap.size w w':=by
  rcases placeI_cases l id with hp | ⟨i,hp,hi⟩
  · have HR : Hid (5 = commitE l id):=by unfold Hid commitE;rw [if_pos (by omega)]
    have hf:=find_none a c l id w h he hp
    clear hp he
    go_enter Tryz.func123,Tryz.ntmps123
    go_wp2_with fail
    refine hf.mono ?_
    clear hf
    rintro e w1 ⟨rfl,hb⟩
    have hB:=hb.trans ((below_alloc w1 (.cells #[.int .i64 0,.int .i64 0,.slice none 0 0,.string { data:=#[] }] 58)).mono hb.size)
    go_wp2
    go_ret
    exact ⟨ret_int HR.out,hB⟩
  · have hk:=kindAt_at hp hi
    have hf:=find_ok a c l id i w h he hp hi
    have HC : Hid (commitE l id = if l[i].kind ≠ 3 then 7 else 0):=by unfold Hid commitE;rw [if_neg (by omega),hk]
    clear he
    go_enter Tryz.func123,Tryz.ntmps123
    go_wp2_with fail
    refine hf.mono ?_
    clear hf
    rintro e w1 ⟨ua,uc,rfl,hua,hb⟩
    have hB:=hb.trans ((below_alloc w1 (.cells #[.int .i64 l[i].id,.int .i64 l[i].kind,.slice ua l[i].links.length uc,.string l[i].text] 58)).mono hb.size)
    by_cases h3 : l[i].kind = 3
    · have HR : Hid (0 = commitE l id):=by unfold Hid;rw [HC.out,if_neg (fun e=>e h3)]
      rw [h3] at hB
      clear HC hk
      go_wp2
      go_ret
      exact ⟨ret_int HR.out,hB⟩
    · have HR : Hid (7 = commitE l id):=by unfold Hid;rw [HC.out,if_pos h3]
      have z1 : (l[i].kind != 3) = true:=by simpa using h3
      clear HC hk
      go_wp2
      go_ret
      exact ⟨ret_int HR.out,hB⟩
def leB (x y : ByteArray) : Bool:=Op.bytesLess x.toList y.toList || x.toList == y.toList
def eachR (o : List Ob) : ByteArray → List Rf → Int
  | _,[]=>0
  | last,r :: rs=>if nameE r.name ≠ 0 then nameE r.name else if leB r.name last then 4 else if commitE o r.id ≠ 0 then commitE o r.id else eachR o r.name rs
def refsE (l : List Rf) (o : List Ob) : Int :=
  if checkS o ≠ 0 then checkS o else if 8 < l.length then 2 else if eachR o { data:=#[] } l ≠ 0 then eachR o { data:=#[] } l else if l.any (isPl l) then 6 else 0
theorem nameE_size {s : ByteArray} (h : nameE s = 0) : s.size ≤ 12:=by
  unfold nameE at h
  split at h
  · omega
  · omega
theorem eachR_names {o : List Ob} : ∀ (l : List Rf) (last : ByteArray),eachR o last l = 0 → ∀ r ∈ l,nameE r.name = 0
  | [],_,_=>fun r hr=>by cases hr
  | x :: l,last,h=>by
    rw [eachR] at h
    split at h
    · rename_i q;exact absurd h q
    rename_i q1
    split at h
    · omega
    split at h
    · rename_i q;exact absurd h q
    intro r hr
    rcases List.mem_cons.1 hr with rfl | hr
    · exact Classical.byContradiction q1
    · exact eachR_names l _ h r hr
set_option maxHeartbeats 4000000 in
theorem refsCheck_any (a : Option Addr) (c : Nat) (l : List Rf) (ao : Option Addr) (co : Nat) (o : List Ob) (w : World) (hg : Glob w) (h : HoldsR w a l) (hl : l.length ≤ 9223372036854775807) (ho : HoldsS w ao o) (hol : o.length ≤ 9223372036854775807) :
    Calls Tryz.prog 69 #[.slice a l.length c,.slice ao o.length co] w fun e w'=>e = .returned (.int .i64 (refsE l o)) ∧ Below w.heap.size w w':=by
  have hmf : ∀ (fn : Fn) (first cap : Array Value) (w : World),(Instr.makeFunc fn first cap).run Tryz.prog w = .ok (.func fn first cap) w:=fun _ _ _ _=>rfl
  have hA:=below_alloc w (.cells #[.slice a l.length c] 34)
  have hp0 : (w.alloc (.cells #[.slice a l.length c] 34)).cell? ⟨w.heap.size,0,none⟩ = some (.slice a l.length c):=by rw [World.cell?_alloc_at _ _ _ _ rfl];rfl
  have hsz0 : w.heap.size < (w.alloc (.cells #[.slice a l.length c] 34)).heap.size:=by simp
  go_enter Tryz.func69,Tryz.ntmps69
  go_wp2_with fail
  refine (checkS_any ao co o _ (ho.below hA) hol).mono ?_
  rintro e w1 ⟨rfl,hb1⟩
  have hB1:=hA.trans (hb1.mono hA.size)
  have hp1:=(hb1.cell (p:=⟨w.heap.size,0,none⟩) hsz0).trans hp0
  have hsz1:=Nat.lt_of_lt_of_le hsz0 hb1.size
  clear hb1 hA hp0 hsz0
  by_cases k1 : checkS o = 0
  case neg =>
    have HR : Hid (checkS o = refsE l o):=by unfold Hid refsE;rw [if_pos k1]
    have z1 : (checkS o != 0) = true:=by simpa using k1
    clear k1
    go_wp2
    go_ret
    exact ⟨ret_int HR.out,hB1⟩
  have K1 : Hid (checkS o = 0):=k1
  rw [k1]
  clear k1
  by_cases k2 : (8 : Int) < (l.length : Int)
  case pos =>
    have HR : Hid (2 = refsE l o):=by unfold Hid refsE;rw [if_neg (fun e=>e K1.out),if_pos (by omega)]
    go_wp2
    go_ret
    exact ⟨ret_int HR.out,hB1⟩
  have HE : Hid (refsE l o = if eachR o { data:=#[] } l ≠ 0 then eachR o { data:=#[] } l else if l.any (isPl l) then 6 else 0):=by unfold Hid refsE;rw [if_neg (fun e=>e K1.out),if_neg (by omega)]
  have hg1:=hg.below hB1
  have h1:=h.below hB1
  have ho1:=ho.below hB1
  go_wp2
  go_loopw [6,21] (fun v i wr=>∃ (k : Nat) (last : ByteArray),v = .string last ∧ i = .int .i64 k ∧ k ≤ l.length ∧ Below w1.heap.size w1 wr ∧ Hid (eachR o { data:=#[] } l = eachR o last (l.drop k))) (fun _ i _=>l.length - (intOf i).toNat)
  case atStart=>exact ⟨0,_,rfl,rfl,Nat.zero_le _,Below.refl _ _,rfl⟩
  case round =>
    obtain ⟨k,last,rfl,rfl,hk,hB,H⟩:=hrel
    have hBw:=hB1.trans (hB.mono hB1.size)
    by_cases hlt : k < l.length
    · obtain ⟨b,off,rfl,hb,hc⟩:=(h1.below hB) k hlt
      obtain ⟨x0,x1⟩:=hc k hlt
      have hA2:=below_alloc wr (.cells #[.string l[k].name,.int .i64 l[k].id] 65)
      have HD : Hid (eachR o { data:=#[] } l = if nameE l[k].name ≠ 0 then nameE l[k].name else if leB l[k].name last then 4 else if commitE o l[k].id ≠ 0 then commitE o l[k].id else eachR o l[k].name (l.drop (k + 1))):=by
        unfold Hid
        rw [H.out,List.drop_eq_getElem_cons hlt,eachR]
      have hgr:=(hg1.below hB).below hA2
      have hor:=(ho1.below hB).below hA2
      have HBR:=hB.trans (hA2.mono hB.size)
      have hnew : (wr.alloc (.cells #[.string l[k].name,.int .i64 l[k].id] 65)).heap[wr.heap.size]? = some (.cells #[.string l[k].name,.int .i64 l[k].id] 65):=heap_alloc_new wr _
      obtain ⟨nm,hnm⟩ : ∃ nm,nm = l[k].name:=⟨_,rfl⟩
      obtain ⟨id,hid⟩ : ∃ id,id = l[k].id:=⟨_,rfl⟩
      rw [← hnm,← hid] at HD
      rw [← hnm,← hid] at hgr hor HBR hnew
      rw [← hnm] at x0
      rw [← hid] at x1
      clear hc hA2 hnm hid H
      go_wp2_with fail
      refine (name_any nm _ hgr).mono ?_
      rintro e w3 ⟨rfl,hb3⟩
      have hn3:=(hb3.block _ (heap_lt hnew)).trans hnew
      have hB3:=HBR.trans (hb3.mono HBR.size)
      have ho3:=hor.below hb3
      have hwl:=Nat.lt_of_lt_of_le (heap_lt hnew) hb3.size
      obtain ⟨Bx,hBx⟩ : ∃ Bx,Bx = wr.heap.size:=⟨_,rfl⟩
      rw [← hBx] at hn3 hwl
      rw [← hBx]
      clear hb3 hgr hor HBR hnew hBx x0 x1
      have y0 : w3.cell? ⟨Bx,0,none⟩ = some (.string nm):=by rw [cell_of_row w3 _ _ _ _ _ hn3];rfl
      have y1 : w3.cell? ⟨Bx,1,none⟩ = some (.int .i64 id):=by rw [cell_of_row w3 _ _ _ _ _ hn3];rfl
      have hBw3:=hB1.trans (hB3.mono hB1.size)
      by_cases k3 : nameE nm = 0
      case neg =>
        have HR : Hid (nameE nm = refsE l o):=by
          unfold Hid
          rw [if_pos k3] at HD
          have e : eachR o { data:=#[] } l = nameE nm:=HD
          rw [HE.out,e,if_pos k3]
        have z1 : (nameE nm != 0) = true:=by simpa using k3
        clear k3
        go_wp2
        go_ret
        exact ⟨ret_int HR.out,hBw3⟩
      have HD1 : Hid (eachR o { data:=#[] } l = if leB nm last then 4 else if commitE o id ≠ 0 then commitE o id else eachR o nm (l.drop (k + 1))):=by
        unfold Hid
        rw [HD.out,if_neg (fun e=>e k3)]
      rw [k3]
      clear k3 HD
      by_cases k4 : leB nm last = true
      · have HR : Hid (4 = refsE l o):=by
          unfold Hid
          rw [HE.out,HD1.out,if_pos k4,if_pos (by decide)]
        have z2 : (Op.bytesLess nm.toList last.toList || nm.toList == last.toList) = true:=k4
        clear k4
        go_wp2
        go_ret
        exact ⟨ret_int HR.out,hBw3⟩
      · have k4' : leB nm last = false:=by simpa using k4
        have z2 : (Op.bytesLess nm.toList last.toList || nm.toList == last.toList) = false:=k4'
        have HD2 : Hid (eachR o { data:=#[] } l = if commitE o id ≠ 0 then commitE o id else eachR o nm (l.drop (k + 1))):=by
          unfold Hid
          rw [HD1.out,if_neg k4]
        clear k4 k4' HD1
        go_wp2_with fail
        refine (checkCommit_any ao co o id w3 ho3 K1.out).mono ?_
        rintro e w5 ⟨rfl,hb5⟩
        have hB5:=hB3.trans (hb5.mono hB3.size)
        have hBw5:=hB1.trans (hB5.mono hB1.size)
        clear hb5 hB3 hBw3 ho3 y0 y1 hn3 hwl
        by_cases k5 : commitE o id = 0
        case neg =>
          have HR : Hid (commitE o id = refsE l o):=by
            unfold Hid
            rw [HE.out,HD2.out,if_pos k5,if_pos k5]
          have z3 : (commitE o id != 0) = true:=by simpa using k5
          clear k5
          go_wp2
          go_ret
          exact ⟨ret_int HR.out,hBw5⟩
        have HD3 : Hid (eachR o { data:=#[] } l = eachR o nm (l.drop (k + 1))):=by
          unfold Hid
          rw [HD2.out,if_neg (fun e=>e k5)]
        rw [k5]
        clear k5 HD2
        go_wp2
        go_roundw
        case rel=>exact ⟨k + 1,nm,rfl,by go_num,by omega,hB5,HD3⟩
        case measure=>simp [intOf];omega
    · have hz0 : eachR o { data:=#[] } l = 0:=by rw [H.out,List.drop_of_length_le (by omega)];rfl
      have HE2 : Hid (refsE l o = if l.any (isPl l) then 6 else 0):=by unfold Hid;rw [HE.out,if_neg (fun e=>e hz0)]
      have hn:=eachR_names l _ hz0
      have hpr:=(hB.cell (p:=⟨w.heap.size,0,none⟩) hsz1).trans hp1
      have hcc:=containsCheck_any a c l (fun x hx=>by have:=nameE_size (hn x hx);omega) w.heap.size wr (h1.below hB) hl hpr (Nat.lt_of_lt_of_le hsz1 hB.size)
      clear hz0 hn HE H
      go_wp2_with fail
      refine hcc.mono ?_
      clear hcc
      rintro e w6 ⟨rfl,hb6⟩
      have hBw6:=hBw.trans (hb6.mono hBw.size)
      clear hb6 hpr
      cases hq : l.any (isPl l) with
      | true =>
        have HR : Hid (6 = refsE l o):=by unfold Hid;rw [HE2.out,if_pos hq]
        clear hq HE2
        go_wp2
        go_ret
        exact ⟨ret_int HR.out,hBw6⟩
      | false =>
        have HR : Hid (0 = refsE l o):=by unfold Hid;rw [HE2.out,if_neg (by rw [hq];decide)]
        clear hq HE2
        go_wp2
        go_ret
        exact ⟨ret_int HR.out,hBw6⟩
abbrev nMain : ByteArray:={ data:=#[109,97,105,110] }
abbrev nXY : ByteArray:={ data:=#[120,47,121] }
def namesL : List Rf:=[⟨nMain,3⟩,⟨nXY,5⟩]
set_option maxHeartbeats 400000 in
theorem names_any (w : World) : Calls Tryz.prog 62 #[] w fun e w'=>∃ g,e = .returned (.slice (some ⟨g,0,none⟩) 2 2) ∧ HoldsR w' (some ⟨g,0,none⟩) namesL ∧ Below w.heap.size w w':=by
  have hA:=below_alloc w (.cells #[.string nMain,.int .i64 3,.string nXY,.int .i64 5] 65)
  have hbk:=heap_alloc_new w (.cells #[.string nMain,.int .i64 3,.string nXY,.int .i64 5] 65)
  have hH : HoldsR (w.alloc (.cells #[.string nMain,.int .i64 3,.string nXY,.int .i64 5] 65)) (some ⟨w.heap.size,0,none⟩) namesL:=by
    intro i hi
    refine ⟨_,_,rfl,heap_lt hbk,fun k hk=>?_⟩
    match k,hk with
    | 0,_=>exact ⟨by rw [cell_of_row _ _ _ _ _ _ hbk];rfl,by rw [cell_of_row _ _ _ _ _ _ hbk];rfl⟩
    | 1,_=>exact ⟨by rw [cell_of_row _ _ _ _ _ _ hbk];rfl,by rw [cell_of_row _ _ _ _ _ _ hbk];rfl⟩
  go_enter Tryz.func62,Tryz.ntmps62
  go_wp2
  go_ret
  exact ⟨_,rfl,hH,hA⟩
theorem less_total : ∀ a b : List UInt8,Op.bytesLess a b = false → a ≠ b → Op.bytesLess b a = true
  | [],[],_,h=>absurd rfl h
  | _ :: _,[],_,_=>rfl
  | [],_ :: _,h,_=>by cases h
  | x :: a,y :: b,h,hne=>by
    simp only [Op.bytesLess,Bool.or_eq_false_iff,Bool.and_eq_false_iff,decide_eq_false_iff_not] at h
    simp only [Op.bytesLess,Bool.or_eq_true,Bool.and_eq_true,decide_eq_true_eq,beq_iff_eq]
    by_cases e : x = y
    · subst e
      refine .inr ⟨rfl,less_total a b ?_ (fun q=>hne (by rw [q]))⟩
      rcases h.2 with q | q
      · simp at q
      · exact q
    · refine .inl ?_
      have h1:=h.1
      rw [UInt8.not_lt] at h1
      exact UInt8.lt_of_le_of_ne h1 (fun q=>e q.symm)
theorem less_irrefl : ∀ a : List UInt8,Op.bytesLess a a = false
  | []=>rfl
  | x :: a=>by simp [Op.bytesLess,less_irrefl a]
theorem less_trans : ∀ a b c : List UInt8,Op.bytesLess a b = true → Op.bytesLess b c = true → Op.bytesLess a c = true
  | a,[],_,h,_=>by cases a <;> simp [Op.bytesLess] at h
  | _,_ :: _,[],_,h=>by cases h
  | [],_ :: _,_ :: _,_,_=>rfl
  | x :: a,y :: b,z :: c,h1,h2=>by
    simp only [Op.bytesLess,Bool.or_eq_true,Bool.and_eq_true,decide_eq_true_eq,beq_iff_eq] at h1 h2 ⊢
    rcases h1 with h1 | ⟨e1,h1⟩
    · rcases h2 with h2 | ⟨e2,h2⟩
      · exact .inl (UInt8.lt_trans h1 h2)
      · rw [← e2];exact .inl h1
    · rcases h2 with h2 | ⟨e2,h2⟩
      · rw [e1];exact .inl h2
      · exact .inr ⟨by rw [e1,e2],less_trans a b c h1 h2⟩
def ltN (x y : ByteArray) : Prop:=Op.bytesLess x.toList y.toList = true
theorem leB_iff {x y : ByteArray} : leB x y = false ↔ ltN y x:=by
  unfold leB ltN
  rw [Bool.or_eq_false_iff]
  constructor
  · rintro ⟨h1,h2⟩
    exact less_total _ _ h1 (by simpa using h2)
  · intro h
    have h1 : Op.bytesLess x.toList y.toList = false:=by
      cases q : Op.bytesLess x.toList y.toList with
      | false=>rfl
      | true=>have:=less_trans _ _ _ q h;rw [less_irrefl] at this;cases this
    refine ⟨h1,?_⟩
    cases q : x.toList == y.toList with
    | false=>rfl
    | true =>
      rw [beq_iff_eq] at q
      rw [q,less_irrefl] at h
      cases h
theorem ltN.trans {x y z : ByteArray} (h1 : ltN x y) (h2 : ltN y z) : ltN x z:=less_trans _ _ _ h1 h2
theorem ltN.ne {x y : ByteArray} (h : ltN x y) : (x.toList == y.toList) = false:=by
  cases q : x.toList == y.toList with
  | false=>rfl
  | true =>
    rw [beq_iff_eq] at q
    unfold ltN at h
    rw [q,less_irrefl] at h
    cases h
theorem eachR_iff {o : List Ob} : ∀ (l : List Rf) (last : ByteArray),eachR o last l = 0 ↔ (∀ r ∈ l,nameE r.name = 0 ∧ commitE o r.id = 0 ∧ ltN last r.name) ∧ l.Pairwise (fun x y=>ltN x.name y.name)
  | [],_=>by simp [eachR]
  | x :: l,last=>by
    rw [eachR,List.pairwise_cons]
    constructor
    · intro h
      split at h
      · rename_i q;exact absurd h q
      rename_i q1
      split at h
      · omega
      rename_i q2
      split at h
      · rename_i q;exact absurd h q
      rename_i q3
      obtain ⟨h1,h2⟩:=(eachR_iff l x.name).1 h
      have hx : ltN last x.name:=leB_iff.1 (by simpa using q2)
      refine ⟨fun r hr=>?_,fun y hy=>(h1 y hy).2.2,h2⟩
      rcases List.mem_cons.1 hr with rfl | hr
      · exact ⟨Classical.byContradiction q1,Classical.byContradiction q3,hx⟩
      · exact ⟨(h1 r hr).1,(h1 r hr).2.1,hx.trans (h1 r hr).2.2⟩
    · rintro ⟨h1,h2,h3⟩
      obtain ⟨e1,e2,e3⟩:=h1 x (by simp)
      rw [if_neg (fun e=>e e1),if_neg (by rw [leB_iff.2 e3];decide),if_neg (fun e=>e e2)]
      exact (eachR_iff l x.name).2 ⟨fun r hr=>⟨(h1 r (by simp [hr])).1,(h1 r (by simp [hr])).2.1,h2 r hr⟩,h3⟩
theorem refsE_iff {l : List Rf} {o : List Ob} : refsE l o = 0 ↔ checkS o = 0 ∧ l.length ≤ 8 ∧ eachR o { data:=#[] } l = 0 ∧ ∀ x ∈ l,∀ y ∈ l,inPlace x.name y = false:=by
  unfold refsE
  constructor
  · intro h
    split at h
    · rename_i q;exact absurd h q
    rename_i q1
    split at h
    · omega
    split at h
    · rename_i q;exact absurd h q
    rename_i q3
    split at h
    · omega
    rename_i q4
    refine ⟨Classical.byContradiction q1,by omega,Classical.byContradiction q3,fun x hx y hy=>?_⟩
    cases q : inPlace x.name y with
    | false=>rfl
    | true=>exact absurd (List.any_eq_true.2 ⟨x,hx,List.any_eq_true.2 ⟨y,hy,q⟩⟩) q4
  · rintro ⟨h1,h2,h3,h4⟩
    rw [if_neg (fun e=>e h1),if_neg (by omega),if_neg (fun e=>e h3),if_neg]
    intro q
    obtain ⟨x,hx,q⟩:=List.any_eq_true.1 q
    obtain ⟨y,hy,q⟩:=List.any_eq_true.1 q
    rw [h4 x hx y hy] at q
    cases q
theorem refs_commit {l : List Rf} {o : List Ob} (h : refsE l o = 0) {r : Rf} (hr : r ∈ l) : behindE o r.id r.id = 0 ∧ behindB o r.id r.id = true:=by
  obtain ⟨hc,_,he,_⟩:=refsE_iff.1 h
  have hk:=(((eachR_iff _ _).1 he).1 r hr).2.1
  unfold commitE at hk
  split at hk
  · omega
  rename_i q1
  split at hk
  · omega
  rename_i q2
  have hkind : kindAt o r.id = 3:=Classical.byContradiction q2
  obtain ⟨x,hx,ex⟩:=place_mem.1 (show 0 ≤ placeI o r.id by omega)
  have hrise:=(checkS_iff.1 hc).2.2
  have hC : IsC o r.id:=⟨⟨x,hx,ex⟩,fun y hy ey=>by rw [← kindAt_mem hrise hy,ey];exact hkind⟩
  exact behind_self (behindE_iff.2 ⟨hc,hC,hC⟩)
theorem Tryz.info65 : (Tryz.prog.info? 65).map (fun i=>(i.zero,i.size,i.bytes)) = some (some (.agg #[.string { data:=#[] },.int .i64 0]),2,24):=by kernel_rfl
def Rf.cells (r : Rf) : List Value:=[.string r.name,.int .i64 r.id]
def rowR : List Rf → List Value
  | []=>[]
  | r :: rs=>r.cells ++ rowR rs
theorem rowR_append (A B : List Rf) : rowR (A ++ B) = rowR A ++ rowR B:=by
  induction A with
  | nil=>rfl
  | cons r A ih=>simp [rowR,ih]
theorem rowR_length (A : List Rf) : (rowR A).length = A.length * 2:=by
  induction A with
  | nil=>rfl
  | cons r A ih=>simp [rowR,ih,Rf.cells];omega
theorem rowR_one (A : List Rf) : ∀ v ∈ rowR A,v.oneCell' = true:=by
  induction A with
  | nil=>intro v h;cases h
  | cons r A ih =>
    intro v h
    rcases List.mem_append.1 h with h | h
    · simp only [Rf.cells,List.mem_cons,List.not_mem_nil,or_false] at h
      rcases h with rfl | rfl <;> rfl
    · exact ih v h
theorem rowR_get (A : List Rf) (i j : Nat) (hi : i < A.length) (hj : j < 2) : (rowR A)[i * 2 + j]? = (A[i].cells)[j]?:=by
  induction A generalizing i with
  | nil=>simp at hi
  | cons r A ih =>
    cases i with
    | zero =>
      simp only [rowR,Nat.zero_mul,Nat.zero_add,List.getElem_cons_zero]
      exact List.getElem?_append_left (by simpa [Rf.cells] using hj)
    | succ i =>
      have:=ih i (by simpa using hi)
      rw [List.getElem_cons_succ,← this]
      simp only [rowR]
      rw [List.getElem?_append_right (by simp [Rf.cells];omega)]
      congr 1
      simp [Rf.cells];omega
theorem holdsR_row {w : World} {b off : Nat} {m : List Rf} (h : ∀ k (hk : k < m.length),RfAt w b (off + k * 2) m[k]) : ∀ j u,(rowR m)[j]? = some u → w.cell? ((⟨b,off,none⟩ : Addr).add j) = some u:=by
  intro j u hj
  have hadd : (⟨b,off,none⟩ : Addr).add j = ⟨b,off + j,none⟩:=by unfold Addr.add;split <;> simp_all
  rw [hadd]
  have hlt : j < m.length * 2:=by
    rcases Nat.lt_or_ge j (m.length * 2) with q | q
    · exact q
    · rw [List.getElem?_eq_none (by rw [rowR_length];exact q)] at hj;cases hj
  have hk : j / 2 < m.length:=by omega
  have hr:=rowR_get m (j / 2) (j % 2) hk (by omega)
  rw [show j / 2 * 2 + j % 2 = j by omega,hj] at hr
  obtain ⟨c0,c1⟩:=h (j / 2) hk
  rcases Nat.mod_two_eq_zero_or_one j with e | e
  · rw [e] at hr
    rw [show off + j = off + j / 2 * 2 by omega,c0]
    simpa [Rf.cells] using hr.symm
  · rw [e] at hr
    rw [show off + j = off + j / 2 * 2 + 1 by omega,c1]
    simpa [Rf.cells] using hr.symm
theorem app_refs (w : World) (base : Nat) (ty : TypeId) (v : Value) (xs : List Rf) (hown : w.ownsRow base 65 2 v xs.length (rowR xs)) (b off c : Nat) (m : List Rf) (h : ∀ k (hk : k < m.length),RfAt w b (off + k * 2) m[k]) (hlen : xs.length + m.length ≤ 1000) (hbase : base ≤ w.heap.size) :
    ∃ v' w',(Builtin.append_ #[34,34] ty #[v,.slice (some ⟨b,off,none⟩) m.length c]).run Tryz.prog w = .ok v' w' ∧ w'.ownsRow base 65 2 v' (xs ++ m).length (rowR (xs ++ m)) ∧ w.grownBy w' v.ownBlock:=by
  obtain ⟨i0,hi0,hz0,hzs,hzb⟩:=info_parts Tryz.info65
  obtain ⟨v',w',hr,q1,q2,_⟩:=run_append_own (P:=Tryz.prog) w base 34 ty 65 i0 _ 2 24 Tryz.underlying34 hi0 hz0 hzs hzb rfl (by omega) v xs.length (rowR xs) hown ⟨b,off,none⟩ m.length c (rowR m) (rowR_length m) (holdsR_row h) (rowR_one m) (by unfold maxLen;omega) (by omega) hbase
  exact ⟨v',w',hr,by rw [List.length_append,rowR_append];exact q1,q2⟩
theorem ownR_reads {w : World} {base : Nat} {v : Value} {xs : List Rf} (h : w.ownsRow base 65 2 v xs.length (rowR xs)) : ∃ a c,v = .slice a xs.length c ∧ HoldsR w a xs:=by
  rcases h.2 with ⟨rfl,e⟩ | ⟨g,cap,cur,rfl,h1,h2,h3,h4,h5,h6⟩
  · rw [e]
    exact ⟨none,0,rfl,fun i hi=>by omega⟩
  · refine ⟨_,_,rfl,fun i hi=>⟨g,0,rfl,heap_lt h2,fun k hk=>?_⟩⟩
    have hc : ∀ j,j < 2 → w.cell? ⟨g,0 + k * 2 + j,none⟩ = (xs[k].cells)[j]?:=fun j hj=>by
      rw [Nat.zero_add,cell_of_row w g _ _ _ _ h2,← rowR_get xs k j hk hj,← h6,List.getElem?_take,if_pos (by omega)]
      simp
    exact ⟨by simpa [Rf.cells] using hc 0 (by omega),by simpa [Rf.cells] using hc 1 (by omega)⟩
end Go.Proofs.YtehmlpkapjdhkaaGreatDoor
