import Derived.Test.YtehmlpkapjdhkaaGreatDoorRows
import Derived.WalkKit
import Derived.WalkSpells
import Derived.WalkLawsBesides
import Derived.Deep.QuietTactic
import Derived.BigQuiet
import Derived.Deep.AppendLies
import Derived.Laws.BytesArg
import Derived.Defers
import Derived.Recover
import Derived.Deep.RegionWith
import Derived.Deep.DrawnRows
import Derived.ProofKit
import Derived.OpenShut
import Derived.Lib.SmallJoins
import Derived.Deep.RegionHeld
namespace Go.Proofs.YtehmlpkapjdhkaaGreatDoor
section
open Go.RowKit
theorem uA {α : Type} {xs : List α} {i : Nat} (h : i < xs.toArray.size) : xs.toArray[i] = xs[i]'(by simpa using h) := List.getElem_toArray h
theorem uB {α : Type} (a : α) (xs : List α) (i : Nat) (h : i + 1 < (a :: xs).length) : (a :: xs)[i + 1] = xs[i]'(by simpa using h) := List.getElem_cons_succ a xs i h
theorem uC {α : Type} {a : α} {xs : List α} {h : 0 < (a :: xs).length} : (a :: xs)[0] = a := rfl
theorem uD {α : Type} (l : List α) (i : Nat) (a : α) : l.toArray.setIfInBounds i a = (l.set i a).toArray := List.setIfInBounds_toArray l i a
theorem uE {α : Type} {x a : α} {xs : List α} : (x :: xs).set 0 a = a :: xs := rfl
theorem uF {α : Type} {x a : α} {xs : List α} {n : Nat} : (x :: xs).set (n + 1) a = x :: xs.set n a := rfl
def Holds (w : World) (a : Option Addr) (L : List Int) : Prop :=
  ∀ i,i < L.length → ∃ b off,a = some ⟨b,off,none⟩ ∧ b < w.heap.size ∧ ∀ i,i < L.length → w.cell? ⟨b,off + i,none⟩ = some (.int .i64 (L.getD i 0))
def sameB (A B : List Int) : Bool:=decide (A = B)
theorem ret_bool {a b : Bool} (h : a = b) : Ending.returned (.bool a) = .returned (.bool b):=by rw [h]
theorem sameB_ne {A B : List Int} {k : Nat} {hlt : k < A.length} (h : (A[k] != B[k]?.getD 0) = true) : sameB A B = false:=by
  simp only [sameB,decide_eq_false_iff_not]
  intro e
  subst e
  simp [hlt] at h
theorem sameB_step {A B : List Int} {k : Nat} (hl : A.length = B.length) (ht : A.take k = B.take k) (hlt : k < A.length) (h : (A[k] != B[k]?.getD 0) = false) : A.take (k + 1) = B.take (k + 1):=by
  have hb : k < B.length:=by omega
  rw [List.take_succ_eq_append_getElem hlt,List.take_succ_eq_append_getElem hb,ht]
  simp [hb] at h
  rw [h]
theorem sameB_end {A B : List Int} {k : Nat} (hk : k ≤ A.length) (hlt : ¬ k < A.length) (hl : A.length = B.length) (ht : A.take k = B.take k) : sameB A B = true:=by
  have e : k = A.length:=by omega
  subst e
  rw [List.take_length,hl,List.take_length] at ht
  simp [sameB,ht]
set_option maxHeartbeats 400000 in
theorem sameInts_any (a1 : Option Addr) (c1 : Nat) (A : List Int) (a2 : Option Addr) (c2 : Nat) (B : List Int) (w : World)
    (hA : Holds w a1 A) (hB : Holds w a2 B) (lA : A.length ≤ 9223372036854775807) :
    Calls Tryz.prog 83 #[.slice a1 A.length c1,.slice a2 B.length c2] w fun e w'=>e = .returned (.bool (sameB A B)) ∧ ∃ n,w' = w.drewN n:=by
  by_cases hl : A.length = B.length
  · have hd : ((A.length : Int) != (B.length : Int)) = false:=by simp [hl]
    have HL : Hid (A.length = B.length):=hl
    clear hl
    go_enter Tryz.func83,Tryz.ntmps83
    go_wp2
    go_loopw [5] (fun i wr=>∃ k : Nat,i = .int .i64 k ∧ k ≤ A.length ∧ A.take k = B.take k ∧ ∃ n,wr = w.drewN n) (fun i _=>A.length - (intOf i).toNat)
    case atStart=>exact ⟨0,rfl,Nat.zero_le _,rfl,0,rfl⟩
    case round =>
      obtain ⟨k,rfl,hk,hkt,n,rfl⟩:=hrel
      by_cases hlt : k < A.length
      · obtain ⟨b1,o1,rfl,hb1,hc1⟩:=hA k hlt
        obtain ⟨b2,o2,rfl,hb2,hc2⟩:=hB k (by rw [← HL.out];exact hlt)
        have hlt2 : (k : Int) < (B.length : Int):=by have:=HL.out;omega
        have hk1:=hc1 k hlt
        have hk2:=hc2 k (by omega)
        have HT : Hid (A.take k = B.take k):=hkt
        clear hkt hc1 hc2
        have hk1' : ∀ m,(w.drewN m).cell? ⟨b1,o1 + k,none⟩ = some (.int .i64 A[k]):=fun m=>by simpa [hlt] using hk1
        have hk2' : ∀ m,(w.drewN m).cell? ⟨b2,o2 + k,none⟩ = some (.int .i64 (B.getD k 0)):=fun m=>by simpa using hk2
        clear hk1 hk2
        go_wp2
        go_quiet (fail)
        go_wp2
        · go_ret
          exact ⟨ret_bool (sameB_ne ‹_›).symm,n + nq,by simp⟩
        · go_roundw
          case rel=>exact ⟨k + 1,by go_num,by omega,sameB_step HL.out HT.out hlt ‹_›,_,rfl⟩
          case measure=>simp [intOf];omega
      · go_wp2
        go_ret
        exact ⟨ret_bool (sameB_end hk hlt HL.out hkt).symm,_,rfl⟩
  · have hd : ((A.length : Int) != (B.length : Int)) = true:=by simp;omega
    go_enter Tryz.func83,Tryz.ntmps83
    go_wp2
    go_ret
    exact ⟨by have : ¬ A = B:=fun h=>hl (by rw [h]);simp [sameB,this],0,rfl⟩
end

section
open Go.RowKit
theorem Holds.below {w w' : World} {a : Option Addr} {L : List Int} (h : Holds w a L) (hb : Below w.heap.size w w') : Holds w' a L:=by
  intro i hi
  obtain ⟨b,off,rfl,hlt,hc⟩:=h i hi
  exact ⟨b,off,rfl,Nat.lt_of_lt_of_le hlt hb.size,fun j hj=>(hb.cell (p:=⟨b,off + j,none⟩) hlt).trans (hc j hj)⟩
theorem below_drewN {B : Nat} {a w : World} (h : Below B a w) (n : Nat) : Below B a (w.drewN n):=by
  induction n with
  | zero=>exact h
  | succ n ih=>exact ih.drew
theorem below_alloc2 (w : World) (o o' : Obj) : Below w.heap.size w ((w.alloc o).alloc o'):=((Below.refl _ _).alloc (Nat.le_refl _) o).alloc (by simp) o'
theorem below_alloc (w : World) (o : Obj) : Below w.heap.size w (w.alloc o):=(Below.refl _ _).alloc (Nat.le_refl _) o
def sameO (i1 k1 : Int) (L1 : List Int) (t1 : ByteArray) (i2 k2 : Int) (L2 : List Int) (t2 : ByteArray) : Bool :=
  decide (i1 = i2) && decide (k1 = k2) && decide (t1.toList = t2.toList) && sameB L1 L2
set_option maxHeartbeats 400000 in
theorem sameObject_any (i1 k1 : Int) (a1 : Option Addr) (c1 : Nat) (L1 : List Int) (t1 : ByteArray) (i2 k2 : Int) (a2 : Option Addr) (c2 : Nat) (L2 : List Int) (t2 : ByteArray) (w : World)
    (h1 : Holds w a1 L1) (h2 : Holds w a2 L2) (l1 : L1.length ≤ 9223372036854775807) :
    Calls Tryz.prog 30 #[.agg #[.int .i64 i1,.int .i64 k1,.slice a1 L1.length c1,.string t1],.agg #[.int .i64 i2,.int .i64 k2,.slice a2 L2.length c2,.string t2]] w
      fun e w'=>e = .returned (.bool (sameO i1 k1 L1 t1 i2 k2 L2 t2)) ∧ Below w.heap.size w w':=by
  go_enter Tryz.func30,Tryz.ntmps30
  go_wp2_with fail
  · refine (sameInts_any a1 c1 L1 a2 c2 L2 _ (h1.below (below_alloc2 _ _ _)) (h2.below (below_alloc2 _ _ _)) l1).mono ?_
    rintro e w' ⟨rfl,n,rfl⟩
    go_wp2
    go_ret
    exact ⟨ret_bool (by simp [sameO, *]),below_drewN (below_alloc2 _ _ _) n⟩
  all_goals go_ret
  all_goals exact ⟨ret_bool (by simp [sameO, *]),below_alloc2 _ _ _⟩
def linksE (id kind : Int) : Nat → Int → List Int → Int
  | _,_,[]=>0
  | i,last,x :: xs=>if x < 1 ∨ id ≤ x then 3 else if x ≤ last then 4 else linksE id kind (i + 1) (if kind = 3 ∧ i = 0 then last else x) xs
theorem ret_int {k : IntKind} {a b : Int} (h : a = b) : Ending.returned (.int k a) = .returned (.int k b):=by rw [h]
theorem drop_at {L : List Int} {k : Nat} (h : k < L.length) : L.drop k = L[k] :: L.drop (k + 1):=List.drop_eq_getElem_cons h
theorem lk_range {id kind : Int} {L : List Int} {k : Nat} {last r : Int} (hlt : k < L.length) (H : r = linksE id kind k last (L.drop k)) (h : L[k] < 1 ∨ id ≤ L[k]) : r = 3:=by
  rw [H,drop_at hlt,linksE,if_pos h]
theorem lk_state {id kind : Int} {L : List Int} {k : Nat} {last r : Int} (hlt : k < L.length) (H : r = linksE id kind k last (L.drop k)) (h : 1 ≤ L[k] ∧ L[k] < id) (h2 : L[k] ≤ last) : r = 4:=by
  rw [H,drop_at hlt,linksE,if_neg (by omega),if_pos h2]
theorem lk_next {id kind : Int} {L : List Int} {k : Nat} {last r : Int} (hlt : k < L.length) (H : r = linksE id kind k last (L.drop k)) (h : 1 ≤ L[k] ∧ L[k] < id) (h2 : last < L[k]) (h3 : ¬ (kind = 3 ∧ k = 0)) : r = linksE id kind (k + 1) L[k] (L.drop (k + 1)):=by
  rw [H,drop_at hlt,linksE,if_neg (by omega),if_neg (by omega),if_neg h3]
theorem lk_first {id : Int} {L : List Int} {k : Nat} {last r : Int} (hlt : k < L.length) (H : r = linksE id 3 k last (L.drop k)) (h : 1 ≤ L[k] ∧ L[k] < id) (h2 : last < L[k]) (h3 : k = 0) : r = linksE id 3 (k + 1) last (L.drop (k + 1)):=by
  rw [H,drop_at hlt,linksE,if_neg (by omega),if_neg (by omega),if_pos ⟨rfl,h3⟩]
theorem lk_end {id kind : Int} {L : List Int} {k : Nat} {last r : Int} (hk : k ≤ L.length) (hlt : ¬ k < L.length) (H : r = linksE id kind k last (L.drop k)) : r = 0:=by
  rw [H,List.drop_of_length_le (by omega)];rfl
set_option maxHeartbeats 800000 in
theorem checkLinks_any (id kind : Int) (a : Option Addr) (c : Nat) (L : List Int) (t : ByteArray) (w : World)
    (h : Holds w a L) (l : L.length ≤ 9223372036854775807) :
    Calls Tryz.prog 188 #[.agg #[.int .i64 id,.int .i64 kind,.slice a L.length c,.string t]] w
      fun e w'=>e = .returned (.int .i64 (linksE id kind 0 0 L)) ∧ Below w.heap.size w w':=by
  have h':=h.below (below_alloc w (.cells #[.int .i64 id,.int .i64 kind,.slice a L.length c,.string t] 58))
  by_cases hk3 : kind = 3
  · subst hk3
    go_enter Tryz.func188,Tryz.ntmps188
    go_wp2
    go_loop [3,9] (fun z i=>∃ (k : Nat) (last : Int),i = .int .i64 k ∧ z = .int .i64 last ∧ k ≤ L.length ∧ Hid (linksE id 3 0 0 L = linksE id 3 k last (L.drop k))) (fun _ i=>L.length - (intOf i).toNat)
    case atStart=>exact ⟨0,0,rfl,rfl,Nat.zero_le _,rfl⟩
    case round =>
      obtain ⟨k,last,rfl,rfl,hk,H⟩:=hrel
      by_cases hlt : k < L.length
      · obtain ⟨b1,o1,rfl,hb1,hc1⟩:=h' k hlt
        have hk1:=hc1 k hlt
        clear hc1
        by_cases h0 : (0 : Int) < (k : Int)
        · go_wp2
          · go_ret
            exact ⟨ret_int (lk_range hlt H.out ‹_›).symm,below_alloc _ _⟩
          · go_ret
            exact ⟨ret_int (lk_state hlt H.out ‹_› ‹_›).symm,below_alloc _ _⟩
          · go_round
            case rel=>exact ⟨k + 1,_,by go_num,rfl,by omega,lk_next hlt H.out ‹_› ‹_› (by omega)⟩
            case measure=>simp [intOf];omega
          · go_ret
            exact ⟨ret_int (lk_range hlt H.out (Or.inl ‹_›)).symm,below_alloc _ _⟩
        · have hk0 : k = 0:=by omega
          have HK : Hid (k = 0):=hk0
          clear hk0
          go_wp2
          · go_ret
            exact ⟨ret_int (lk_range hlt H.out ‹_›).symm,below_alloc _ _⟩
          · go_ret
            exact ⟨ret_int (lk_state hlt H.out ‹_› ‹_›).symm,below_alloc _ _⟩
          · go_round
            case rel=>exact ⟨k + 1,_,by go_num,rfl,by omega,lk_first hlt H.out ‹_› ‹_› HK.out⟩
            case measure=>simp [intOf];omega
          · go_ret
            exact ⟨ret_int (lk_range hlt H.out (Or.inl ‹_›)).symm,below_alloc _ _⟩
      · go_wp2
        go_ret
        exact ⟨ret_int (lk_end hk hlt H.out).symm,below_alloc _ _⟩
  · have hkb : (kind != 3) = true:=by simpa using hk3
    go_enter Tryz.func188,Tryz.ntmps188
    go_wp2
    go_loop [3,9] (fun z i=>∃ (k : Nat) (last : Int),i = .int .i64 k ∧ z = .int .i64 last ∧ k ≤ L.length ∧ Hid (linksE id kind 0 0 L = linksE id kind k last (L.drop k))) (fun _ i=>L.length - (intOf i).toNat)
    case atStart=>exact ⟨0,0,rfl,rfl,Nat.zero_le _,rfl⟩
    case round =>
      obtain ⟨k,last,rfl,rfl,hk,H⟩:=hrel
      by_cases hlt : k < L.length
      · obtain ⟨b1,o1,rfl,hb1,hc1⟩:=h' k hlt
        have hk1:=hc1 k hlt
        clear hc1
        go_wp2
        · go_ret
          exact ⟨ret_int (lk_range hlt H.out ‹_›).symm,below_alloc _ _⟩
        · go_ret
          exact ⟨ret_int (lk_state hlt H.out ‹_› ‹_›).symm,below_alloc _ _⟩
        · go_round
          case rel=>exact ⟨k + 1,_,by go_num,rfl,by omega,lk_next hlt H.out ‹_› ‹_› (by omega)⟩
          case measure=>simp [intOf];omega
        · go_ret
          exact ⟨ret_int (lk_range hlt H.out (Or.inl ‹_›)).symm,below_alloc _ _⟩
      · go_wp2
        go_ret
        exact ⟨ret_int (lk_end hk hlt H.out).symm,below_alloc _ _⟩
end

section
open Go.RowKit
theorem bcell {W w1 : World} (hb : Below W.heap.size W w1) : (∀ b o,b < W.heap.size → w1.cell? ⟨b,o,none⟩ = W.cell? ⟨b,o,none⟩) ∧ (∀ b o,b < W.heap.size → w1.frozen? ⟨b,o,none⟩ = W.frozen? ⟨b,o,none⟩) :=
  ⟨fun b o h=>hb.cell (p:=⟨b,o,none⟩) h,fun b o h=>hb.frozen (p:=⟨b,o,none⟩) h⟩
def checkE (id kind : Int) (L : List Int) (n : Nat) : Int :=
  if id < 1 ∨ 99 < id then 3 else if kind < 1 ∨ 3 < kind then 7 else if 4 < L.length ∨ 8 < n then 2
  else if linksE id kind 0 0 L ≠ 0 then linksE id kind 0 0 L
  else if (kind = 1 ∧ 0 < L.length) ∨ (kind = 3 ∧ L.length = 0) then 1 else 0
theorem ck_range {id kind : Int} {L : List Int} {n : Nat} (h : id < 1 ∨ 99 < id) : checkE id kind L n = 3:=by rw [checkE,if_pos h]
theorem ck_kind {id kind : Int} {L : List Int} {n : Nat} (h0 : 1 ≤ id ∧ id ≤ 99) (h : kind < 1 ∨ 3 < kind) : checkE id kind L n = 7:=by rw [checkE,if_neg (by omega),if_pos h]
theorem ck_many {id kind : Int} {L : List Int} {n : Nat} (h0 : 1 ≤ id ∧ id ≤ 99) (h1 : 1 ≤ kind ∧ kind ≤ 3) (h : (4 : Int) < L.length ∨ (8 : Int) < n) : checkE id kind L n = 2:=by rw [checkE,if_neg (by omega),if_neg (by omega),if_pos (by omega)]
theorem ck_links {id kind : Int} {L : List Int} {n : Nat} (h0 : 1 ≤ id ∧ id ≤ 99) (h1 : 1 ≤ kind ∧ kind ≤ 3) (h : (L.length : Int) ≤ 4 ∧ (n : Int) ≤ 8) (h2 : linksE id kind 0 0 L ≠ 0) : checkE id kind L n = linksE id kind 0 0 L:=by rw [checkE,if_neg (by omega),if_neg (by omega),if_neg (by omega),if_pos h2]
theorem ck_form {id kind : Int} {L : List Int} {n : Nat} (h0 : 1 ≤ id ∧ id ≤ 99) (h1 : 1 ≤ kind ∧ kind ≤ 3) (h : (L.length : Int) ≤ 4 ∧ (n : Int) ≤ 8) (h2 : linksE id kind 0 0 L = 0) (h3 : (kind = 1 ∧ 0 < L.length) ∨ (kind = 3 ∧ L.length = 0)) : checkE id kind L n = 1:=by rw [checkE,if_neg (by omega),if_neg (by omega),if_neg (by omega),if_neg (by omega),if_pos h3]
theorem ck_ok {id kind : Int} {L : List Int} {n : Nat} (h0 : 1 ≤ id ∧ id ≤ 99) (h1 : 1 ≤ kind ∧ kind ≤ 3) (h : (L.length : Int) ≤ 4 ∧ (n : Int) ≤ 8) (h2 : linksE id kind 0 0 L = 0) (h3 : ¬ ((kind = 1 ∧ 0 < L.length) ∨ (kind = 3 ∧ L.length = 0))) : checkE id kind L n = 0:=by rw [checkE,if_neg (by omega),if_neg (by omega),if_neg (by omega),if_neg (by omega),if_neg h3]
set_option maxHeartbeats 800000 in
theorem check_any (id kind : Int) (a : Option Addr) (c : Nat) (L : List Int) (t : ByteArray) (w : World)
    (h : Holds w a L) (l : L.length ≤ 9223372036854775807) :
    Calls Tryz.prog 134 #[.agg #[.int .i64 id,.int .i64 kind,.slice a L.length c,.string t]] w
      fun e w'=>e = .returned (.int .i64 (checkE id kind L t.size)) ∧ Below w.heap.size w w':=by
  have h':=h.below (below_alloc w (.cells #[.int .i64 id,.int .i64 kind,.slice a L.length c,.string t] 58))
  go_enter Tryz.func134,Tryz.ntmps134
  go_wp2_with fail
  · go_ret
    exact ⟨ret_int (ck_range ‹_›).symm,below_alloc _ _⟩
  · go_ret
    exact ⟨ret_int (ck_kind ‹_› ‹_›).symm,below_alloc _ _⟩
  · go_ret
    exact ⟨ret_int (ck_many ‹1 ≤ id ∧ id ≤ 99› ‹1 ≤ kind ∧ kind ≤ 3› ‹_›).symm,below_alloc _ _⟩
  · have H0 : 1 ≤ id ∧ id ≤ 99:=‹_›
    have H1 : 1 ≤ kind ∧ kind ≤ 3:=‹_›
    have H2 : (L.length : Int) ≤ 4 ∧ (t.size : Int) ≤ 8:=‹_›
    refine (checkLinks_any id kind a c L t _ h' l).mono ?_
    rintro e w1 ⟨rfl,hb⟩
    have hB:=(below_alloc _ _).trans (hb.mono (by simp))
    by_cases hz : linksE id kind 0 0 L = 0
    · rw [hz]
      have HZ : Hid (linksE id kind 0 0 L = 0):=hz
      clear hz
      obtain ⟨hc,hf⟩:=bcell hb
      by_cases k1 : kind = 1
      · subst k1
        cases L with
        | nil =>
          go_wp2
          go_ret
          exact ⟨ret_int (ck_ok H0 H1 H2 HZ.out (by simp)).symm,hB⟩
        | cons x xs =>
          go_wp2
          go_ret
          exact ⟨ret_int (ck_form H0 H1 H2 HZ.out (by simp)).symm,hB⟩
      · by_cases k3 : kind = 3
        · subst k3
          cases L with
          | nil =>
            go_wp2
            go_ret
            exact ⟨ret_int (ck_form H0 H1 H2 HZ.out (by simp)).symm,hB⟩
          | cons x xs =>
            have hne : (((x :: xs).length : Int) == 0) = false:=by simp;omega
            go_wp2
            go_ret
            exact ⟨ret_int (ck_ok H0 H1 H2 HZ.out (by simp)).symm,hB⟩
        · have e1 : (kind == 1) = false:=by simpa using k1
          have e3 : (kind == 3) = false:=by simpa using k3
          go_wp2
          go_ret
          exact ⟨ret_int (ck_ok H0 H1 H2 HZ.out (by omega)).symm,hB⟩
    · have hz' : (linksE id kind 0 0 L != 0) = true:=by simpa using hz
      go_wp2
      go_ret
      exact ⟨ret_int (ck_links H0 H1 H2 hz).symm,hB⟩
  · go_ret
    exact ⟨ret_int (ck_many ‹1 ≤ id ∧ id ≤ 99› ‹1 ≤ kind ∧ kind ≤ 3› (Or.inl ‹_›)).symm,below_alloc _ _⟩
  · go_ret
    exact ⟨ret_int (ck_kind ‹_› (Or.inl ‹_›)).symm,below_alloc _ _⟩
  · go_ret
    exact ⟨ret_int (ck_range (Or.inl ‹_›)).symm,below_alloc _ _⟩
end

section
open Go.RowKit
theorem Tryz.info5 : (Tryz.prog.info? 5).map (fun i=>(i.zero,i.size,i.bytes)) = some (some (.int .u8 0),1,1):=by kernel_rfl
theorem Tryz.info3 : (Tryz.prog.info? 3).map (fun i=>(i.zero,i.size,i.bytes)) = some (some (.int .i64 0),1,8):=by kernel_rfl
structure Stays (p : Nat) (row : Option Nat) (w w' : World) : Prop where
  os : w'.os = w.os
  tape : w'.tape = w.tape
  output : w'.output = w.output
  size : w.heap.size ≤ w'.heap.size
  block : ∀ k,k < w.heap.size → k ≠ p → some k ≠ row → w'.heap[k]? = w.heap[k]?
theorem Stays.refl (p : Nat) (row : Option Nat) (w : World) : Stays p row w w:=⟨rfl,rfl,rfl,Nat.le_refl _,fun _ _ _ _=>rfl⟩
theorem Stays.round {p : Nat} {row r : Option Nat} {w wr w1 : World} {o : Obj} {u : Value} (h : Stays p row w wr) (hg : (wr.alloc o).grownBy w1 r) (hr : r = row ∨ ∃ g,r = some g ∧ w.heap.size ≤ g) :
    Stays p row w (w1.setCell ⟨p,0,none⟩ u):=by
  refine ⟨hg.os.trans h.os,hg.tape.trans h.tape,hg.output.trans h.output,?_,fun k hk hp hrow=>?_⟩
  · have:=hg.size;have:=h.size;simp [World.setCell] at *;omega
  · have hs:=h.size
    rw [Below.heap_setCell _ _ _ _ hp,hg.block k (by simp;omega) (by
      rcases hr with rfl | ⟨g,rfl,hge⟩
      · exact hrow
      · intro e;have : k = g:=by simpa using e
        omega),Below.heap_alloc _ _ _ (by omega)]
    exact h.block k hk hp hrow
theorem Stays.below {p B : Nat} {row : Option Nat} {w w' : World} (h : Stays p row w w') (hB : B ≤ w.heap.size) (hp : B ≤ p) (hr : ∀ k,row = some k → B ≤ k) : Below B w w' :=
  ⟨h.os,h.tape,h.output,h.size,fun k hk=>h.block k (by omega) (by omega) (fun e=>by have:=hr k e.symm;omega)⟩
theorem u8_same {x : Int} (h : 0 ≤ x ∧ x ≤ 255) : IntKind.u8.wrap x = x:=by
  simp [IntKind.wrap,IntKind.bits,IntKind.signed];omega
theorem put_round {p base n k : Nat} {v vr v' u : Value} {xs : List Value} {N : List Int} {w wr w1 : World} {o : Obj} {g : Nat} (hlt : k < N.length)
    (hst : Stays p v.ownBlock w wr) (hat : vr.ownBlock = v.ownBlock ∨ ∃ g,vr.ownBlock = some g ∧ w.heap.size ≤ g)
    (hpb : p < base) (hcp : w1.cell? ⟨p,0,none⟩ = some vr) (hfp : w1.frozen? ⟨p,0,none⟩ = false)
    (hown' : w1.ownsRow base 5 1 v' (n + k + 1) (xs ++ (N.take k).map (Value.int .u8) ++ [.int .u8 N[k]])) (hgrow : (wr.alloc o).grownBy w1 vr.ownBlock) (hat' : vr.ownBlock = some g ∨ g = wr.heap.size + 1) (hvg : v'.ownBlock = some g) :
    (w1.setCell ⟨p,0,none⟩ u).cell? ⟨p,0,none⟩ = some u ∧ (w1.setCell ⟨p,0,none⟩ u).frozen? ⟨p,0,none⟩ = false ∧
      (w1.setCell ⟨p,0,none⟩ u).ownsRow base 5 1 v' (n + (k + 1)) (xs ++ (N.take (k + 1)).map (Value.int .u8)) ∧ Stays p v.ownBlock w (w1.setCell ⟨p,0,none⟩ u) ∧ (v'.ownBlock = v.ownBlock ∨ ∃ g,v'.ownBlock = some g ∧ w.heap.size ≤ g):=by
  refine ⟨World.cell?_setCell_same _ _ _ hcp,(World.frozen?_setCell _ _ _ _).trans hfp,?_,hst.round hgrow hat,?_⟩
  · have e : xs ++ (N.take (k + 1)).map (Value.int .u8) = xs ++ (N.take k).map (Value.int .u8) ++ [.int .u8 N[k]]:=by
      rw [List.take_succ_eq_append_getElem hlt];simp only [List.map_append,List.map_cons,List.map_nil,List.append_assoc]
    rw [e,← Nat.add_assoc]
    exact ownsRow_setCell_below hown' hpb _
  · have:=hst.size
    rcases hat' with e | e
    · rw [hvg,← e];exact hat
    · exact Or.inr ⟨_,hvg,by omega⟩
end

section
open Go.RowKit
theorem linksE_mem {id kind : Int} : ∀ (L : List Int) (i : Nat) (last : Int),linksE id kind i last L = 0 → ∀ x ∈ L,1 ≤ x ∧ x < id:=by
  intro L
  induction L with
  | nil=>intro _ _ _ x hx;cases hx
  | cons y ys ih =>
    intro i last h x hx
    rw [linksE] at h
    split at h
    · cases h
    · split at h
      · cases h
      · rcases List.mem_cons.1 hx with rfl | hx
        · omega
        · exact ih _ _ h x hx
theorem checkE_zero {id kind : Int} {L : List Int} {n : Nat} (h : checkE id kind L n = 0) :
    (1 ≤ id ∧ id ≤ 99) ∧ (1 ≤ kind ∧ kind ≤ 3) ∧ L.length ≤ 4 ∧ n ≤ 8 ∧ linksE id kind 0 0 L = 0 ∧ ¬ ((kind = 1 ∧ 0 < L.length) ∨ (kind = 3 ∧ L.length = 0)):=by
  unfold checkE at h
  split at h
  · cases h
  split at h
  · cases h
  split at h
  · cases h
  split at h
  · omega
  split at h
  · cases h
  refine ⟨by omega,by omega,by omega,by omega,by omega,by assumption⟩
def encNums (id kind : Int) (L : List Int) (n : Nat) : List Int:=[id,kind,(L.length : Int)] ++ L ++ [(n : Int)]
theorem holds_new (w : World) (cs : List Int) (e : Nat) (W : World) (hW : W = w.alloc (.cells (cs.map (Value.int .i64)).toArray e)) : Holds W (some ⟨w.heap.size,0,none⟩) cs:=by
  subst hW
  intro i hi
  refine ⟨w.heap.size,0,rfl,by simp,fun j hj=>?_⟩
  rw [World.cell?_alloc_at _ _ _ _ rfl]
  simp [List.getElem?_eq_getElem hj]
theorem boxed {w w1 : World} {x0 x1 x2 x3 : Value} {e : Nat} (hb : Below (w.alloc (.cells #[x0,x1,x2,x3] e)).heap.size (w.alloc (.cells #[x0,x1,x2,x3] e)) w1) :
    w1.cell? ⟨w.heap.size,0,none⟩ = some x0 ∧ w1.cell? ⟨w.heap.size,1,none⟩ = some x1 ∧ w1.cell? ⟨w.heap.size,2,none⟩ = some x2 ∧ w1.cell? ⟨w.heap.size,3,none⟩ = some x3 ∧ w.heap.size < w1.heap.size:=by
  have hs:=hb.size
  refine ⟨?_,?_,?_,?_,by simp at hs;omega⟩ <;>
  · rw [hb.cell (by simp),World.cell?_alloc_at _ _ _ _ rfl];rfl
theorem put_new (w : World) (o : Obj) (cs : List Int) : Holds ((w.alloc o).alloc (.cells (cs.map (Value.int .i64)).toArray 3)) (some ⟨w.heap.size + 1,0,none⟩) cs:=by
  have:=holds_new (w.alloc o) cs 3 _ rfl
  simpa using this
end

section
open Go.RowKit
def nums (s : ByteArray) : List Int:=s.data.toList.map (fun b=>(b.toNat : Int))
theorem nums_len (s : ByteArray) : (nums s).length = s.size:=by rw [nums,List.length_map,Array.length_toList];rfl
theorem strOf_nums (s : ByteArray) : strOfNums (nums s) = s:=by
  have e : (nums s).map (fun n=>UInt8.ofNat n.toNat) = s.data.toList:=by
    simp [nums,Function.comp_def]
  unfold strOfNums
  rw [e]
theorem Stays.setCell {p : Nat} {row : Option Nat} {w w' : World} (h : Stays p row w w') (i : Nat) (u : Value) : Stays p row w (w'.setCell ⟨p,i,none⟩ u) :=
  ⟨h.os,h.tape,h.output,by have:=h.size;simp [World.setCell];omega,fun k hk hp hr=>(Below.heap_setCell _ _ _ _ hp).trans (h.block k hk hp hr)⟩
theorem Stays.trans {p : Nat} {a b c : World} (h : Stays p none a b) (k : Stays p none b c) : Stays p none a c :=
  ⟨k.os.trans h.os,k.tape.trans h.tape,k.output.trans h.output,Nat.le_trans h.size k.size,fun i hi hp hr=>(k.block i (Nat.lt_of_lt_of_le hi h.size) hp hr).trans (h.block i hi hp hr)⟩
end

section
open Go.RowKit
theorem holds_own {w : World} {base g n cap : Nat} {L : List Int} (h : w.ownsRow base 3 1 (.slice (some ⟨g,0,none⟩) n cap) n (L.map (Value.int .i64))) (hn : L.length = n) : Holds w (some ⟨g,0,none⟩) L:=by
  intro i hi
  refine ⟨g,0,rfl,?_,fun j hj=>?_⟩
  · exact (h.lt g rfl).2
  · rw [Nat.zero_add,h.cellAt j (by omega)]
    simp [List.getElem?_eq_getElem hj]
theorem own_shape {w : World} {base n : Nat} {v : Value} {L : List Int} (h : w.ownsRow base 3 1 v n (L.map (Value.int .i64))) (hn : L.length = n) : ∃ a cap,v = .slice a n cap ∧ Holds w a L ∧ ∀ b off,a = some ⟨b,off,none⟩ → base ≤ b:=by
  by_cases h0 : 0 < n
  · obtain ⟨g,cap,rfl,hg,_⟩:=h.form h0
    exact ⟨_,cap,rfl,holds_own h hn,fun b off e=>by cases e;exact hg⟩
  · have e0 : n = 0:=by omega
    subst e0
    rcases h.2 with ⟨rfl,_⟩ | ⟨g,cap,cur,rfl,hg,_⟩
    · exact ⟨none,0,rfl,fun i hi=>by omega,fun b off e=>by cases e⟩
    · exact ⟨_,cap,rfl,fun i hi=>by omega,fun b off e=>by cases e;exact hg⟩
end

section
open Go.RowKit
end

section
open Go.RowKit
def encN (i k : Int) (L T : List Int) : List Int:=[i,k,(L.length : Int)] ++ L ++ [(T.length : Int)] ++ T
def Begins (s : ByteArray) (i k : Int) (L T : List Int) : Prop:=∃ rest,nums s = encN i k L T ++ rest
end

section
open Go.RowKit
theorem Holds.drew {w : World} {a : Option Addr} {L : List Int} (h : Holds w a L) : Holds w.drew a L:=h
theorem Holds.set {w : World} {a : Option Addr} {L : List Int} {B i : Nat} (h : Holds w a L) (hne : ∀ b off,a = some ⟨b,off,none⟩ → b ≠ B) (y : Value) : Holds (w.setCell ⟨B,i,none⟩ y) a L:=by
  intro j hj
  obtain ⟨b,off,rfl,hlt,hc⟩:=h j hj
  have:=hne b off rfl
  exact ⟨b,off,rfl,by simpa [World.setCell] using hlt,fun x hx=>(World.cell?_setCell_other _ _ _ _ (by intro e;cases e;exact this rfl)).trans (hc x hx)⟩
end

section
open Go.RowKit
abbrev zeroO : Value:=.agg #[.int .i64 0,.int .i64 0,.slice none 0 0,.string { data:=#[] }]
structure Cells4 (B : Nat) (x0 x1 x2 x3 : Value) (w : World) : Prop where
  c0 : w.cell? ⟨B,0,none⟩ = some x0
  c1 : w.cell? ⟨B,1,none⟩ = some x1
  c2 : w.cell? ⟨B,2,none⟩ = some x2
  c3 : w.cell? ⟨B,3,none⟩ = some x3
  f0 : w.frozen? ⟨B,0,none⟩ = false
  f1 : w.frozen? ⟨B,1,none⟩ = false
  f2 : w.frozen? ⟨B,2,none⟩ = false
  f3 : w.frozen? ⟨B,3,none⟩ = false
  lt : B < w.heap.size
theorem Cells4.new (w : World) (x0 x1 x2 x3 : Value) (e : Nat) : Cells4 w.heap.size x0 x1 x2 x3 (w.alloc (.cells #[x0,x1,x2,x3] e)):=by
  constructor <;> simp [go_sem]
theorem Cells4.below {B : Nat} {x0 x1 x2 x3 : Value} {w w' : World} {n : Nat} (h : Cells4 B x0 x1 x2 x3 w) (hb : Below n w w') (hn : B < n) : Cells4 B x0 x1 x2 x3 w' :=
  ⟨(hb.cell (p:=⟨B,0,none⟩) hn).trans h.c0,(hb.cell (p:=⟨B,1,none⟩) hn).trans h.c1,(hb.cell (p:=⟨B,2,none⟩) hn).trans h.c2,(hb.cell (p:=⟨B,3,none⟩) hn).trans h.c3,
    (hb.frozen (p:=⟨B,0,none⟩) hn).trans h.f0,(hb.frozen (p:=⟨B,1,none⟩) hn).trans h.f1,(hb.frozen (p:=⟨B,2,none⟩) hn).trans h.f2,(hb.frozen (p:=⟨B,3,none⟩) hn).trans h.f3,Nat.lt_of_lt_of_le h.lt hb.size⟩
theorem below_set4 {w0 w : World} {B : Nat} {x0 x1 x2 x3 : Value} {n : Nat} (h : Below n w0 w) (hn : n ≤ B) :
    Below n w0 ((((w.setCell ⟨B,0,none⟩ x0).setCell ⟨B,1,none⟩ x1).setCell ⟨B,2,none⟩ x2).setCell ⟨B,3,none⟩ x3) :=
  (((h.setCell (p:=⟨B,0,none⟩) hn x0).setCell (p:=⟨B,1,none⟩) hn x1).setCell (p:=⟨B,2,none⟩) hn x2).setCell (p:=⟨B,3,none⟩) hn x3
theorem holds_set4 {w : World} {a : Option Addr} {L : List Int} {B : Nat} {x0 x1 x2 x3 : Value} (h : Holds w a L) (hne : ∀ b off,a = some ⟨b,off,none⟩ → 0 < L.length → b ≠ B) :
    Holds ((((w.setCell ⟨B,0,none⟩ x0).setCell ⟨B,1,none⟩ x1).setCell ⟨B,2,none⟩ x2).setCell ⟨B,3,none⟩ x3) a L:=by
  intro j hj
  obtain ⟨b,off,rfl,hlt,hc⟩:=h j hj
  have hb:=hne b off rfl (by omega)
  have hne' : ∀ x i,(⟨B,i,none⟩ : Addr) ≠ ⟨b,x,none⟩:=fun x i e=>by cases e;exact hb rfl
  refine ⟨b,off,rfl,by simpa [World.setCell] using hlt,fun x hx=>?_⟩
  rw [World.cell?_setCell_other _ _ _ _ (hne' _ _),World.cell?_setCell_other _ _ _ _ (hne' _ _),World.cell?_setCell_other _ _ _ _ (hne' _ _),World.cell?_setCell_other _ _ _ _ (hne' _ _)]
  exact hc x hx
end

section
open Go.RowKit
abbrev tee : ByteArray:={ data:=#[116] }
set_option maxHeartbeats 400000 in
theorem obj_any (id kind : Int) (a : Option Addr) (n c : Nat) (w : World) :
    Calls Tryz.prog 111 #[.int .i64 id,.int .i64 kind,.slice a n c] w
      fun e w'=>e = .returned (.agg #[.int .i64 id,.int .i64 kind,.slice a n c,.string tee]) ∧ Below w.heap.size w w':=by
  go_enter Tryz.func111,Tryz.ntmps111
  go_wp2
  refine bodyPost_ret (v:=.agg #[.int .i64 id,.int .i64 kind,.slice a n c,.string tee]) (by simp [results,Tryz.results111,go_sem]) rfl ?_
  exact ⟨rfl,below_alloc _ _⟩
def shelfCells (s2 s3 s4 s5 : Value) : Array Value:=#[.int .i64 1,.int .i64 1,.slice none 0 0,.string tee,.int .i64 2,.int .i64 2,s2,.string tee,.int .i64 3,.int .i64 3,s3,.string tee,.int .i64 4,.int .i64 2,s4,.string tee,.int .i64 5,.int .i64 3,s5,.string tee]
set_option maxHeartbeats 400000 in
theorem shelf_any (w : World) :
    Calls Tryz.prog 61 #[] w fun e w'=>∃ g b2 b3 b4 b5,e = .returned (.slice (some ⟨g,0,none⟩) 5 5) ∧ Below w.heap.size w w' ∧ w.heap.size ≤ g ∧ g < w'.heap.size ∧
      w'.heap[g]? = some (.cells (shelfCells (.slice (some ⟨b2,0,none⟩) 1 1) (.slice (some ⟨b3,0,none⟩) 1 1) (.slice (some ⟨b4,0,none⟩) 2 2) (.slice (some ⟨b5,0,none⟩) 2 2)) 58) ∧
      Holds w' (some ⟨b2,0,none⟩) [1] ∧ Holds w' (some ⟨b3,0,none⟩) [2] ∧ Holds w' (some ⟨b4,0,none⟩) [1,2] ∧ Holds w' (some ⟨b5,0,none⟩) [4,3]:=by
  go_enter Tryz.func61,Tryz.ntmps61
  go_wp2_with fail
  refine (obj_any 1 1 none 0 0 _).mono ?_
  rintro e w1 ⟨rfl,hb1⟩
  go_wp2_with fail
  have k2 : Holds (w1.alloc (.cells #[.int .i64 1] 3)) (some ⟨w1.heap.size,0,none⟩) [1]:=holds_new w1 [1] 3 _ rfl
  have hB1:=hb1.alloc hb1.size (.cells #[.int .i64 1] 3)
  refine (obj_any 2 2 _ 1 1 _).mono ?_
  rintro e w2 ⟨rfl,hb2⟩
  have j2:=k2.below hb2
  have hB2:=hB1.trans (hb2.mono (by have:=hb1.size;simp;omega))
  clear k2 hB1 hb2 hb1
  go_wp2_with fail
  have k3 : Holds (w2.alloc (.cells #[.int .i64 2] 3)) (some ⟨w2.heap.size,0,none⟩) [2]:=holds_new w2 [2] 3 _ rfl
  have hB3:=hB2.alloc hB2.size (.cells #[.int .i64 2] 3)
  have l2:=j2.below (below_alloc w2 (.cells #[.int .i64 2] 3))
  refine (obj_any 3 3 _ 1 1 _).mono ?_
  rintro e w3 ⟨rfl,hb3⟩
  have j3:=k3.below hb3
  have m2:=l2.below hb3
  have hB4:=hB3.trans (hb3.mono (by have:=hB2.size;simp;omega))
  clear k3 hB3 hb3 l2 j2 hB2
  go_wp2_with fail
  have k4 : Holds (w3.alloc (.cells #[.int .i64 1,.int .i64 2] 3)) (some ⟨w3.heap.size,0,none⟩) [1,2]:=holds_new w3 [1,2] 3 _ rfl
  have hB5:=hB4.alloc hB4.size (.cells #[.int .i64 1,.int .i64 2] 3)
  have l2:=m2.below (below_alloc w3 (.cells #[.int .i64 1,.int .i64 2] 3))
  have l3:=j3.below (below_alloc w3 (.cells #[.int .i64 1,.int .i64 2] 3))
  refine (obj_any 4 2 _ 2 2 _).mono ?_
  rintro e w4 ⟨rfl,hb4⟩
  have n2:=l2.below hb4
  have n3:=l3.below hb4
  have n4:=k4.below hb4
  have hB6:=hB5.trans (hb4.mono (by have:=hB4.size;simp;omega))
  clear k4 hB5 hb4 l2 l3 hB4 m2 j3
  go_wp2_with fail
  have k5 : Holds (w4.alloc (.cells #[.int .i64 4,.int .i64 3] 3)) (some ⟨w4.heap.size,0,none⟩) [4,3]:=holds_new w4 [4,3] 3 _ rfl
  have hB7:=hB6.alloc hB6.size (.cells #[.int .i64 4,.int .i64 3] 3)
  have l2:=n2.below (below_alloc w4 (.cells #[.int .i64 4,.int .i64 3] 3))
  have l3:=n3.below (below_alloc w4 (.cells #[.int .i64 4,.int .i64 3] 3))
  have l4:=n4.below (below_alloc w4 (.cells #[.int .i64 4,.int .i64 3] 3))
  refine (obj_any 5 3 _ 2 2 _).mono ?_
  rintro e w5 ⟨rfl,hb5⟩
  have p2:=l2.below hb5
  have p3:=l3.below hb5
  have p4:=l4.below hb5
  have p5:=k5.below hb5
  have hB8:=hB7.trans (hb5.mono (by have:=hB6.size;simp;omega))
  clear k5 hB7 hb5 l2 l3 l4 hB6 n2 n3 n4
  have hs8:=hB8.size
  go_wp2
  go_ret
  exact ⟨w5.heap.size,w1.heap.size,w2.heap.size,w3.heap.size,w4.heap.size,rfl,hB8.alloc hs8 _,hs8,by simp,heap_alloc_new w5 _,p2.below (below_alloc _ _),p3.below (below_alloc _ _),p4.below (below_alloc _ _),p5.below (below_alloc _ _)⟩
theorem begins_unique {s : ByteArray} {i k i' k' : Int} {L T L' T' : List Int} (h : Begins s i k L T) (h' : Begins s i' k' L' T') : i = i' ∧ k = k' ∧ L = L' ∧ T = T':=by
  obtain ⟨r,e⟩:=h
  obtain ⟨r',e'⟩:=h'
  rw [e] at e'
  simp only [encN,List.append_assoc,List.cons_append,List.nil_append,List.cons.injEq] at e'
  obtain ⟨e0,e1,e2,e3⟩:=e'
  have hl : L.length = L'.length:=by omega
  obtain ⟨eL,e4⟩:=List.append_inj e3 hl
  simp only [List.cons.injEq] at e4
  obtain ⟨e5,e6⟩:=e4
  have ht : T.length = T'.length:=by omega
  exact ⟨e0,e1,eL,(List.append_inj e6 ht).1⟩
end

section
open Go.RowKit
theorem sameO_refl (i k : Int) (L : List Int) (t : ByteArray) : sameO i k L t i k L t = true:=by simp [sameO,sameB]
attribute [local go_sem ↓] Go.wp_at_zero Go.wp_at_succ
end

section
open Go.RowKit
theorem nums_append (a b : ByteArray) : nums (a ++ b) = nums a ++ nums b:=by
  simp only [nums,ByteArray.data_append,Array.toList_append,List.map_append]
theorem nums_strOf {N : List Int} (h : ∀ x ∈ N,0 ≤ x ∧ x ≤ 255) : nums (strOfNums N) = N:=by
  unfold nums
  rw [strOfNums_data,List.map_map]
  conv=>rhs;rw [← List.map_id N]
  refine List.map_congr_left fun x hx=>?_
  have:=h x hx
  simp only [Function.comp,id]
  rw [UInt8.toNat_ofNat']
  omega
theorem nums_inj {a b : ByteArray} (h : nums a = nums b) : a = b:=by
  rw [← strOf_nums a,← strOf_nums b,h]
theorem enc_nums {id kind : Int} {L : List Int} {t : ByteArray} (h : checkE id kind L t.size = 0) : nums (strOfNums (encNums id kind L t.size) ++ t) = encN id kind L (nums t):=by
  obtain ⟨h1,h2,h3,h4,h5,_⟩:=checkE_zero h
  rw [nums_append,nums_strOf]
  · simp [encNums,encN,nums_len]
  · intro x hx
    simp only [encNums,List.mem_append,List.mem_cons,List.not_mem_nil,or_false] at hx
    rcases hx with (((rfl | rfl | rfl) | hx) | rfl)
    · omega
    · omega
    · omega
    · have:=linksE_mem L 0 0 h5 x hx;omega
    · omega
end

section
open Go.ChangeShapes Go.WideShapes Go.ChangeAt Go.RowKit Go.Joins
theorem Tryz.own : ownKnob Tryz.prog.godebug = none:=by kernel_rfl
theorem Tryz.laidOut : laidOutB Tryz.prog = true:=by kernel_rfl
theorem Tryz.cells3 : Tryz.prog.cellsOf 3 = 1:=by kernel_rfl
theorem Tryz.cells58 : Tryz.prog.cellsOf 58 = 4:=by kernel_rfl
theorem lt_of_cell {w : World} {a : Addr} {v : Value} (h : w.cell? a = some v) : a.block < w.heap.size:=by
  rcases Nat.lt_or_ge a.block w.heap.size with h1 | h1
  · exact h1
  · simp [World.cell?,Array.getElem?_eq_none h1] at h
end

section
open Go.RowKit
theorem run_append_none (w : World) (ty : TypeId) (n cap0 : Nat) (g : Option Addr) (ad : Option Addr) (c : Nat) (hg : g = none → n = 0 ∧ cap0 = 0) (hn : n ≤ cap0) :
    (Builtin.append_ #[45,45] ty #[.slice g n cap0,.slice ad 0 c]).run Tryz.prog w = .ok (.slice g n cap0) w:=by
  obtain ⟨i0,hi,hz0,hz1,hz2⟩:=info_parts Tryz.info3
  cases g with
  | none =>
    obtain ⟨rfl,rfl⟩:=hg rfl
    cases ad <;> simp [Builtin.append_,run_underlying Tryz.underlying45,sizeOf,typeInfo,hi,Builtin.lenOf,Builtin.firstCells,loadCells,loadCellsFrom]
  | some g =>
    cases ad <;> simp [Builtin.append_,run_underlying Tryz.underlying45,sizeOf,typeInfo,hi,Builtin.lenOf,Builtin.firstCells,loadCells,loadCellsFrom,hn,storeCells]
theorem run_append_ints (w : World) (ty : TypeId) (base n : Nat) (v : Value) (xs : List Int) (hown : w.ownsRow base 3 1 v n (xs.map (Value.int .i64)))
    (ad : Option Addr) (m c : Nat) (L : List Int) (hm : L.length = m) (hh : Holds w ad L) (hn : n + m ≤ 1000) (hbase : base ≤ w.heap.size) :
    ∃ g' N cap' w',N = n + m ∧ (Builtin.append_ #[45,45] ty #[v,.slice ad m c]).run Tryz.prog w = .ok (.slice g' N cap') w' ∧
      w'.ownsRow base 3 1 (.slice g' N cap') N ((xs ++ L).map (Value.int .i64)) ∧ w.grownBy w' v.ownBlock:=by
  obtain ⟨i0,hi,hz0,hz1,hz2⟩:=info_parts Tryz.info3
  by_cases h0 : m = 0
  · subst h0
    have hL : L = []:=List.eq_nil_of_length_eq_zero hm
    subst hL
    have hgr : w.grownBy w v.ownBlock:=⟨rfl,rfl,rfl,Nat.le_refl _,fun _ _ _=>rfl⟩
    rcases hown.2 with ⟨rfl,rfl⟩ | ⟨g,cap,cur,rfl,hb,hg,hnc,hcm,hcs,htk⟩
    · exact ⟨none,0,0,w,rfl,run_append_none w ty 0 0 none ad c (by simp) (Nat.le_refl _),by simpa using hown,hgr⟩
    · exact ⟨_,n,cap,w,rfl,run_append_none w ty n cap _ ad c (by simp) hnc,by simpa using hown,hgr⟩
  · have hlen : 0 < L.length:=by omega
    obtain ⟨b,off,rfl,hb,hc⟩:=hh 0 hlen
    obtain ⟨g,cap,w',hr,h1,h2,_,_⟩:=run_append_lies w 45 ty base 3 i0 (.int .i64 0) 1 8 Tryz.underlying45 hi hz0 hz1 hz2 rfl (by decide) v n _ hown ⟨b,off,none⟩ m c (L.map (Value.int .i64)) (by simp [hm])
      (fun j u hj=>by
        have hj' : j < L.length:=by
          rcases Nat.lt_or_ge j L.length with h | h
          · exact h
          · simp [List.getElem?_eq_none (show (L.map (Value.int .i64)).length ≤ j by simpa using h)] at hj
        have hadd : (⟨b,off,none⟩ : Addr).add j = ⟨b,off + j,none⟩:=by unfold Addr.add;split <;> simp_all
        rw [hadd,hc j hj']
        simp [List.getElem?_eq_getElem hj'] at hj
        subst hj
        simp [List.getElem?_eq_getElem hj'])
      (fun u hu=>by simp at hu;obtain ⟨x,_,rfl⟩:=hu;rfl) (by omega) (by unfold maxLen;omega) (by omega) hbase _ rfl
    exact ⟨_,n + m,cap,w',rfl,hr,by simpa using h1,h2⟩
end
end Go.Proofs.YtehmlpkapjdhkaaGreatDoor
