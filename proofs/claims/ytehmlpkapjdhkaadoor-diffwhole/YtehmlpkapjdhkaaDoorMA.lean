import Derived.Test.YtehmlpkapjdhkaaDoorRows
import Derived.WalkKit
import Derived.WalkSpells
import Derived.WalkLawsBesides
import Derived.Deep.QuietTactic
import Derived.BigQuiet
import Derived.Deep.AppendLies
import Derived.Laws.BytesArg
import Derived.Defers
import Derived.Recover
import Derived.Deep.RegionWith
import Derived.Deep.DrawnRows
import Derived.ProofKit
import Derived.OpenShut
import Derived.Lib.SmallJoins
import Derived.Deep.RegionHeld
namespace Go.Proofs.YtehmlpkapjdhkaaDoor
section
open Go.RowKit

def Holds (w : World) (a : Option Addr) (L : List Int) : Prop :=
  ∀ i, i < L.length → ∃ b off, a = some ⟨b, off, none⟩ ∧ b < w.heap.size ∧ ∀ i, i < L.length → w.cell? ⟨b, off + i, none⟩ = some (.int .i64 (L.getD i 0))

def sameB (A B : List Int) : Bool := decide (A = B)
def betwB (n lo hi : Int) : Bool := decide (lo ≤ n ∧ n ≤ hi)

theorem ret_bool {a b : Bool} (h : a = b) : Ending.returned (.bool a) = .returned (.bool b) := by rw [h]
theorem sameB_ne {A B : List Int} {k : Nat} {hlt : k < A.length} (h : (A[k] != B[k]?.getD 0) = true) : sameB A B = false := by
  simp only [sameB, decide_eq_false_iff_not]
  intro e
  subst e
  simp [hlt] at h
theorem sameB_step {A B : List Int} {k : Nat} (hl : A.length = B.length) (ht : A.take k = B.take k) (hlt : k < A.length) (h : (A[k] != B[k]?.getD 0) = false) : A.take (k + 1) = B.take (k + 1) := by
  have hb : k < B.length := by omega
  rw [List.take_succ_eq_append_getElem hlt, List.take_succ_eq_append_getElem hb, ht]
  simp [hb] at h
  rw [h]
theorem sameB_end {A B : List Int} {k : Nat} (hk : k ≤ A.length) (hlt : ¬ k < A.length) (hl : A.length = B.length) (ht : A.take k = B.take k) : sameB A B = true := by
  have e : k = A.length := by omega
  subst e
  rw [List.take_length, hl, List.take_length] at ht
  simp [sameB, ht]

set_option maxHeartbeats 400000 in
theorem sameInts_any (a1 : Option Addr) (c1 : Nat) (A : List Int) (a2 : Option Addr) (c2 : Nat) (B : List Int) (w : World)
    (hA : Holds w a1 A) (hB : Holds w a2 B) (lA : A.length ≤ 9223372036854775807) :
    Calls Tryd.prog 35 #[.slice a1 A.length c1, .slice a2 B.length c2] w fun e w' => e = .returned (.bool (sameB A B)) ∧ ∃ n, w' = w.drewN n := by
  by_cases hl : A.length = B.length
  · have hd : ((A.length : Int) != (B.length : Int)) = false := by simp [hl]
    have HL : Hid (A.length = B.length) := hl
    clear hl
    go_enter Tryd.func35, Tryd.ntmps35
    go_wp2
    go_loopw [5] (fun i wr => ∃ k : Nat, i = .int .i64 k ∧ k ≤ A.length ∧ A.take k = B.take k ∧ ∃ n, wr = w.drewN n) (fun i _ => A.length - (intOf i).toNat)
    case atStart => exact ⟨0, rfl, Nat.zero_le _, rfl, 0, rfl⟩
    case round =>
      obtain ⟨k, rfl, hk, hkt, n, rfl⟩ := hrel
      by_cases hlt : k < A.length
      · obtain ⟨b1, o1, rfl, hb1, hc1⟩ := hA k hlt
        obtain ⟨b2, o2, rfl, hb2, hc2⟩ := hB k (by rw [← HL.out]; exact hlt)
        have hlt2 : (k : Int) < (B.length : Int) := by have := HL.out; omega
        have hk1 := hc1 k hlt
        have hk2 := hc2 k (by omega)
        have HT : Hid (A.take k = B.take k) := hkt
        clear hkt hc1 hc2
        have hk1' : ∀ m, (w.drewN m).cell? ⟨b1, o1 + k, none⟩ = some (.int .i64 A[k]) := fun m => by simpa [hlt] using hk1
        have hk2' : ∀ m, (w.drewN m).cell? ⟨b2, o2 + k, none⟩ = some (.int .i64 (B.getD k 0)) := fun m => by simpa using hk2
        clear hk1 hk2
        go_wp2
        go_quiet (fail)
        go_wp2
        · go_ret
          exact ⟨ret_bool (sameB_ne ‹_›).symm, n + nq, by simp⟩
        · go_roundw
          case rel => exact ⟨k + 1, by go_num, by omega, sameB_step HL.out HT.out hlt ‹_›, _, rfl⟩
          case measure => simp [intOf]; omega
      · go_wp2
        go_ret
        exact ⟨ret_bool (sameB_end hk hlt HL.out hkt).symm, _, rfl⟩
  · have hd : ((A.length : Int) != (B.length : Int)) = true := by simp; omega
    go_enter Tryd.func35, Tryd.ntmps35
    go_wp2
    go_ret
    exact ⟨by have : ¬ A = B := fun h => hl (by rw [h]); simp [sameB, this], 0, rfl⟩
end

section
open Go.RowKit

theorem Holds.below {w w' : World} {a : Option Addr} {L : List Int} (h : Holds w a L) (hb : Below w.heap.size w w') : Holds w' a L := by
  intro i hi
  obtain ⟨b, off, rfl, hlt, hc⟩ := h i hi
  exact ⟨b, off, rfl, Nat.lt_of_lt_of_le hlt hb.size, fun j hj => (hb.cell (p := ⟨b, off + j, none⟩) hlt).trans (hc j hj)⟩

theorem below_drewN {B : Nat} {a w : World} (h : Below B a w) (n : Nat) : Below B a (w.drewN n) := by
  induction n with
  | zero => exact h
  | succ n ih => exact ih.drew

theorem below_alloc2 (w : World) (o o' : Obj) : Below w.heap.size w ((w.alloc o).alloc o') := ((Below.refl _ _).alloc (Nat.le_refl _) o).alloc (by simp) o'
theorem below_alloc (w : World) (o : Obj) : Below w.heap.size w (w.alloc o) := (Below.refl _ _).alloc (Nat.le_refl _) o

def sameO (i1 k1 : Int) (L1 : List Int) (t1 : ByteArray) (i2 k2 : Int) (L2 : List Int) (t2 : ByteArray) : Bool :=
  decide (i1 = i2) && decide (k1 = k2) && decide (t1.toList = t2.toList) && sameB L1 L2

set_option maxHeartbeats 400000 in
theorem sameObject_any (i1 k1 : Int) (a1 : Option Addr) (c1 : Nat) (L1 : List Int) (t1 : ByteArray) (i2 k2 : Int) (a2 : Option Addr) (c2 : Nat) (L2 : List Int) (t2 : ByteArray) (w : World)
    (h1 : Holds w a1 L1) (h2 : Holds w a2 L2) (l1 : L1.length ≤ 9223372036854775807) :
    Calls Tryd.prog 21 #[.agg #[.int .i64 i1, .int .i64 k1, .slice a1 L1.length c1, .string t1], .agg #[.int .i64 i2, .int .i64 k2, .slice a2 L2.length c2, .string t2]] w
      fun e w' => e = .returned (.bool (sameO i1 k1 L1 t1 i2 k2 L2 t2)) ∧ Below w.heap.size w w' := by
  go_enter Tryd.func21, Tryd.ntmps21
  go_wp2_with fail
  · refine (sameInts_any a1 c1 L1 a2 c2 L2 _ (h1.below (below_alloc2 _ _ _)) (h2.below (below_alloc2 _ _ _)) l1).mono ?_
    rintro e w' ⟨rfl, n, rfl⟩
    go_wp2
    go_ret
    exact ⟨ret_bool (by simp [sameO, *]), below_drewN (below_alloc2 _ _ _) n⟩
  all_goals go_ret
  all_goals exact ⟨ret_bool (by simp [sameO, *]), below_alloc2 _ _ _⟩

def linksE (id kind : Int) : Nat → Int → List Int → Int
  | _, _, [] => 0
  | i, last, x :: xs => if x < 1 ∨ id ≤ x then 3 else if x ≤ last then 4 else linksE id kind (i + 1) (if kind = 3 ∧ i = 0 then last else x) xs

theorem ret_int {k : IntKind} {a b : Int} (h : a = b) : Ending.returned (.int k a) = .returned (.int k b) := by rw [h]
theorem drop_at {L : List Int} {k : Nat} (h : k < L.length) : L.drop k = L[k] :: L.drop (k + 1) := List.drop_eq_getElem_cons h
theorem lk_range {id kind : Int} {L : List Int} {k : Nat} {last r : Int} (hlt : k < L.length) (H : r = linksE id kind k last (L.drop k)) (h : L[k] < 1 ∨ id ≤ L[k]) : r = 3 := by
  rw [H, drop_at hlt, linksE, if_pos h]
theorem lk_state {id kind : Int} {L : List Int} {k : Nat} {last r : Int} (hlt : k < L.length) (H : r = linksE id kind k last (L.drop k)) (h : 1 ≤ L[k] ∧ L[k] < id) (h2 : L[k] ≤ last) : r = 4 := by
  rw [H, drop_at hlt, linksE, if_neg (by omega), if_pos h2]
theorem lk_next {id kind : Int} {L : List Int} {k : Nat} {last r : Int} (hlt : k < L.length) (H : r = linksE id kind k last (L.drop k)) (h : 1 ≤ L[k] ∧ L[k] < id) (h2 : last < L[k]) (h3 : ¬ (kind = 3 ∧ k = 0)) : r = linksE id kind (k + 1) L[k] (L.drop (k + 1)) := by
  rw [H, drop_at hlt, linksE, if_neg (by omega), if_neg (by omega), if_neg h3]
theorem lk_first {id : Int} {L : List Int} {k : Nat} {last r : Int} (hlt : k < L.length) (H : r = linksE id 3 k last (L.drop k)) (h : 1 ≤ L[k] ∧ L[k] < id) (h2 : last < L[k]) (h3 : k = 0) : r = linksE id 3 (k + 1) last (L.drop (k + 1)) := by
  rw [H, drop_at hlt, linksE, if_neg (by omega), if_neg (by omega), if_pos ⟨rfl, h3⟩]
theorem lk_end {id kind : Int} {L : List Int} {k : Nat} {last r : Int} (hk : k ≤ L.length) (hlt : ¬ k < L.length) (H : r = linksE id kind k last (L.drop k)) : r = 0 := by
  rw [H, List.drop_of_length_le (by omega)]; rfl

set_option maxHeartbeats 800000 in
theorem checkLinks_any (id kind : Int) (a : Option Addr) (c : Nat) (L : List Int) (t : ByteArray) (w : World)
    (h : Holds w a L) (l : L.length ≤ 9223372036854775807) :
    Calls Tryd.prog 30 #[.agg #[.int .i64 id, .int .i64 kind, .slice a L.length c, .string t]] w
      fun e w' => e = .returned (.int .i64 (linksE id kind 0 0 L)) ∧ Below w.heap.size w w' := by
  have h' := h.below (below_alloc w (.cells #[.int .i64 id, .int .i64 kind, .slice a L.length c, .string t] 31))
  by_cases hk3 : kind = 3
  · subst hk3
    go_enter Tryd.func30, Tryd.ntmps30
    go_wp2
    go_loop [3, 9] (fun z i => ∃ (k : Nat) (last : Int), i = .int .i64 k ∧ z = .int .i64 last ∧ k ≤ L.length ∧ Hid (linksE id 3 0 0 L = linksE id 3 k last (L.drop k))) (fun _ i => L.length - (intOf i).toNat)
    case atStart => exact ⟨0, 0, rfl, rfl, Nat.zero_le _, rfl⟩
    case round =>
      obtain ⟨k, last, rfl, rfl, hk, H⟩ := hrel
      by_cases hlt : k < L.length
      · obtain ⟨b1, o1, rfl, hb1, hc1⟩ := h' k hlt
        have hk1 := hc1 k hlt
        clear hc1
        by_cases h0 : (0 : Int) < (k : Int)
        · go_wp2
          · go_ret
            exact ⟨ret_int (lk_range hlt H.out ‹_›).symm, below_alloc _ _⟩
          · go_ret
            exact ⟨ret_int (lk_state hlt H.out ‹_› ‹_›).symm, below_alloc _ _⟩
          · go_round
            case rel => exact ⟨k + 1, _, by go_num, rfl, by omega, lk_next hlt H.out ‹_› ‹_› (by omega)⟩
            case measure => simp [intOf]; omega
          · go_ret
            exact ⟨ret_int (lk_range hlt H.out (Or.inl ‹_›)).symm, below_alloc _ _⟩
        · have hk0 : k = 0 := by omega
          have HK : Hid (k = 0) := hk0
          clear hk0
          go_wp2
          · go_ret
            exact ⟨ret_int (lk_range hlt H.out ‹_›).symm, below_alloc _ _⟩
          · go_ret
            exact ⟨ret_int (lk_state hlt H.out ‹_› ‹_›).symm, below_alloc _ _⟩
          · go_round
            case rel => exact ⟨k + 1, _, by go_num, rfl, by omega, lk_first hlt H.out ‹_› ‹_› HK.out⟩
            case measure => simp [intOf]; omega
          · go_ret
            exact ⟨ret_int (lk_range hlt H.out (Or.inl ‹_›)).symm, below_alloc _ _⟩
      · go_wp2
        go_ret
        exact ⟨ret_int (lk_end hk hlt H.out).symm, below_alloc _ _⟩
  · have hkb : (kind != 3) = true := by simpa using hk3
    go_enter Tryd.func30, Tryd.ntmps30
    go_wp2
    go_loop [3, 9] (fun z i => ∃ (k : Nat) (last : Int), i = .int .i64 k ∧ z = .int .i64 last ∧ k ≤ L.length ∧ Hid (linksE id kind 0 0 L = linksE id kind k last (L.drop k))) (fun _ i => L.length - (intOf i).toNat)
    case atStart => exact ⟨0, 0, rfl, rfl, Nat.zero_le _, rfl⟩
    case round =>
      obtain ⟨k, last, rfl, rfl, hk, H⟩ := hrel
      by_cases hlt : k < L.length
      · obtain ⟨b1, o1, rfl, hb1, hc1⟩ := h' k hlt
        have hk1 := hc1 k hlt
        clear hc1
        go_wp2
        · go_ret
          exact ⟨ret_int (lk_range hlt H.out ‹_›).symm, below_alloc _ _⟩
        · go_ret
          exact ⟨ret_int (lk_state hlt H.out ‹_› ‹_›).symm, below_alloc _ _⟩
        · go_round
          case rel => exact ⟨k + 1, _, by go_num, rfl, by omega, lk_next hlt H.out ‹_› ‹_› (by omega)⟩
          case measure => simp [intOf]; omega
        · go_ret
          exact ⟨ret_int (lk_range hlt H.out (Or.inl ‹_›)).symm, below_alloc _ _⟩
      · go_wp2
        go_ret
        exact ⟨ret_int (lk_end hk hlt H.out).symm, below_alloc _ _⟩
end

section
open Go.RowKit

theorem bcell {W w1 : World} (hb : Below W.heap.size W w1) : (∀ b o, b < W.heap.size → w1.cell? ⟨b, o, none⟩ = W.cell? ⟨b, o, none⟩) ∧ (∀ b o, b < W.heap.size → w1.frozen? ⟨b, o, none⟩ = W.frozen? ⟨b, o, none⟩) :=
  ⟨fun b o h => hb.cell (p := ⟨b, o, none⟩) h, fun b o h => hb.frozen (p := ⟨b, o, none⟩) h⟩

def checkE (id kind : Int) (L : List Int) (n : Nat) : Int :=
  if id < 1 ∨ 99 < id then 3 else if kind < 1 ∨ 3 < kind then 7 else if 4 < L.length ∨ 8 < n then 2
  else if linksE id kind 0 0 L ≠ 0 then linksE id kind 0 0 L
  else if (kind = 1 ∧ 0 < L.length) ∨ (kind = 3 ∧ L.length = 0) then 1 else 0

theorem ck_range {id kind : Int} {L : List Int} {n : Nat} (h : id < 1 ∨ 99 < id) : checkE id kind L n = 3 := by rw [checkE, if_pos h]
theorem ck_kind {id kind : Int} {L : List Int} {n : Nat} (h0 : 1 ≤ id ∧ id ≤ 99) (h : kind < 1 ∨ 3 < kind) : checkE id kind L n = 7 := by rw [checkE, if_neg (by omega), if_pos h]
theorem ck_many {id kind : Int} {L : List Int} {n : Nat} (h0 : 1 ≤ id ∧ id ≤ 99) (h1 : 1 ≤ kind ∧ kind ≤ 3) (h : (4 : Int) < L.length ∨ (8 : Int) < n) : checkE id kind L n = 2 := by rw [checkE, if_neg (by omega), if_neg (by omega), if_pos (by omega)]
theorem ck_links {id kind : Int} {L : List Int} {n : Nat} (h0 : 1 ≤ id ∧ id ≤ 99) (h1 : 1 ≤ kind ∧ kind ≤ 3) (h : (L.length : Int) ≤ 4 ∧ (n : Int) ≤ 8) (h2 : linksE id kind 0 0 L ≠ 0) : checkE id kind L n = linksE id kind 0 0 L := by rw [checkE, if_neg (by omega), if_neg (by omega), if_neg (by omega), if_pos h2]
theorem ck_form {id kind : Int} {L : List Int} {n : Nat} (h0 : 1 ≤ id ∧ id ≤ 99) (h1 : 1 ≤ kind ∧ kind ≤ 3) (h : (L.length : Int) ≤ 4 ∧ (n : Int) ≤ 8) (h2 : linksE id kind 0 0 L = 0) (h3 : (kind = 1 ∧ 0 < L.length) ∨ (kind = 3 ∧ L.length = 0)) : checkE id kind L n = 1 := by rw [checkE, if_neg (by omega), if_neg (by omega), if_neg (by omega), if_neg (by omega), if_pos h3]
theorem ck_ok {id kind : Int} {L : List Int} {n : Nat} (h0 : 1 ≤ id ∧ id ≤ 99) (h1 : 1 ≤ kind ∧ kind ≤ 3) (h : (L.length : Int) ≤ 4 ∧ (n : Int) ≤ 8) (h2 : linksE id kind 0 0 L = 0) (h3 : ¬ ((kind = 1 ∧ 0 < L.length) ∨ (kind = 3 ∧ L.length = 0))) : checkE id kind L n = 0 := by rw [checkE, if_neg (by omega), if_neg (by omega), if_neg (by omega), if_neg (by omega), if_neg h3]

set_option maxHeartbeats 800000 in
theorem check_any (id kind : Int) (a : Option Addr) (c : Nat) (L : List Int) (t : ByteArray) (w : World)
    (h : Holds w a L) (l : L.length ≤ 9223372036854775807) :
    Calls Tryd.prog 18 #[.agg #[.int .i64 id, .int .i64 kind, .slice a L.length c, .string t]] w
      fun e w' => e = .returned (.int .i64 (checkE id kind L t.size)) ∧ Below w.heap.size w w' := by
  have h' := h.below (below_alloc w (.cells #[.int .i64 id, .int .i64 kind, .slice a L.length c, .string t] 31))
  go_enter Tryd.func18, Tryd.ntmps18
  go_wp2_with fail
  · go_ret
    exact ⟨ret_int (ck_range ‹_›).symm, below_alloc _ _⟩
  · go_ret
    exact ⟨ret_int (ck_kind ‹_› ‹_›).symm, below_alloc _ _⟩
  · go_ret
    exact ⟨ret_int (ck_many ‹1 ≤ id ∧ id ≤ 99› ‹1 ≤ kind ∧ kind ≤ 3› ‹_›).symm, below_alloc _ _⟩
  · have H0 : 1 ≤ id ∧ id ≤ 99 := ‹_›
    have H1 : 1 ≤ kind ∧ kind ≤ 3 := ‹_›
    have H2 : (L.length : Int) ≤ 4 ∧ (t.size : Int) ≤ 8 := ‹_›
    refine (checkLinks_any id kind a c L t _ h' l).mono ?_
    rintro e w1 ⟨rfl, hb⟩
    have hB := (below_alloc _ _).trans (hb.mono (by simp))
    by_cases hz : linksE id kind 0 0 L = 0
    · rw [hz]
      have HZ : Hid (linksE id kind 0 0 L = 0) := hz
      clear hz
      obtain ⟨hc, hf⟩ := bcell hb
      by_cases k1 : kind = 1
      · subst k1
        cases L with
        | nil =>
          go_wp2
          go_ret
          exact ⟨ret_int (ck_ok H0 H1 H2 HZ.out (by simp)).symm, hB⟩
        | cons x xs =>
          go_wp2
          go_ret
          exact ⟨ret_int (ck_form H0 H1 H2 HZ.out (by simp)).symm, hB⟩
      · by_cases k3 : kind = 3
        · subst k3
          cases L with
          | nil =>
            go_wp2
            go_ret
            exact ⟨ret_int (ck_form H0 H1 H2 HZ.out (by simp)).symm, hB⟩
          | cons x xs =>
            have hne : (((x :: xs).length : Int) == 0) = false := by simp; omega
            go_wp2
            go_ret
            exact ⟨ret_int (ck_ok H0 H1 H2 HZ.out (by simp)).symm, hB⟩
        · have e1 : (kind == 1) = false := by simpa using k1
          have e3 : (kind == 3) = false := by simpa using k3
          go_wp2
          go_ret
          exact ⟨ret_int (ck_ok H0 H1 H2 HZ.out (by omega)).symm, hB⟩
    · have hz' : (linksE id kind 0 0 L != 0) = true := by simpa using hz
      go_wp2
      go_ret
      exact ⟨ret_int (ck_links H0 H1 H2 hz).symm, hB⟩
  · go_ret
    exact ⟨ret_int (ck_many ‹1 ≤ id ∧ id ≤ 99› ‹1 ≤ kind ∧ kind ≤ 3› (Or.inl ‹_›)).symm, below_alloc _ _⟩
  · go_ret
    exact ⟨ret_int (ck_kind ‹_› (Or.inl ‹_›)).symm, below_alloc _ _⟩
  · go_ret
    exact ⟨ret_int (ck_range (Or.inl ‹_›)).symm, below_alloc _ _⟩
end

section
open Go.RowKit

theorem Tryd.info5 : (Tryd.prog.info? 5).map (fun i => (i.zero, i.size, i.bytes)) = some (some (.int .u8 0), 1, 1) := by kernel_rfl
theorem Tryd.info3 : (Tryd.prog.info? 3).map (fun i => (i.zero, i.size, i.bytes)) = some (some (.int .i64 0), 1, 8) := by kernel_rfl

/-- What stays while block p and one row are written. -/
structure Stays (p : Nat) (row : Option Nat) (w w' : World) : Prop where
  os : w'.os = w.os
  tape : w'.tape = w.tape
  output : w'.output = w.output
  size : w.heap.size ≤ w'.heap.size
  block : ∀ k, k < w.heap.size → k ≠ p → some k ≠ row → w'.heap[k]? = w.heap[k]?

theorem Stays.refl (p : Nat) (row : Option Nat) (w : World) : Stays p row w w := ⟨rfl, rfl, rfl, Nat.le_refl _, fun _ _ _ _ => rfl⟩

/-- one round: a new block, an append onto the row, a store into p. -/
theorem Stays.round {p : Nat} {row r : Option Nat} {w wr w1 : World} {o : Obj} {u : Value} (h : Stays p row w wr) (hg : (wr.alloc o).grownBy w1 r) (hr : r = row ∨ ∃ g, r = some g ∧ w.heap.size ≤ g) :
    Stays p row w (w1.setCell ⟨p, 0, none⟩ u) := by
  refine ⟨hg.os.trans h.os, hg.tape.trans h.tape, hg.output.trans h.output, ?_, fun k hk hp hrow => ?_⟩
  · have := hg.size; have := h.size; simp [World.setCell] at *; omega
  · have hs := h.size
    rw [Below.heap_setCell _ _ _ _ hp, hg.block k (by simp; omega) (by
      rcases hr with rfl | ⟨g, rfl, hge⟩
      · exact hrow
      · intro e; have : k = g := by simpa using e
        omega), Below.heap_alloc _ _ _ (by omega)]
    exact h.block k hk hp hrow

theorem Stays.below {p B : Nat} {row : Option Nat} {w w' : World} (h : Stays p row w w') (hB : B ≤ w.heap.size) (hp : B ≤ p) (hr : ∀ k, row = some k → B ≤ k) : Below B w w' :=
  ⟨h.os, h.tape, h.output, h.size, fun k hk => h.block k (by omega) (by omega) (fun e => by have := hr k e.symm; omega)⟩

theorem u8_same {x : Int} (h : 0 ≤ x ∧ x ≤ 255) : IntKind.u8.wrap x = x := by
  simp [IntKind.wrap, IntKind.bits, IntKind.signed]; omega

theorem put_round {p base n k : Nat} {v vr v' u : Value} {xs : List Value} {N : List Int} {w wr w1 : World} {o : Obj} {g : Nat} (hlt : k < N.length)
    (hst : Stays p v.ownBlock w wr) (hat : vr.ownBlock = v.ownBlock ∨ ∃ g, vr.ownBlock = some g ∧ w.heap.size ≤ g)
    (hpb : p < base) (hcp : w1.cell? ⟨p, 0, none⟩ = some vr) (hfp : w1.frozen? ⟨p, 0, none⟩ = false)
    (hown' : w1.ownsRow base 5 1 v' (n + k + 1) (xs ++ (N.take k).map (Value.int .u8) ++ [.int .u8 N[k]])) (hgrow : (wr.alloc o).grownBy w1 vr.ownBlock) (hat' : vr.ownBlock = some g ∨ g = wr.heap.size + 1) (hvg : v'.ownBlock = some g) :
    (w1.setCell ⟨p, 0, none⟩ u).cell? ⟨p, 0, none⟩ = some u ∧ (w1.setCell ⟨p, 0, none⟩ u).frozen? ⟨p, 0, none⟩ = false ∧
      (w1.setCell ⟨p, 0, none⟩ u).ownsRow base 5 1 v' (n + (k + 1)) (xs ++ (N.take (k + 1)).map (Value.int .u8)) ∧ Stays p v.ownBlock w (w1.setCell ⟨p, 0, none⟩ u) ∧ (v'.ownBlock = v.ownBlock ∨ ∃ g, v'.ownBlock = some g ∧ w.heap.size ≤ g) := by
  refine ⟨World.cell?_setCell_same _ _ _ hcp, (World.frozen?_setCell _ _ _ _).trans hfp, ?_, hst.round hgrow hat, ?_⟩
  · have e : xs ++ (N.take (k + 1)).map (Value.int .u8) = xs ++ (N.take k).map (Value.int .u8) ++ [.int .u8 N[k]] := by
      rw [List.take_succ_eq_append_getElem hlt]; simp only [List.map_append, List.map_cons, List.map_nil, List.append_assoc]
    rw [e, ← Nat.add_assoc]
    exact ownsRow_setCell_below hown' hpb _
  · have := hst.size
    rcases hat' with e | e
    · rw [hvg, ← e]; exact hat
    · exact Or.inr ⟨_, hvg, by omega⟩
end

section
open Go.RowKit

theorem linksE_mem {id kind : Int} : ∀ (L : List Int) (i : Nat) (last : Int), linksE id kind i last L = 0 → ∀ x ∈ L, 1 ≤ x ∧ x < id := by
  intro L
  induction L with
  | nil => intro _ _ _ x hx; cases hx
  | cons y ys ih =>
    intro i last h x hx
    rw [linksE] at h
    split at h
    · cases h
    · split at h
      · cases h
      · rcases List.mem_cons.1 hx with rfl | hx
        · omega
        · exact ih _ _ h x hx

theorem checkE_zero {id kind : Int} {L : List Int} {n : Nat} (h : checkE id kind L n = 0) :
    (1 ≤ id ∧ id ≤ 99) ∧ (1 ≤ kind ∧ kind ≤ 3) ∧ L.length ≤ 4 ∧ n ≤ 8 ∧ linksE id kind 0 0 L = 0 ∧ ¬ ((kind = 1 ∧ 0 < L.length) ∨ (kind = 3 ∧ L.length = 0)) := by
  unfold checkE at h
  split at h
  · cases h
  split at h
  · cases h
  split at h
  · cases h
  split at h
  · omega
  split at h
  · cases h
  refine ⟨by omega, by omega, by omega, by omega, by omega, by assumption⟩

def encNums (id kind : Int) (L : List Int) (n : Nat) : List Int := [id, kind, (L.length : Int)] ++ L ++ [(n : Int)]

theorem holds_new (w : World) (cs : List Int) (e : Nat) (W : World) (hW : W = w.alloc (.cells (cs.map (Value.int .i64)).toArray e)) : Holds W (some ⟨w.heap.size, 0, none⟩) cs := by
  subst hW
  intro i hi
  refine ⟨w.heap.size, 0, rfl, by simp, fun j hj => ?_⟩
  rw [World.cell?_alloc_at _ _ _ _ rfl]
  simp [List.getElem?_eq_getElem hj]

theorem boxed {w w1 : World} {x0 x1 x2 x3 : Value} {e : Nat} (hb : Below (w.alloc (.cells #[x0, x1, x2, x3] e)).heap.size (w.alloc (.cells #[x0, x1, x2, x3] e)) w1) :
    w1.cell? ⟨w.heap.size, 0, none⟩ = some x0 ∧ w1.cell? ⟨w.heap.size, 1, none⟩ = some x1 ∧ w1.cell? ⟨w.heap.size, 2, none⟩ = some x2 ∧ w1.cell? ⟨w.heap.size, 3, none⟩ = some x3 ∧ w.heap.size < w1.heap.size := by
  have hs := hb.size
  refine ⟨?_, ?_, ?_, ?_, by simp at hs; omega⟩ <;>
  · rw [hb.cell (by simp), World.cell?_alloc_at _ _ _ _ rfl]; rfl

theorem put_new (w : World) (o : Obj) (cs : List Int) : Holds ((w.alloc o).alloc (.cells (cs.map (Value.int .i64)).toArray 3)) (some ⟨w.heap.size + 1, 0, none⟩) cs := by
  have := holds_new (w.alloc o) cs 3 _ rfl
  simpa using this
end

section
open Go.RowKit

def nums (s : ByteArray) : List Int := s.data.toList.map (fun b => (b.toNat : Int))
theorem nums_len (s : ByteArray) : (nums s).length = s.size := by rw [nums, List.length_map, Array.length_toList]; rfl
theorem nums_at (s : ByteArray) (k : Nat) (h : k < s.size) : (nums s)[k]? = some (s[k].toNat : Int) := by
  have h' : k < s.data.toList.length := by rw [Array.length_toList]; exact h
  simp only [nums, List.getElem?_map, List.getElem?_eq_getElem h', Option.map_some]
  rfl
theorem nums_bd (s : ByteArray) : ∀ x ∈ nums s, 0 ≤ x ∧ x ≤ 255 := by
  intro x hx
  simp only [nums, List.mem_map] at hx
  obtain ⟨b, _, rfl⟩ := hx
  have := b.toNat_lt
  omega
theorem strOf_nums (s : ByteArray) : strOfNums (nums s) = s := by
  have e : (nums s).map (fun n => UInt8.ofNat n.toNat) = s.data.toList := by
    simp [nums, Function.comp_def]
  unfold strOfNums
  rw [e]

structure Reader (p : Nat) (s : ByteArray) (k : Nat) (w : World) : Prop where
  from' : w.cell? ⟨p, 0, none⟩ = some (.string s)
  at' : w.cell? ⟨p, 1, none⟩ = some (.int .i64 k)
  thaw : w.frozen? ⟨p, 1, none⟩ = false

theorem drewN_heap (w : World) (n : Nat) : (w.drewN n).heap = w.heap := by
  induction n with
  | zero => rfl
  | succ n ih => exact ih

theorem Stays.drewN (p : Nat) (row : Option Nat) (w : World) (n : Nat) : Stays p row w (w.drewN n) := by
  have h := below_drewN (B := w.heap.size) (Below.refl w.heap.size w) n
  exact ⟨h.os, h.tape, h.output, h.size, fun k hk _ _ => h.block k hk⟩

theorem Stays.setCell {p : Nat} {row : Option Nat} {w w' : World} (h : Stays p row w w') (i : Nat) (u : Value) : Stays p row w (w'.setCell ⟨p, i, none⟩ u) :=
  ⟨h.os, h.tape, h.output, by have := h.size; simp [World.setCell]; omega, fun k hk hp hr => (Below.heap_setCell _ _ _ _ hp).trans (h.block k hk hp hr)⟩

theorem Stays.trans {p : Nat} {a b c : World} (h : Stays p none a b) (k : Stays p none b c) : Stays p none a c :=
  ⟨k.os.trans h.os, k.tape.trans h.tape, k.output.trans h.output, Nat.le_trans h.size k.size, fun i hi hp hr => (k.block i (Nat.lt_of_lt_of_le hi h.size) hp hr).trans (h.block i hi hp hr)⟩

theorem Stays.grown {p : Nat} {r : Option Nat} {w wr w1 : World} {o : Obj} (h : Stays p none w wr) (hg : (wr.alloc o).grownBy w1 r) (hr : ∀ g, r = some g → w.heap.size ≤ g) : Stays p none w w1 := by
  refine ⟨hg.os.trans h.os, hg.tape.trans h.tape, hg.output.trans h.output, ?_, fun k hk hp _ => ?_⟩
  · have := hg.size; have := h.size; simp at *; omega
  · have hs := h.size
    rw [hg.block k (by simp; omega) (fun e => by have := hr k e.symm; omega), Below.heap_alloc _ _ _ (by omega)]
    exact h.block k hk hp (by simp)

theorem Reader.step {p k : Nat} {s : ByteArray} {w : World} (h : Reader p s k w) (n : Nat) : Reader p s (k + 1) ((w.drewN n).setCell ⟨p, 1, none⟩ (.int .i64 (k + 1))) := by
  refine ⟨?_, ?_, ?_⟩
  · rw [World.cell?_setCell_other _ _ _ _ (by simp)]; simpa using h.from'
  · exact World.cell?_setCell_same _ _ _ (by simpa using h.at')
  · rw [World.frozen?_setCell]; simpa using h.thaw

theorem Reader.grown {p k : Nat} {s : ByteArray} {w w1 : World} {o : Obj} {r : Option Nat} (h : Reader p s k w) (hp : p < w.heap.size) (hg : (w.alloc o).grownBy w1 r) (hr : some p ≠ r) : Reader p s k w1 :=
  ⟨hg.cell ((World.cell?_alloc_past _ _ _ hp).trans h.from') hr, hg.cell ((World.cell?_alloc_past _ _ _ hp).trans h.at') hr, by
    rw [World.frozen?_of_block (a := ⟨p, 1, none⟩) (hg.block p (by simp; omega) hr)]
    exact (World.frozen?_alloc_past _ _ _ hp).trans h.thaw⟩
end

section
open Go.RowKit

/-- n numbers of a text from k on. -/
def part (s : ByteArray) (k n : Nat) : List Int := ((nums s).drop k).take n
theorem part_len {s : ByteArray} {k n : Nat} (h : k + n ≤ s.size) : (part s k n).length = n := by
  rw [part, List.length_take, List.length_drop, nums_len]; omega
theorem part_zero (s : ByteArray) (k : Nat) : part s k 0 = [] := by rw [part, List.take_zero]
theorem part_succ {s : ByteArray} {k n : Nat} (h : k + n < s.size) : part s k (n + 1) = part s k n ++ [(s[k + n].toNat : Int)] := by
  have h1 : n < ((nums s).drop k).length := by rw [List.length_drop, nums_len]; omega
  have h2 : ((nums s).drop k)[n] = (s[k + n].toNat : Int) := by
    have := nums_at s (k + n) h
    rw [List.getElem_drop]
    exact Option.some.inj ((List.getElem?_eq_getElem _).symm.trans this)
  rw [part, part, List.take_succ_eq_append_getElem h1, h2]
theorem part_bd (s : ByteArray) (k n : Nat) : ∀ x ∈ part s k n, 0 ≤ x ∧ x ≤ 255 := fun x hx => nums_bd s x (List.mem_of_mem_drop (List.mem_of_mem_take hx))

theorem holds_own {w : World} {base g n cap : Nat} {L : List Int} (h : w.ownsRow base 3 1 (.slice (some ⟨g, 0, none⟩) n cap) n (L.map (Value.int .i64))) (hn : L.length = n) : Holds w (some ⟨g, 0, none⟩) L := by
  intro i hi
  refine ⟨g, 0, rfl, ?_, fun j hj => ?_⟩
  · exact (h.lt g rfl).2
  · rw [Nat.zero_add, h.cellAt j (by omega)]
    simp [List.getElem?_eq_getElem hj]

theorem Stays.grownBy {p : Nat} {w w' : World} (h : Stays p none w w') : w.grownBy w' (some p) :=
  ⟨h.os, h.tape, h.output, h.size, fun k hk hr => h.block k hk (fun e => hr (by rw [e])) (by simp)⟩

theorem owns_stays {p base n : Nat} {e : TypeId} {v : Value} {xs : List Value} {w w' : World} (h : w.ownsRow base e 1 v n xs) (hs : Stays p none w w') (hp : p < base) : w'.ownsRow base e 1 v n xs :=
  h.kept hs.grownBy (Or.inr (fun ee => by have := (h.lt p ee).1; omega))

theorem own_shape {w : World} {base n : Nat} {v : Value} {L : List Int} (h : w.ownsRow base 3 1 v n (L.map (Value.int .i64))) (hn : L.length = n) : ∃ a cap, v = .slice a n cap ∧ Holds w a L ∧ ∀ b off, a = some ⟨b, off, none⟩ → base ≤ b := by
  by_cases h0 : 0 < n
  · obtain ⟨g, cap, rfl, hg, _⟩ := h.form h0
    exact ⟨_, cap, rfl, holds_own h hn, fun b off e => by cases e; exact hg⟩
  · have e0 : n = 0 := by omega
    subst e0
    rcases h.2 with ⟨rfl, _⟩ | ⟨g, cap, cur, rfl, hg, _⟩
    · exact ⟨none, 0, rfl, fun i hi => by omega, fun b off e => by cases e⟩
    · exact ⟨_, cap, rfl, fun i hi => by omega, fun b off e => by cases e; exact hg⟩
end

section
open Go.RowKit
end

section
open Go.RowKit

/-- the named results of read, in blocks B and B + 1. -/
structure Out (B : Nat) (x0 x1 x2 x3 : Value) (w : World) : Prop where
  c0 : w.cell? ⟨B, 0, none⟩ = some x0
  c1 : w.cell? ⟨B, 1, none⟩ = some x1
  c2 : w.cell? ⟨B, 2, none⟩ = some x2
  c3 : w.cell? ⟨B, 3, none⟩ = some x3
  f : ∀ i, w.frozen? ⟨B, i, none⟩ = false
  e : w.cell? ⟨B + 1, 0, none⟩ = some (.int .i64 0)
  ef : w.frozen? ⟨B + 1, 0, none⟩ = false
  lt : B + 2 < w.heap.size

theorem Out.stays {B : Nat} {x0 x1 x2 x3 : Value} {w w' : World} (h : Out B x0 x1 x2 x3 w) (hs : Stays (B + 2) none w w') : Out B x0 x1 x2 x3 w' := by
  have hl := h.lt
  have b0 := hs.block B (by omega) (by omega) (by simp)
  have b1 := hs.block (B + 1) (by omega) (by omega) (by simp)
  exact ⟨(World.cell?_of_block (a := ⟨B, 0, none⟩) b0).trans h.c0, (World.cell?_of_block (a := ⟨B, 1, none⟩) b0).trans h.c1, (World.cell?_of_block (a := ⟨B, 2, none⟩) b0).trans h.c2, (World.cell?_of_block (a := ⟨B, 3, none⟩) b0).trans h.c3,
    fun i => (World.frozen?_of_block (a := ⟨B, i, none⟩) b0).trans (h.f i), (World.cell?_of_block (a := ⟨B + 1, 0, none⟩) b1).trans h.e, (World.frozen?_of_block (a := ⟨B + 1, 0, none⟩) b1).trans h.ef, Nat.lt_of_lt_of_le hl hs.size⟩

theorem Out.set0 {B : Nat} {x0 x1 x2 x3 : Value} {w : World} (h : Out B x0 x1 x2 x3 w) (y : Value) : Out B y x1 x2 x3 (w.setCell ⟨B, 0, none⟩ y) :=
  ⟨World.cell?_setCell_same _ _ _ h.c0, (World.cell?_setCell_other _ _ _ _ (by simp)).trans h.c1, (World.cell?_setCell_other _ _ _ _ (by simp)).trans h.c2, (World.cell?_setCell_other _ _ _ _ (by simp)).trans h.c3,
    fun i => (World.frozen?_setCell _ _ _ _).trans (h.f i), (World.cell?_setCell_other _ _ _ _ (by simp)).trans h.e, (World.frozen?_setCell _ _ _ _).trans h.ef, by simpa [World.setCell] using h.lt⟩
theorem Out.set1 {B : Nat} {x0 x1 x2 x3 : Value} {w : World} (h : Out B x0 x1 x2 x3 w) (y : Value) : Out B x0 y x2 x3 (w.setCell ⟨B, 1, none⟩ y) :=
  ⟨(World.cell?_setCell_other _ _ _ _ (by simp)).trans h.c0, World.cell?_setCell_same _ _ _ h.c1, (World.cell?_setCell_other _ _ _ _ (by simp)).trans h.c2, (World.cell?_setCell_other _ _ _ _ (by simp)).trans h.c3,
    fun i => (World.frozen?_setCell _ _ _ _).trans (h.f i), (World.cell?_setCell_other _ _ _ _ (by simp)).trans h.e, (World.frozen?_setCell _ _ _ _).trans h.ef, by simpa [World.setCell] using h.lt⟩
theorem Out.set2 {B : Nat} {x0 x1 x2 x3 : Value} {w : World} (h : Out B x0 x1 x2 x3 w) (y : Value) : Out B x0 x1 y x3 (w.setCell ⟨B, 2, none⟩ y) :=
  ⟨(World.cell?_setCell_other _ _ _ _ (by simp)).trans h.c0, (World.cell?_setCell_other _ _ _ _ (by simp)).trans h.c1, World.cell?_setCell_same _ _ _ h.c2, (World.cell?_setCell_other _ _ _ _ (by simp)).trans h.c3,
    fun i => (World.frozen?_setCell _ _ _ _).trans (h.f i), (World.cell?_setCell_other _ _ _ _ (by simp)).trans h.e, (World.frozen?_setCell _ _ _ _).trans h.ef, by simpa [World.setCell] using h.lt⟩
theorem Out.set3 {B : Nat} {x0 x1 x2 x3 : Value} {w : World} (h : Out B x0 x1 x2 x3 w) (y : Value) : Out B x0 x1 x2 y (w.setCell ⟨B, 3, none⟩ y) :=
  ⟨(World.cell?_setCell_other _ _ _ _ (by simp)).trans h.c0, (World.cell?_setCell_other _ _ _ _ (by simp)).trans h.c1, (World.cell?_setCell_other _ _ _ _ (by simp)).trans h.c2, World.cell?_setCell_same _ _ _ h.c3,
    fun i => (World.frozen?_setCell _ _ _ _).trans (h.f i), (World.cell?_setCell_other _ _ _ _ (by simp)).trans h.e, (World.frozen?_setCell _ _ _ _).trans h.ef, by simpa [World.setCell] using h.lt⟩

theorem Reader.set {p k B i : Nat} {s : ByteArray} {w : World} (h : Reader p s k w) (hne : B ≠ p) (y : Value) : Reader p s k (w.setCell ⟨B, i, none⟩ y) :=
  ⟨(World.cell?_setCell_other _ _ _ _ (by intro e; cases e; exact hne rfl)).trans h.from', (World.cell?_setCell_other _ _ _ _ (by intro e; cases e; exact hne rfl)).trans h.at', (World.frozen?_setCell _ _ _ _).trans h.thaw⟩

/-- the numbers that an object is told by. -/
def encN (i k : Int) (L T : List Int) : List Int := [i, k, (L.length : Int)] ++ L ++ [(T.length : Int)] ++ T
/-- a text begins with an object's bytes. -/
def Begins (s : ByteArray) (i k : Int) (L T : List Int) : Prop := ∃ rest, nums s = encN i k L T ++ rest

theorem drop_cons {s : ByteArray} {k : Nat} (h : k < s.size) : (nums s).drop k = (s[k].toNat : Int) :: (nums s).drop (k + 1) := by
  have h1 : k < (nums s).length := by rw [nums_len]; exact h
  rw [List.drop_eq_getElem_cons h1]
  congr 1
  exact Option.some.inj ((List.getElem?_eq_getElem _).symm.trans (nums_at s k h))
theorem drop_part (s : ByteArray) (k n : Nat) : (nums s).drop k = part s k n ++ (nums s).drop (k + n) := by
  rw [part, ← List.drop_drop, List.take_append_drop]

theorem begins_read {s : ByteArray} {n m : Nat} (h : 2 < s.size) (hn : s[2].toNat = n) (h3 : 3 + n < s.size) (hm : s[3 + n].toNat = m) (h4 : 3 + n + 1 + m ≤ s.size) :
    Begins s s[0].toNat s[1].toNat (part s 3 n) (part s (3 + n + 1) m) := by
  have e0 : nums s = (s[0].toNat : Int) :: (nums s).drop 1 := drop_cons (k := 0) (by omega)
  have e1 : (nums s).drop 1 = (s[1].toNat : Int) :: (nums s).drop 2 := drop_cons (k := 1) (by omega)
  have e2 : (nums s).drop 2 = (s[2].toNat : Int) :: (nums s).drop 3 := drop_cons (k := 2) (by omega)
  have e3 := drop_part s 3 n
  have e4 := drop_cons (s := s) (k := 3 + n) (by omega)
  have e5 := drop_part s (3 + n + 1) m
  generalize (nums s).drop (3 + n + 1 + m) = rest at e5
  refine ⟨rest, ?_⟩
  rw [e0, e1, e2, e3, e4, e5]
  simp only [encN, part_len (show 3 + n ≤ s.size by omega), part_len h4]
  simp only [hn, hm, List.append_assoc, List.cons_append, List.nil_append]

theorem begins_sizes {s : ByteArray} {i k : Int} {L T : List Int} (h : Begins s i k L T) :
    4 + L.length + T.length ≤ s.size ∧ (∀ h2 : 2 < s.size, (s[2].toNat : Int) = L.length) ∧ (∀ n (_ : n = L.length) (h3 : 3 + n < s.size), (s[3 + n].toNat : Int) = T.length) := by
  obtain ⟨rest, e⟩ := h
  have hl := congrArg List.length e
  rw [nums_len] at hl
  simp [encN] at hl
  refine ⟨by omega, fun h2 => ?_, fun n hn h3 => ?_⟩
  · have := nums_at s 2 h2
    rw [e] at this
    simpa [encN] using this.symm
  · have := nums_at s (3 + n) h3
    rw [e] at this
    subst hn
    have e2 : encN i k L T ++ rest = ([i, k, (L.length : Int)] ++ L) ++ ((T.length : Int) :: (T ++ rest)) := by simp [encN]
    rw [e2, List.getElem?_append_right (by simp; omega)] at this
    have e3 : 3 + L.length - ([i, k, (L.length : Int)] ++ L).length = 0 := by simp; omega
    rw [e3] at this
    simpa using this.symm
end

section
open Go.RowKit

/-- what read leaves. -/
def ReadPost (s : ByteArray) (w : World) (e : Ending) (w' : World) : Prop :=
  Below w.heap.size w w' ∧
  ((∃ i k L T a cap, Begins s i k L T ∧ e = .returned (.tuple #[.agg #[.int .i64 i, .int .i64 k, .slice a L.length cap, .string (strOfNums T)], .int .i64 ((4 + L.length + T.length : Nat) : Int), .int .i64 0]) ∧ Holds w' a L ∧ ∀ b off, a = some ⟨b, off, none⟩ → w.heap.size ≤ b) ∨
   ((∀ i k L T, ¬ Begins s i k L T) ∧ ∃ i k a n c t, e = .returned (.tuple #[.agg #[.int .i64 i, .int .i64 k, .slice a n c, .string t], .int .i64 0, .int .i64 5])))

theorem below_start (w : World) (a b c : Obj) : Below w.heap.size w (((w.alloc a).alloc b).alloc c) := ((below_alloc2 w a b).alloc (by simp; omega) c)

theorem Out.setE {B : Nat} {x0 x1 x2 x3 : Value} {w : World} (h : Out B x0 x1 x2 x3 w) : Out B x0 x1 x2 x3 (w.setCell ⟨B + 1, 0, none⟩ (.int .i64 0)) :=
  ⟨(World.cell?_setCell_other _ _ _ _ (by simp)).trans h.c0, (World.cell?_setCell_other _ _ _ _ (by simp)).trans h.c1, (World.cell?_setCell_other _ _ _ _ (by simp)).trans h.c2, (World.cell?_setCell_other _ _ _ _ (by simp)).trans h.c3,
    fun i => (World.frozen?_setCell _ _ _ _).trans (h.f i), World.cell?_setCell_same _ _ _ h.e, (World.frozen?_setCell _ _ _ _).trans h.ef, by simpa [World.setCell] using h.lt⟩
theorem Out.drew {B : Nat} {x0 x1 x2 x3 : Value} {w : World} (h : Out B x0 x1 x2 x3 w) : Out B x0 x1 x2 x3 w.drew :=
  ⟨h.c0, h.c1, h.c2, h.c3, h.f, h.e, h.ef, h.lt⟩
theorem Holds.drew {w : World} {a : Option Addr} {L : List Int} (h : Holds w a L) : Holds w.drew a L := h
theorem ret_agg {o o' : Value} {x y : Int} (h : o = o') (hx : x = y) : Ending.returned (.tuple #[o, .int .i64 x, .int .i64 0]) = .returned (.tuple #[o', .int .i64 y, .int .i64 0]) := by rw [h, hx]

theorem Holds.set {w : World} {a : Option Addr} {L : List Int} {B i : Nat} (h : Holds w a L) (hne : ∀ b off, a = some ⟨b, off, none⟩ → b ≠ B) (y : Value) : Holds (w.setCell ⟨B, i, none⟩ y) a L := by
  intro j hj
  obtain ⟨b, off, rfl, hlt, hc⟩ := h j hj
  have := hne b off rfl
  exact ⟨b, off, rfl, by simpa [World.setCell] using hlt, fun x hx => (World.cell?_setCell_other _ _ _ _ (by intro e; cases e; exact this rfl)).trans (hc x hx)⟩

theorem Holds.stays {w w' : World} {a : Option Addr} {L : List Int} {p : Nat} (h : Holds w a L) (hs : Stays p none w w') (hne : ∀ b off, a = some ⟨b, off, none⟩ → b ≠ p) : Holds w' a L := by
  intro j hj
  obtain ⟨b, off, rfl, hlt, hc⟩ := h j hj
  exact ⟨b, off, rfl, Nat.lt_of_lt_of_le hlt hs.size, fun x hx => (World.cell?_of_block (a := ⟨b, off + x, none⟩) (hs.block b hlt (hne b off rfl) (by simp))).trans (hc x hx)⟩
end

section
open Go.RowKit

abbrev zeroO : Value := .agg #[.int .i64 0, .int .i64 0, .slice none 0 0, .string { data := #[] }]

/-- what Decode leaves. -/
def DecPost (s : ByteArray) (w : World) (e : Ending) (w' : World) : Prop :=
  Below w.heap.size w w' ∧
  ((∃ i k L T a cap, Begins s i k L T ∧ checkE i k L T.length = 0 ∧ e = .returned (.tuple #[.agg #[.int .i64 i, .int .i64 k, .slice a L.length cap, .string (strOfNums T)], .int .i64 ((4 + L.length + T.length : Nat) : Int), .int .i64 0]) ∧ Holds w' a L ∧ ∀ b off, a = some ⟨b, off, none⟩ → w.heap.size ≤ b) ∨
   (∃ i k L T, Begins s i k L T ∧ checkE i k L T.length ≠ 0 ∧ e = .returned (.tuple #[zeroO, .int .i64 0, .int .i64 (checkE i k L T.length)])) ∨
   ((∀ i k L T, ¬ Begins s i k L T) ∧ e = .returned (.tuple #[zeroO, .int .i64 0, .int .i64 5])))

theorem begins_len {s : ByteArray} {i k : Int} {L T : List Int} (h : Begins s i k L T) : L.length < 256 ∧ T.length < 256 := by
  obtain ⟨rest, e⟩ := h
  have h1 := nums_bd s (L.length : Int) (by rw [e]; simp [encN])
  have h2 := nums_bd s (T.length : Int) (by rw [e]; simp [encN])
  omega

/-- the four cells of a new result, all of them open to stores, below what comes later. -/
structure Cells4 (B : Nat) (x0 x1 x2 x3 : Value) (w : World) : Prop where
  c0 : w.cell? ⟨B, 0, none⟩ = some x0
  c1 : w.cell? ⟨B, 1, none⟩ = some x1
  c2 : w.cell? ⟨B, 2, none⟩ = some x2
  c3 : w.cell? ⟨B, 3, none⟩ = some x3
  f0 : w.frozen? ⟨B, 0, none⟩ = false
  f1 : w.frozen? ⟨B, 1, none⟩ = false
  f2 : w.frozen? ⟨B, 2, none⟩ = false
  f3 : w.frozen? ⟨B, 3, none⟩ = false
  lt : B < w.heap.size

theorem Cells4.new (w : World) (x0 x1 x2 x3 : Value) (e : Nat) : Cells4 w.heap.size x0 x1 x2 x3 (w.alloc (.cells #[x0, x1, x2, x3] e)) := by
  constructor <;> simp [go_sem]
theorem Cells4.below {B : Nat} {x0 x1 x2 x3 : Value} {w w' : World} {n : Nat} (h : Cells4 B x0 x1 x2 x3 w) (hb : Below n w w') (hn : B < n) : Cells4 B x0 x1 x2 x3 w' :=
  ⟨(hb.cell (p := ⟨B, 0, none⟩) hn).trans h.c0, (hb.cell (p := ⟨B, 1, none⟩) hn).trans h.c1, (hb.cell (p := ⟨B, 2, none⟩) hn).trans h.c2, (hb.cell (p := ⟨B, 3, none⟩) hn).trans h.c3,
    (hb.frozen (p := ⟨B, 0, none⟩) hn).trans h.f0, (hb.frozen (p := ⟨B, 1, none⟩) hn).trans h.f1, (hb.frozen (p := ⟨B, 2, none⟩) hn).trans h.f2, (hb.frozen (p := ⟨B, 3, none⟩) hn).trans h.f3, Nat.lt_of_lt_of_le h.lt hb.size⟩

theorem below_set4 {w0 w : World} {B : Nat} {x0 x1 x2 x3 : Value} {n : Nat} (h : Below n w0 w) (hn : n ≤ B) :
    Below n w0 ((((w.setCell ⟨B, 0, none⟩ x0).setCell ⟨B, 1, none⟩ x1).setCell ⟨B, 2, none⟩ x2).setCell ⟨B, 3, none⟩ x3) :=
  (((h.setCell (p := ⟨B, 0, none⟩) hn x0).setCell (p := ⟨B, 1, none⟩) hn x1).setCell (p := ⟨B, 2, none⟩) hn x2).setCell (p := ⟨B, 3, none⟩) hn x3

theorem holds_set4 {w : World} {a : Option Addr} {L : List Int} {B : Nat} {x0 x1 x2 x3 : Value} (h : Holds w a L) (hne : ∀ b off, a = some ⟨b, off, none⟩ → 0 < L.length → b ≠ B) :
    Holds ((((w.setCell ⟨B, 0, none⟩ x0).setCell ⟨B, 1, none⟩ x1).setCell ⟨B, 2, none⟩ x2).setCell ⟨B, 3, none⟩ x3) a L := by
  intro j hj
  obtain ⟨b, off, rfl, hlt, hc⟩ := h j hj
  have hb := hne b off rfl (by omega)
  have hne' : ∀ x i, (⟨B, i, none⟩ : Addr) ≠ ⟨b, x, none⟩ := fun x i e => by cases e; exact hb rfl
  refine ⟨b, off, rfl, by simpa [World.setCell] using hlt, fun x hx => ?_⟩
  rw [World.cell?_setCell_other _ _ _ _ (hne' _ _), World.cell?_setCell_other _ _ _ _ (hne' _ _), World.cell?_setCell_other _ _ _ _ (hne' _ _), World.cell?_setCell_other _ _ _ _ (hne' _ _)]
  exact hc x hx
end

section
open Go.RowKit

abbrev tee : ByteArray := { data := #[116] }

set_option maxHeartbeats 400000 in
theorem obj_any (id kind : Int) (a : Option Addr) (n c : Nat) (w : World) :
    Calls Tryd.prog 26 #[.int .i64 id, .int .i64 kind, .slice a n c] w
      fun e w' => e = .returned (.agg #[.int .i64 id, .int .i64 kind, .slice a n c, .string tee]) ∧ Below w.heap.size w w' := by
  go_enter Tryd.func26, Tryd.ntmps26
  go_wp2
  refine bodyPost_ret (v := .agg #[.int .i64 id, .int .i64 kind, .slice a n c, .string tee]) (by simp [results, Tryd.results26, go_sem]) rfl ?_
  exact ⟨rfl, below_alloc _ _⟩

/-- the rows of a shelf. -/
def shelfCells (s2 s3 s4 s5 : Value) : Array Value := #[.int .i64 1, .int .i64 1, .slice none 0 0, .string tee, .int .i64 2, .int .i64 2, s2, .string tee, .int .i64 3, .int .i64 3, s3, .string tee, .int .i64 4, .int .i64 2, s4, .string tee, .int .i64 5, .int .i64 3, s5, .string tee]

set_option maxHeartbeats 400000 in
theorem shelf_any (w : World) :
    Calls Tryd.prog 13 #[] w fun e w' => ∃ g b2 b3 b4 b5, e = .returned (.slice (some ⟨g, 0, none⟩) 5 5) ∧ Below w.heap.size w w' ∧ w.heap.size ≤ g ∧ g < w'.heap.size ∧
      w'.heap[g]? = some (.cells (shelfCells (.slice (some ⟨b2, 0, none⟩) 1 1) (.slice (some ⟨b3, 0, none⟩) 1 1) (.slice (some ⟨b4, 0, none⟩) 2 2) (.slice (some ⟨b5, 0, none⟩) 2 2)) 31) ∧
      Holds w' (some ⟨b2, 0, none⟩) [1] ∧ Holds w' (some ⟨b3, 0, none⟩) [2] ∧ Holds w' (some ⟨b4, 0, none⟩) [1, 2] ∧ Holds w' (some ⟨b5, 0, none⟩) [4, 3] := by
  go_enter Tryd.func13, Tryd.ntmps13
  go_wp2_with fail
  refine (obj_any 1 1 none 0 0 _).mono ?_
  rintro e w1 ⟨rfl, hb1⟩
  go_wp2_with fail
  have k2 : Holds (w1.alloc (.cells #[.int .i64 1] 3)) (some ⟨w1.heap.size, 0, none⟩) [1] := holds_new w1 [1] 3 _ rfl
  have hB1 := hb1.alloc hb1.size (.cells #[.int .i64 1] 3)
  refine (obj_any 2 2 _ 1 1 _).mono ?_
  rintro e w2 ⟨rfl, hb2⟩
  have j2 := k2.below hb2
  have hB2 := hB1.trans (hb2.mono (by have := hb1.size; simp; omega))
  clear k2 hB1 hb2 hb1
  go_wp2_with fail
  have k3 : Holds (w2.alloc (.cells #[.int .i64 2] 3)) (some ⟨w2.heap.size, 0, none⟩) [2] := holds_new w2 [2] 3 _ rfl
  have hB3 := hB2.alloc hB2.size (.cells #[.int .i64 2] 3)
  have l2 := j2.below (below_alloc w2 (.cells #[.int .i64 2] 3))
  refine (obj_any 3 3 _ 1 1 _).mono ?_
  rintro e w3 ⟨rfl, hb3⟩
  have j3 := k3.below hb3
  have m2 := l2.below hb3
  have hB4 := hB3.trans (hb3.mono (by have := hB2.size; simp; omega))
  clear k3 hB3 hb3 l2 j2 hB2
  go_wp2_with fail
  have k4 : Holds (w3.alloc (.cells #[.int .i64 1, .int .i64 2] 3)) (some ⟨w3.heap.size, 0, none⟩) [1, 2] := holds_new w3 [1, 2] 3 _ rfl
  have hB5 := hB4.alloc hB4.size (.cells #[.int .i64 1, .int .i64 2] 3)
  have l2 := m2.below (below_alloc w3 (.cells #[.int .i64 1, .int .i64 2] 3))
  have l3 := j3.below (below_alloc w3 (.cells #[.int .i64 1, .int .i64 2] 3))
  refine (obj_any 4 2 _ 2 2 _).mono ?_
  rintro e w4 ⟨rfl, hb4⟩
  have n2 := l2.below hb4
  have n3 := l3.below hb4
  have n4 := k4.below hb4
  have hB6 := hB5.trans (hb4.mono (by have := hB4.size; simp; omega))
  clear k4 hB5 hb4 l2 l3 hB4 m2 j3
  go_wp2_with fail
  have k5 : Holds (w4.alloc (.cells #[.int .i64 4, .int .i64 3] 3)) (some ⟨w4.heap.size, 0, none⟩) [4, 3] := holds_new w4 [4, 3] 3 _ rfl
  have hB7 := hB6.alloc hB6.size (.cells #[.int .i64 4, .int .i64 3] 3)
  have l2 := n2.below (below_alloc w4 (.cells #[.int .i64 4, .int .i64 3] 3))
  have l3 := n3.below (below_alloc w4 (.cells #[.int .i64 4, .int .i64 3] 3))
  have l4 := n4.below (below_alloc w4 (.cells #[.int .i64 4, .int .i64 3] 3))
  refine (obj_any 5 3 _ 2 2 _).mono ?_
  rintro e w5 ⟨rfl, hb5⟩
  have p2 := l2.below hb5
  have p3 := l3.below hb5
  have p4 := l4.below hb5
  have p5 := k5.below hb5
  have hB8 := hB7.trans (hb5.mono (by have := hB6.size; simp; omega))
  clear k5 hB7 hb5 l2 l3 l4 hB6 n2 n3 n4
  have hs8 := hB8.size
  go_wp2
  go_ret
  exact ⟨w5.heap.size, w1.heap.size, w2.heap.size, w3.heap.size, w4.heap.size, rfl, hB8.alloc hs8 _, hs8, by simp, heap_alloc_new w5 _, p2.below (below_alloc _ _), p3.below (below_alloc _ _), p4.below (below_alloc _ _), p5.below (below_alloc _ _)⟩

theorem begins_unique {s : ByteArray} {i k i' k' : Int} {L T L' T' : List Int} (h : Begins s i k L T) (h' : Begins s i' k' L' T') : i = i' ∧ k = k' ∧ L = L' ∧ T = T' := by
  obtain ⟨r, e⟩ := h
  obtain ⟨r', e'⟩ := h'
  rw [e] at e'
  simp only [encN, List.append_assoc, List.cons_append, List.nil_append, List.cons.injEq] at e'
  obtain ⟨e0, e1, e2, e3⟩ := e'
  have hl : L.length = L'.length := by omega
  obtain ⟨eL, e4⟩ := List.append_inj e3 hl
  simp only [List.cons.injEq] at e4
  obtain ⟨e5, e6⟩ := e4
  have ht : T.length = T'.length := by omega
  exact ⟨e0, e1, eL, (List.append_inj e6 ht).1⟩
end

section
open Go.RowKit

theorem enc5 : strOfNums (encNums 5 3 [4, 3] 1) ++ tee = { data := #[5, 3, 2, 4, 3, 1, 116] } := by decide
theorem chk5 : checkE 5 3 [4, 3] 1 = 0 := by decide
theorem chk3 : checkE 3 1 [1] 1 = 1 := by decide
theorem beg5 : Begins (({ data := #[5, 3, 2, 4, 3, 1, 116] } : ByteArray) ++ { data := #[122] }) 5 3 [4, 3] [116] := ⟨[122], by decide⟩
theorem nobeg (i k : Int) (L T : List Int) : ¬ Begins { data := #[5, 3, 2] } i k L T := fun h => by
  have := (begins_sizes h).1
  have e : ({ data := #[5, 3, 2] } : ByteArray).size = 3 := rfl
  omega

/-- the fifth object of a shelf. -/
theorem fifth {w : World} {g : Nat} {s2 s3 s4 s5 : Value} (h : w.heap[g]? = some (.cells (shelfCells s2 s3 s4 s5) 31)) :
    w.cell? ⟨g, 16, none⟩ = some (.int .i64 5) ∧ w.cell? ⟨g, 17, none⟩ = some (.int .i64 3) ∧ w.cell? ⟨g, 18, none⟩ = some s5 ∧ w.cell? ⟨g, 19, none⟩ = some (.string tee) := by
  refine ⟨?_, ?_, ?_, ?_⟩ <;> (rw [cell_of_row w g _ _ _ _ h]; rfl)

theorem sameO_refl (i k : Int) (L : List Int) (t : ByteArray) : sameO i k L t i k L t = true := by simp [sameO, sameB]

/-- what is kept over objectBegun's last statement. -/
structure Bun (w : World) (B : Nat) (a : Option Addr) (cap : Nat) (wp : World) : Prop where
  below : Below w.heap.size w wp
  cell4 : Cells4 B (.int .i64 5) (.int .i64 3) (.slice a 2 cap) (.string tee) wp
  holds : Holds wp a [4, 3]
  le : w.heap.size ≤ B
theorem Bun.cells {w : World} {B : Nat} {a : Option Addr} {cap : Nat} {wp : World} (h : Bun w B a cap wp) : wp.cell? ⟨B, 0, none⟩ = some (.int .i64 5) ∧ wp.cell? ⟨B, 1, none⟩ = some (.int .i64 3) ∧ wp.cell? ⟨B, 2, none⟩ = some (.slice a 2 cap) ∧ wp.cell? ⟨B, 3, none⟩ = some (.string tee) :=
  ⟨h.cell4.c0, h.cell4.c1, h.cell4.c2, h.cell4.c3⟩
theorem Bun.step {w : World} {B : Nat} {a : Option Addr} {cap : Nat} {wp wx : World} (h : Bun w B a cap wp) (hB : Below wp.heap.size wp wx) : Bun w B a cap wx :=
  ⟨h.below.trans (hB.mono h.below.size), h.cell4.below hB h.cell4.lt, h.holds.below hB, h.le⟩
theorem Bun.alloc {w : World} {B : Nat} {a : Option Addr} {cap : Nat} {wp : World} (h : Bun w B a cap wp) (o : Obj) : Bun w B a cap (wp.alloc o) := h.step (below_alloc _ _)
theorem Bun.drew {w : World} {B : Nat} {a : Option Addr} {cap : Nat} {wp : World} (h : Bun w B a cap wp) : Bun w B a cap wp.drew := h.step (Below.refl _ _).drew

attribute [local go_sem ↓] Go.wp_at_zero Go.wp_at_succ
end

section
open Go.RowKit

theorem nums_append (a b : ByteArray) : nums (a ++ b) = nums a ++ nums b := by
  simp only [nums, ByteArray.data_append, Array.toList_append, List.map_append]
theorem nums_strOf {N : List Int} (h : ∀ x ∈ N, 0 ≤ x ∧ x ≤ 255) : nums (strOfNums N) = N := by
  unfold nums
  rw [strOfNums_data, List.map_map]
  conv => rhs; rw [← List.map_id N]
  refine List.map_congr_left fun x hx => ?_
  have := h x hx
  simp only [Function.comp, id]
  rw [UInt8.toNat_ofNat']
  omega
theorem nums_inj {a b : ByteArray} (h : nums a = nums b) : a = b := by
  rw [← strOf_nums a, ← strOf_nums b, h]
theorem nums_extract (s : ByteArray) (n : Nat) : nums (s.extract 0 n) = (nums s).take n := by
  simp only [nums, ByteArray.data_extract, Array.toList_extract, List.map_take]
  simp

theorem enc_nums {id kind : Int} {L : List Int} {t : ByteArray} (h : checkE id kind L t.size = 0) : nums (strOfNums (encNums id kind L t.size) ++ t) = encN id kind L (nums t) := by
  obtain ⟨h1, h2, h3, h4, h5, _⟩ := checkE_zero h
  rw [nums_append, nums_strOf]
  · simp [encNums, encN, nums_len]
  · intro x hx
    simp only [encNums, List.mem_append, List.mem_cons, List.not_mem_nil, or_false] at hx
    rcases hx with (((rfl | rfl | rfl) | hx) | rfl)
    · omega
    · omega
    · omega
    · have := linksE_mem L 0 0 h5 x hx; omega
    · omega
end

section
open Go.ChangeShapes Go.WideShapes Go.ChangeAt Go.RowKit Go.Joins

theorem Tryd.own : ownKnob Tryd.prog.godebug = none := by kernel_rfl
theorem Tryd.laidOut : laidOutB Tryd.prog = true := by kernel_rfl
theorem Tryd.cells3 : Tryd.prog.cellsOf 3 = 1 := by kernel_rfl
theorem Tryd.cells31 : Tryd.prog.cellsOf 31 = 4 := by kernel_rfl

theorem lt_of_cell {w : World} {a : Addr} {v : Value} (h : w.cell? a = some v) : a.block < w.heap.size := by
  rcases Nat.lt_or_ge a.block w.heap.size with h1 | h1
  · exact h1
  · simp [World.cell?, Array.getElem?_eq_none h1] at h

set_option maxRecDepth 100000 in
/-- An object that comes in, opened. -/
theorem open_object {H : Type} {enc : TypeId × Value → H} {W : World} {r : Reach} {b0 : Nat} {v : Value} {d : DataW H} {p : List MemPlace}
    (hv : Value.okWide Tryd.prog W r b0 31 v) (h : DataW.Trod enc Tryd.prog W 0 (fun _ => true) true 31 v d p) :
    ∃ id kind a c L t, v = .agg #[.int .i64 id, .int .i64 kind, .slice a L.length c, .string t] ∧ Holds W a L ∧ L.length ≤ maxLen ∧ t.size ≤ maxLen := by
  obtain ⟨v0, v1, v2, v3, y0, y1, y2, y3, n, rfl, rfl, rfl, h0, h1, h2, h3⟩ := open_agg4 Tryd.underlying31 (by kernel_rfl) Tryd.cells31 hv h
  obtain ⟨id, e0, _, _⟩ := DataW.trod_int Tryd.underlying3 h0
  obtain ⟨kind, e1, _, _⟩ := DataW.trod_int Tryd.underlying3 h1
  obtain ⟨t, e3, _, ht⟩ := DataW.trod_string Tryd.underlying9 h3
  simp only [List.cons.injEq, and_true] at e0 e1 e3
  subst e0 e1 e3
  rcases open_ints Tryd.underlying29 Tryd.underlying3 Tryd.cells3 h2 with ⟨e2, _⟩ | ⟨a, len, cap, zs, e2, _, hl, hm, hz, _, hcell, _⟩
  · simp only [List.cons.injEq, and_true] at e2
    subst e2
    exact ⟨id, kind, none, 0, [], t, rfl, fun i hi => by simp at hi, by simp, ht⟩
  · simp only [List.cons.injEq, and_true] at e2
    subst e2
    simp only [if_true] at hz
    have hlen : (zs.take len).length = len := by rw [List.length_take]; omega
    refine ⟨id, kind, some a, cap, zs.take len, t, by rw [hlen], fun i hi => ?_, by omega, ht⟩
    obtain ⟨b, off, rfl, hc⟩ := ints_at hcell (by omega)
    refine ⟨b, off, rfl, lt_of_cell (a := ⟨b, off + 0, none⟩) (hc 0 (by omega)), fun j hj => ?_⟩
    rw [hc j (by omega)]
    simp only [List.getD_eq_getElem?_getD, List.getElem?_take, if_pos (show j < len by omega)]
end

section
open Go.RowKit

theorem run_append_none (w : World) (ty : TypeId) (n cap0 : Nat) (g : Option Addr) (ad : Option Addr) (c : Nat) (hg : g = none → n = 0 ∧ cap0 = 0) (hn : n ≤ cap0) :
    (Builtin.append_ #[29, 29] ty #[.slice g n cap0, .slice ad 0 c]).run Tryd.prog w = .ok (.slice g n cap0) w := by
  obtain ⟨i0, hi, hz0, hz1, hz2⟩ := info_parts Tryd.info3
  cases g with
  | none =>
    obtain ⟨rfl, rfl⟩ := hg rfl
    cases ad <;> simp [Builtin.append_, run_underlying Tryd.underlying29, sizeOf, typeInfo, hi, Builtin.lenOf, Builtin.firstCells, loadCells, loadCellsFrom]
  | some g =>
    cases ad <;> simp [Builtin.append_, run_underlying Tryd.underlying29, sizeOf, typeInfo, hi, Builtin.lenOf, Builtin.firstCells, loadCells, loadCellsFrom, hn, storeCells]

/-- append of a slice of ints onto one that the call owns, however many. -/
theorem run_append_ints (w : World) (ty : TypeId) (base n : Nat) (v : Value) (xs : List Int) (hown : w.ownsRow base 3 1 v n (xs.map (Value.int .i64)))
    (ad : Option Addr) (m c : Nat) (L : List Int) (hm : L.length = m) (hh : Holds w ad L) (hn : n + m ≤ 1000) (hbase : base ≤ w.heap.size) :
    ∃ g' N cap' w', N = n + m ∧ (Builtin.append_ #[29, 29] ty #[v, .slice ad m c]).run Tryd.prog w = .ok (.slice g' N cap') w' ∧
      w'.ownsRow base 3 1 (.slice g' N cap') N ((xs ++ L).map (Value.int .i64)) ∧ w.grownBy w' v.ownBlock := by
  obtain ⟨i0, hi, hz0, hz1, hz2⟩ := info_parts Tryd.info3
  by_cases h0 : m = 0
  · subst h0
    have hL : L = [] := List.eq_nil_of_length_eq_zero hm
    subst hL
    have hgr : w.grownBy w v.ownBlock := ⟨rfl, rfl, rfl, Nat.le_refl _, fun _ _ _ => rfl⟩
    rcases hown.2 with ⟨rfl, rfl⟩ | ⟨g, cap, cur, rfl, hb, hg, hnc, hcm, hcs, htk⟩
    · exact ⟨none, 0, 0, w, rfl, run_append_none w ty 0 0 none ad c (by simp) (Nat.le_refl _), by simpa using hown, hgr⟩
    · exact ⟨_, n, cap, w, rfl, run_append_none w ty n cap _ ad c (by simp) hnc, by simpa using hown, hgr⟩
  · have hlen : 0 < L.length := by omega
    obtain ⟨b, off, rfl, hb, hc⟩ := hh 0 hlen
    obtain ⟨g, cap, w', hr, h1, h2, _, _⟩ := run_append_lies w 29 ty base 3 i0 (.int .i64 0) 1 8 Tryd.underlying29 hi hz0 hz1 hz2 rfl (by decide) v n _ hown ⟨b, off, none⟩ m c (L.map (Value.int .i64)) (by simp [hm])
      (fun j u hj => by
        have hj' : j < L.length := by
          rcases Nat.lt_or_ge j L.length with h | h
          · exact h
          · simp [List.getElem?_eq_none (show (L.map (Value.int .i64)).length ≤ j by simpa using h)] at hj
        have hadd : (⟨b, off, none⟩ : Addr).add j = ⟨b, off + j, none⟩ := by unfold Addr.add; split <;> simp_all
        rw [hadd, hc j hj']
        simp [List.getElem?_eq_getElem hj'] at hj
        subst hj
        simp [List.getElem?_eq_getElem hj'])
      (fun u hu => by simp at hu; obtain ⟨x, _, rfl⟩ := hu; rfl) (by omega) (by unfold maxLen; omega) (by omega) hbase _ rfl
    exact ⟨_, n + m, cap, w', rfl, hr, by simpa using h1, h2⟩

theorem step_append_ints {ops : Array Oper} {o : Oper} {a : Act} {K : Act → World → Prop} {Q : Exit → Act → World → Prop} {E : Prop} (w : World) (hgd : o.guard = none) (s x : Operand)
    (ho : o.op = .call { callee := .builtin .append, args := #[s, x], argTypes := #[29, 29] })
    (base n : Nat) (v : Value) (xs : List Int) (hs : a.eval s = v) (hown : w.ownsRow base 3 1 v n (xs.map (Value.int .i64)))
    (ad : Option Addr) (m c : Nat) (L : List Int) (hm : L.length = m) (hx : a.eval x = .slice ad m c) (hh : Holds w ad L) (hn : n + m ≤ 1000) (hbase : base ≤ w.heap.size)
    (h : ∀ g' N cap' w', N = n + m → w'.ownsRow base 3 1 (.slice g' N cap') N ((xs ++ L).map (Value.int .i64)) → w.grownBy w' v.ownBlock → K (a.put o.dst (.slice g' N cap')) w') :
    if Region.wanted o (yielded ops a.tmps) = true then Oper.wp Tryd.prog o a w K Q else E := by
  have hw : Region.wanted o (yielded ops a.tmps) = true := by simp [Region.wanted, hgd]
  rw [if_pos hw]
  obtain ⟨g', N, cap', w', hN, hr, h1, h2⟩ := run_append_ints w o.type base n v xs hown ad m c L hm hh hn hbase
  unfold Oper.wp execOp
  simp only [ho, resolve, invoke, builtin, Sem.run_bind, Sem.run_pure, Result.andThen_ok, List.map_toArray, List.map_cons, List.map_nil, hs, hx, hr]
  exact h g' N cap' w' hN h1 h2
end
end Go.Proofs.YtehmlpkapjdhkaaDoor
