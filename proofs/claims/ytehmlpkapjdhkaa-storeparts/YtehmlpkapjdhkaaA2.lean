import Derived.Test.YtehmlpkapjdhkaaA1
namespace Go.Proofs.Ytehmlpkapjdhkaa
open Go.RowKit

theorem Holds.below {w w' : World} {a : Option Addr} {L : List Int} (h : Holds w a L) (hb : Below w.heap.size w w') : Holds w' a L := by
  intro i hi
  obtain ⟨b, off, rfl, hlt, hc⟩ := h i hi
  exact ⟨b, off, rfl, Nat.lt_of_lt_of_le hlt hb.size, fun j hj => (hb.cell (p := ⟨b, off + j, none⟩) hlt).trans (hc j hj)⟩

theorem below_drewN {B : Nat} {a w : World} (h : Below B a w) (n : Nat) : Below B a (w.drewN n) := by
  induction n with
  | zero => exact h
  | succ n ih => exact ih.drew

theorem below_alloc2 (w : World) (o o' : Obj) : Below w.heap.size w ((w.alloc o).alloc o') := ((Below.refl _ _).alloc (Nat.le_refl _) o).alloc (by simp) o'
theorem below_alloc (w : World) (o : Obj) : Below w.heap.size w (w.alloc o) := (Below.refl _ _).alloc (Nat.le_refl _) o

def sameO (i1 k1 : Int) (L1 : List Int) (t1 : ByteArray) (i2 k2 : Int) (L2 : List Int) (t2 : ByteArray) : Bool :=
  decide (i1 = i2) && decide (k1 = k2) && decide (t1.toList = t2.toList) && sameB L1 L2

set_option maxHeartbeats 400000 in
theorem sameObject_any (i1 k1 : Int) (a1 : Option Addr) (c1 : Nat) (L1 : List Int) (t1 : ByteArray) (i2 k2 : Int) (a2 : Option Addr) (c2 : Nat) (L2 : List Int) (t2 : ByteArray) (w : World)
    (h1 : Holds w a1 L1) (h2 : Holds w a2 L2) (l1 : L1.length ≤ 9223372036854775807) :
    Calls Try.prog 10 #[.agg #[.int .i64 i1, .int .i64 k1, .slice a1 L1.length c1, .string t1], .agg #[.int .i64 i2, .int .i64 k2, .slice a2 L2.length c2, .string t2]] w
      fun e w' => e = .returned (.bool (sameO i1 k1 L1 t1 i2 k2 L2 t2)) ∧ Below w.heap.size w w' := by
  go_enter Try.func10, Try.ntmps10
  go_wp2_with fail
  · refine (sameInts_any a1 c1 L1 a2 c2 L2 _ (h1.below (below_alloc2 _ _ _)) (h2.below (below_alloc2 _ _ _)) l1).mono ?_
    rintro e w' ⟨rfl, n, rfl⟩
    go_wp2
    go_ret
    exact ⟨ret_bool (by simp [sameO, *]), below_drewN (below_alloc2 _ _ _) n⟩
  all_goals go_ret
  all_goals exact ⟨ret_bool (by simp [sameO, *]), below_alloc2 _ _ _⟩

def linksE (id kind : Int) : Nat → Int → List Int → Int
  | _, _, [] => 0
  | i, last, x :: xs => if x < 1 ∨ id ≤ x then 3 else if x ≤ last then 4 else linksE id kind (i + 1) (if kind = 3 ∧ i = 0 then last else x) xs

theorem ret_int {k : IntKind} {a b : Int} (h : a = b) : Ending.returned (.int k a) = .returned (.int k b) := by rw [h]
theorem drop_at {L : List Int} {k : Nat} (h : k < L.length) : L.drop k = L[k] :: L.drop (k + 1) := List.drop_eq_getElem_cons h
theorem lk_range {id kind : Int} {L : List Int} {k : Nat} {last r : Int} (hlt : k < L.length) (H : r = linksE id kind k last (L.drop k)) (h : L[k] < 1 ∨ id ≤ L[k]) : r = 3 := by
  rw [H, drop_at hlt, linksE, if_pos h]
theorem lk_state {id kind : Int} {L : List Int} {k : Nat} {last r : Int} (hlt : k < L.length) (H : r = linksE id kind k last (L.drop k)) (h : 1 ≤ L[k] ∧ L[k] < id) (h2 : L[k] ≤ last) : r = 4 := by
  rw [H, drop_at hlt, linksE, if_neg (by omega), if_pos h2]
theorem lk_next {id kind : Int} {L : List Int} {k : Nat} {last r : Int} (hlt : k < L.length) (H : r = linksE id kind k last (L.drop k)) (h : 1 ≤ L[k] ∧ L[k] < id) (h2 : last < L[k]) (h3 : ¬ (kind = 3 ∧ k = 0)) : r = linksE id kind (k + 1) L[k] (L.drop (k + 1)) := by
  rw [H, drop_at hlt, linksE, if_neg (by omega), if_neg (by omega), if_neg h3]
theorem lk_first {id : Int} {L : List Int} {k : Nat} {last r : Int} (hlt : k < L.length) (H : r = linksE id 3 k last (L.drop k)) (h : 1 ≤ L[k] ∧ L[k] < id) (h2 : last < L[k]) (h3 : k = 0) : r = linksE id 3 (k + 1) last (L.drop (k + 1)) := by
  rw [H, drop_at hlt, linksE, if_neg (by omega), if_neg (by omega), if_pos ⟨rfl, h3⟩]
theorem lk_end {id kind : Int} {L : List Int} {k : Nat} {last r : Int} (hk : k ≤ L.length) (hlt : ¬ k < L.length) (H : r = linksE id kind k last (L.drop k)) : r = 0 := by
  rw [H, List.drop_of_length_le (by omega)]; rfl

set_option maxHeartbeats 800000 in
theorem checkLinks_any (id kind : Int) (a : Option Addr) (c : Nat) (L : List Int) (t : ByteArray) (w : World)
    (h : Holds w a L) (l : L.length ≤ 9223372036854775807) :
    Calls Try.prog 34 #[.agg #[.int .i64 id, .int .i64 kind, .slice a L.length c, .string t]] w
      fun e w' => e = .returned (.int .i64 (linksE id kind 0 0 L)) ∧ Below w.heap.size w w' := by
  have h' := h.below (below_alloc w (.cells #[.int .i64 id, .int .i64 kind, .slice a L.length c, .string t] 28))
  by_cases hk3 : kind = 3
  · subst hk3
    go_enter Try.func34, Try.ntmps34
    go_wp2
    go_loop [3, 9] (fun z i => ∃ (k : Nat) (last : Int), i = .int .i64 k ∧ z = .int .i64 last ∧ k ≤ L.length ∧ Hid (linksE id 3 0 0 L = linksE id 3 k last (L.drop k))) (fun _ i => L.length - (intOf i).toNat)
    case atStart => exact ⟨0, 0, rfl, rfl, Nat.zero_le _, rfl⟩
    case round =>
      obtain ⟨k, last, rfl, rfl, hk, H⟩ := hrel
      by_cases hlt : k < L.length
      · obtain ⟨b1, o1, rfl, hb1, hc1⟩ := h' k hlt
        have hk1 := hc1 k hlt
        clear hc1
        by_cases h0 : (0 : Int) < (k : Int)
        · go_wp2
          · go_ret
            exact ⟨ret_int (lk_range hlt H.out ‹_›).symm, below_alloc _ _⟩
          · go_ret
            exact ⟨ret_int (lk_state hlt H.out ‹_› ‹_›).symm, below_alloc _ _⟩
          · go_round
            case rel => exact ⟨k + 1, _, by go_num, rfl, by omega, lk_next hlt H.out ‹_› ‹_› (by omega)⟩
            case measure => simp [intOf]; omega
          · go_ret
            exact ⟨ret_int (lk_range hlt H.out (Or.inl ‹_›)).symm, below_alloc _ _⟩
        · have hk0 : k = 0 := by omega
          have HK : Hid (k = 0) := hk0
          clear hk0
          go_wp2
          · go_ret
            exact ⟨ret_int (lk_range hlt H.out ‹_›).symm, below_alloc _ _⟩
          · go_ret
            exact ⟨ret_int (lk_state hlt H.out ‹_› ‹_›).symm, below_alloc _ _⟩
          · go_round
            case rel => exact ⟨k + 1, _, by go_num, rfl, by omega, lk_first hlt H.out ‹_› ‹_› HK.out⟩
            case measure => simp [intOf]; omega
          · go_ret
            exact ⟨ret_int (lk_range hlt H.out (Or.inl ‹_›)).symm, below_alloc _ _⟩
      · go_wp2
        go_ret
        exact ⟨ret_int (lk_end hk hlt H.out).symm, below_alloc _ _⟩
  · have hkb : (kind != 3) = true := by simpa using hk3
    go_enter Try.func34, Try.ntmps34
    go_wp2
    go_loop [3, 9] (fun z i => ∃ (k : Nat) (last : Int), i = .int .i64 k ∧ z = .int .i64 last ∧ k ≤ L.length ∧ Hid (linksE id kind 0 0 L = linksE id kind k last (L.drop k))) (fun _ i => L.length - (intOf i).toNat)
    case atStart => exact ⟨0, 0, rfl, rfl, Nat.zero_le _, rfl⟩
    case round =>
      obtain ⟨k, last, rfl, rfl, hk, H⟩ := hrel
      by_cases hlt : k < L.length
      · obtain ⟨b1, o1, rfl, hb1, hc1⟩ := h' k hlt
        have hk1 := hc1 k hlt
        clear hc1
        go_wp2
        · go_ret
          exact ⟨ret_int (lk_range hlt H.out ‹_›).symm, below_alloc _ _⟩
        · go_ret
          exact ⟨ret_int (lk_state hlt H.out ‹_› ‹_›).symm, below_alloc _ _⟩
        · go_round
          case rel => exact ⟨k + 1, _, by go_num, rfl, by omega, lk_next hlt H.out ‹_› ‹_› (by omega)⟩
          case measure => simp [intOf]; omega
        · go_ret
          exact ⟨ret_int (lk_range hlt H.out (Or.inl ‹_›)).symm, below_alloc _ _⟩
      · go_wp2
        go_ret
        exact ⟨ret_int (lk_end hk hlt H.out).symm, below_alloc _ _⟩
end Go.Proofs.Ytehmlpkapjdhkaa
