import Derived.Test.YtehmlpkapjdhkaaF1
namespace Go.Proofs.Ytehmlpkapjdhkaa
open Go.RowKit

/-- slices.Index of ints. -/
def indexI (L : List Int) (x : Int) : Int := match L.findIdx? (fun y => x == y) with | some i => (i : Int) | none => -1

theorem indexI_hit {L : List Int} {x : Int} {k : Nat} (hk : k < L.length) (hno : ∀ j (h : j < L.length), j < k → (x == L[j]) = false) (h : (x == L[k]) = true) : indexI L x = k := by
  have : L.findIdx? (fun y => x == y) = some k := by
    rw [List.findIdx?_eq_some_iff_getElem]
    exact ⟨hk, h, fun j hj => by simpa using hno j (by omega) hj⟩
  simp [indexI, this]
theorem indexI_miss {L : List Int} {x : Int} (hno : ∀ j (h : j < L.length), (x == L[j]) = false) : indexI L x = -1 := by
  have : L.findIdx? (fun y => x == y) = none := by
    rw [List.findIdx?_eq_none_iff]
    intro y hy
    obtain ⟨j, hj, rfl⟩ := List.getElem_of_mem hy
    exact hno j hj
  simp [indexI, this]
theorem indexI_mem {L : List Int} {x : Int} : (0 ≤ indexI L x) ↔ x ∈ L := by
  unfold indexI
  split
  · rename_i i hi
    rw [List.findIdx?_eq_some_iff_getElem] at hi
    obtain ⟨h1, h2, _⟩ := hi
    refine ⟨fun _ => ?_, fun _ => by omega⟩
    rw [show x = L[i] by simpa using h2]
    exact List.getElem_mem h1
  · rename_i hi
    rw [List.findIdx?_eq_none_iff] at hi
    refine ⟨fun h => by omega, fun h => ?_⟩
    have := hi x h
    simp at this

set_option maxHeartbeats 400000 in
theorem index_any (a : Option Addr) (c : Nat) (L : List Int) (x : Int) (w : World) (h : Holds w a L) (hl : L.length ≤ 9223372036854775807) :
    Calls Try.prog 51 #[.slice a L.length c, .int .i64 x] w fun e w' => e = .returned (.int .i64 (indexI L x)) ∧ Below w.heap.size w w' := by
  go_enter Try.func51, Try.ntmps51
  go_wp2
  go_loopw [8] (fun i wr => ∃ k : Nat, i = .int .i64 k ∧ k ≤ L.length ∧ Below w.heap.size w wr ∧ Hid (∀ j (hj : j < L.length), j < k → (x == L[j]) = false)) (fun i _ => L.length - (intOf i).toNat)
  case atStart => exact ⟨0, rfl, Nat.zero_le _, Below.refl _ _, fun j _ h => absurd h (Nat.not_lt_zero j)⟩
  case round =>
    obtain ⟨k, rfl, hk, hB, H⟩ := hrel
    by_cases hkl : k < L.length
    · obtain ⟨b, off, rfl, hb, hc⟩ := (h.below hB) k hkl
      have x0 := hc k hkl
      have HG : Hid (L.getD k 0 = L[k]) := by unfold Hid; simp [hkl]
      generalize L.getD k 0 = y at *
      clear hc
      by_cases hq : x = y
      · have HR : Hid (indexI L x = k) := indexI_hit hkl H.out (by rw [← HG.out]; simpa using hq)
        clear HG
        subst hq
        go_wp2
        go_ret
        exact ⟨ret_int HR.out.symm, hB⟩
      · have HN : Hid (∀ j (hj : j < L.length), j < k + 1 → (x == L[j]) = false) := fun j hj hjk => by
          rcases Nat.lt_or_ge j k with h1 | h1
          · exact H.out j hj h1
          · have : j = k := by omega
            subst this
            rw [← HG.out]; simpa using hq
        have hq' : (x == y) = false := by simpa using hq
        go_wp2
        go_roundw
        case rel => exact ⟨k + 1, by go_num, by omega, hB, HN⟩
        case measure => simp [intOf]; omega
    · have HR : Hid (indexI L x = -1) := indexI_miss (fun j hj => H.out j hj (by omega))
      go_wp2
      go_ret
      exact ⟨ret_int HR.out.symm, hB⟩

set_option maxHeartbeats 400000 in
theorem contains_any (a : Option Addr) (c : Nat) (L : List Int) (x : Int) (w : World) (h : Holds w a L) (hl : L.length ≤ 9223372036854775807) :
    Calls Try.prog 46 #[.slice a L.length c, .int .i64 x] w fun e w' => e = .returned (.bool (decide (x ∈ L))) ∧ Below w.heap.size w w' := by
  go_enter Try.func46, Try.ntmps46
  go_wp2_with fail
  refine (index_any a c L x w h hl).mono ?_
  rintro e w1 ⟨rfl, hb⟩
  have HR : Hid (decide (0 ≤ indexI L x) = decide (x ∈ L)) := by unfold Hid; rw [decide_eq_decide]; exact indexI_mem
  go_wp2
  go_ret
  exact ⟨ret_bool HR.out, hb⟩

set_option maxHeartbeats 400000 in
theorem other1_any (x : Ob) (sa : Option Addr) (sc : Nat) (kind : Int) (p q : Nat) (a2 : Option Addr) (c2 : Nat) (ids : List Int) (w : World) (hp : w.cell? ⟨p, 0, none⟩ = some (.int .i64 kind)) (hlt : p < w.heap.size)
    (hq : w.cell? ⟨q, 0, none⟩ = some (.slice a2 ids.length c2)) (hqlt : q < w.heap.size) (h2 : Holds w a2 ids) (hm : ids.length ≤ 9223372036854775807) :
    Calls Try.prog 45 #[x.val sa sc, .pointer (some ⟨p, 0, none⟩), .pointer (some ⟨q, 0, none⟩)] w fun e w' => e = .returned (.bool (x.kind != kind && decide (x.id ∈ ids))) ∧ Below w.heap.size w w' := by
  have hA := below_alloc w (.cells #[.int .i64 x.id, .int .i64 x.kind, .slice sa x.links.length sc, .string x.text] 28)
  have h2' := h2.below hA
  have hp' := (hA.cell (p := ⟨p, 0, none⟩) hlt).trans hp
  have hq' := (hA.cell (p := ⟨q, 0, none⟩) hqlt).trans hq
  go_enter Try.func45, Try.ntmps45
  by_cases hk : x.kind = kind
  · go_wp2
    go_ret
    exact ⟨ret_bool (by simp [hk]), below_alloc _ _⟩
  · have hk' : (x.kind != kind) = true := by simpa using hk
    go_wp2_with fail
    refine (contains_any a2 c2 ids x.id _ h2' hm).mono ?_
    rintro e w1 ⟨rfl, hb1⟩
    have HR : Hid (decide (x.id ∈ ids) = (x.kind != kind && decide (x.id ∈ ids))) := by unfold Hid; rw [hk', Bool.true_and]
    have hB1 := hA.trans (hb1.mono hA.size)
    clear hb1 h2' hp' hq' hA
    go_wp2
    go_ret
    exact ⟨ret_bool HR.out, hB1⟩
end Go.Proofs.Ytehmlpkapjdhkaa
