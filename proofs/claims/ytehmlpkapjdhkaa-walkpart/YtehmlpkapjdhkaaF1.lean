import Derived.Test.YtehmlpkapjdhkaaD17
import Derived.Deep.RegionHeld
namespace Go.Proofs.Ytehmlpkapjdhkaa
open Go.RowKit

set_option maxHeartbeats 400000 in
theorem there1_any (x : Ob) (sa : Option Addr) (sc : Nat) (id : Int) (p : Nat) (w : World) (hp : w.cell? ⟨p, 0, none⟩ = some (.int .i64 id)) (hlt : p < w.heap.size) :
    Calls Try.prog 44 #[x.val sa sc, .pointer (some ⟨p, 0, none⟩)] w fun e w' => e = .returned (.bool (x.id == id)) ∧ Below w.heap.size w w' := by
  go_enter Try.func44, Try.ntmps44
  go_wp2
  go_ret
  exact ⟨rfl, below_alloc _ _⟩

set_option maxHeartbeats 400000 in
theorem indexThere_any (a : Option Addr) (c : Nat) (l : List Ob) (id : Int) (p : Nat) (w : World) (h : HoldsS w a l) (hl : l.length ≤ 9223372036854775807) (hp : w.cell? ⟨p, 0, none⟩ = some (.int .i64 id)) (hlt : p < w.heap.size) :
    Calls Try.prog 36 #[.slice a l.length c, .func (.func 44) #[] #[.pointer (some ⟨p, 0, none⟩)]] w fun e w' => e = .returned (.int .i64 (placeI l id)) ∧ Below w.heap.size w w' := by
  go_enter Try.func36, Try.ntmps36
  go_wp2
  go_loopw [8] (fun i wr => ∃ k : Nat, i = .int .i64 k ∧ k ≤ l.length ∧ Below w.heap.size w wr ∧ Hid (∀ j (hj : j < l.length), j < k → (l[j].id == id) = false)) (fun i _ => l.length - (intOf i).toNat)
  case atStart => exact ⟨0, rfl, Nat.zero_le _, Below.refl _ _, fun j _ h => absurd h (Nat.not_lt_zero j)⟩
  case round =>
    obtain ⟨k, rfl, hk, hB, H⟩ := hrel
    by_cases hkl : k < l.length
    · obtain ⟨b, off, rfl, hb, hc⟩ := (h.below hB) k hkl
      obtain ⟨sa, sc, x0, x1, x2, x3, x4, x5⟩ := hc k hkl
      have hpr : wr.cell? ⟨p, 0, none⟩ = some (.int .i64 id) := (hB.cell (p := ⟨p, 0, none⟩) hlt).trans hp
      clear hc
      go_wp2_with fail
      refine (there1_any l[k] sa sc id p _ hpr (Nat.lt_of_lt_of_le hlt hB.size)).mono ?_
      rintro e w1 ⟨rfl, hb1⟩
      have hB1 := hB.trans (hb1.mono hB.size)
      clear hb1 x0 x1 x2 x3 x4 hpr
      by_cases hq : (l[k].id == id) = true
      · have HR : Hid (placeI l id = k) := findIdx_hit hkl H.out hq
        rw [hq]
        clear hq
        go_wp2
        go_ret
        exact ⟨ret_int HR.out.symm, hB1⟩
      · have hq' : (l[k].id == id) = false := by simpa using hq
        have HN : Hid (∀ j (hj : j < l.length), j < k + 1 → (l[j].id == id) = false) := fun j hj hjk => by
          rcases Nat.lt_or_ge j k with h1 | h1
          · exact H.out j hj h1
          · have : j = k := by omega
            subst this
            exact hq'
        rw [hq']
        clear hq hq'
        go_wp2
        go_roundw
        case rel => exact ⟨k + 1, by go_num, by omega, hB1, HN⟩
        case measure => simp [intOf]; omega
    · have HR : Hid (placeI l id = -1) := findIdx_miss (fun j hj => H.out j hj (by omega))
      go_wp2
      go_ret
      exact ⟨ret_int HR.out.symm, hB⟩


set_option maxHeartbeats 400000 in
theorem containsThere_any (a : Option Addr) (c : Nat) (l : List Ob) (id : Int) (p : Nat) (w : World) (h : HoldsS w a l) (hl : l.length ≤ 9223372036854775807) (hp : w.cell? ⟨p, 0, none⟩ = some (.int .i64 id)) (hlt : p < w.heap.size) :
    Calls Try.prog 43 #[.slice a l.length c, .func (.func 44) #[] #[.pointer (some ⟨p, 0, none⟩)]] w fun e w' => e = .returned (.bool (decide (0 ≤ placeI l id))) ∧ Below w.heap.size w w' := by
  go_enter Try.func43, Try.ntmps43
  go_wp2_with fail
  refine (indexThere_any a c l id p w h hl hp hlt).mono ?_
  rintro e w1 ⟨rfl, hb⟩
  go_wp2
  go_ret
  exact ⟨rfl, hb⟩

/-- are all of them there? -/
def thereE (l : List Ob) (ids : List Int) : Int := if ids.all (fun id => decide (0 ≤ placeI l id)) then 0 else 5

set_option maxHeartbeats 800000 in
theorem mustBeThere_any (a : Option Addr) (c : Nat) (l : List Ob) (a2 : Option Addr) (c2 : Nat) (ids : List Int) (w : World) (h : HoldsS w a l) (hl : l.length ≤ 9223372036854775807) (h2 : Holds w a2 ids) (hm : ids.length ≤ 9223372036854775807) :
    Calls Try.prog 29 #[.slice a l.length c, .slice a2 ids.length c2] w fun e w' => e = .returned (.int .i64 (thereE l ids)) ∧ Below w.heap.size w w' := by
  have hmf : ∀ (fn : Fn) (first cap : Array Value) (w : World), (Instr.makeFunc fn first cap).run Try.prog w = .ok (.func fn first cap) w := fun _ _ _ _ => rfl
  go_enter Try.func29, Try.ntmps29
  go_wp2
  go_loopw [9] (fun i wr => ∃ k : Nat, i = .int .i64 k ∧ k ≤ ids.length ∧ Below w.heap.size w wr ∧ Hid (∀ id ∈ ids.take k, 0 ≤ placeI l id)) (fun i _ => ids.length - (intOf i).toNat)
  case atStart => exact ⟨0, rfl, Nat.zero_le _, Below.refl _ _, fun j h => by simp at h⟩
  case round =>
    obtain ⟨k, rfl, hk, hB, H⟩ := hrel
    by_cases hkl : k < ids.length
    · obtain ⟨b, off, rfl, hb, hc⟩ := (h2.below hB) k hkl
      have x0 := hc k hkl
      clear hc
      have hA := below_alloc wr (.cells #[.int .i64 (ids.getD k 0)] 3)
      have hp : (wr.alloc (.cells #[.int .i64 (ids.getD k 0)] 3)).cell? ⟨wr.heap.size, 0, none⟩ = some (.int .i64 (ids.getD k 0)) := by rw [World.cell?_alloc_at _ _ _ _ rfl]; rfl
      have HG : Hid (ids.getD k 0 = ids[k]) := by unfold Hid; simp [hkl]
      generalize ids.getD k 0 = id at *
      go_wp2_with fail
      refine (containsThere_any a c l id wr.heap.size _ (h.below (hB.trans (hA.mono hB.size))) hl hp (by simp)).mono ?_
      rintro e w1 ⟨rfl, hb1⟩
      have hB1 := (hB.trans (hA.mono hB.size)).trans (hb1.mono (Nat.le_trans hB.size hA.size))
      clear hb1 x0 hp hA
      by_cases hq : 0 ≤ placeI l id
      · have HN : Hid (∀ id ∈ ids.take (k + 1), 0 ≤ placeI l id) := fun j hj => by
          rw [List.take_succ_eq_append_getElem hkl] at hj
          rcases List.mem_append.1 hj with q | q
          · exact H.out j q
          · rw [List.mem_singleton.1 q, ← HG.out]; exact hq
        rw [show decide (0 ≤ placeI l id) = true by simpa using hq]
        clear hq
        go_wp2
        go_roundw
        case rel => exact ⟨k + 1, by go_num, by omega, hB1, HN⟩
        case measure => simp [intOf]; omega
      · have HR : Hid (thereE l ids = 5) := by
          unfold Hid thereE
          rw [if_neg]
          intro q
          have := List.all_eq_true.1 q _ (List.getElem_mem hkl)
          rw [← HG.out] at this
          exact hq (by simpa using this)
        rw [show decide (0 ≤ placeI l id) = false by simpa using hq]
        clear hq
        go_wp2
        go_ret
        exact ⟨ret_int HR.out.symm, hB1⟩
    · have HR : Hid (thereE l ids = 0) := by
        unfold Hid thereE
        rw [if_pos]
        rw [List.all_eq_true]
        intro id hid
        simpa using H.out id (by rw [List.take_of_length_le (by omega)]; exact hid)
      go_wp2
      go_ret
      exact ⟨ret_int HR.out.symm, hB⟩
end Go.Proofs.Ytehmlpkapjdhkaa
