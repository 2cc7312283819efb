import Derived.Test.YtehmlpkapjdhkaaX26
namespace Go.Proofs.Ytehmlpkapjdhkaa
open Go.RowKit

set_option maxHeartbeats 400000 in
theorem objectAt_any (a : Option Addr) (c : Nat) (l : List Ob) (id : Int) (w : World) (h : HoldsS w a l) (hl : l.length ≤ 9223372036854775807) :
    Calls Try.prog 16 #[.slice a l.length c, .int .i64 id] w fun e w' => e = .returned (.int .i64 (placeI l id)) ∧ Below w.heap.size w w' := by
  go_enter Try.func16, Try.ntmps16
  go_wp2
  go_loopw [5] (fun i wr => ∃ k : Nat, i = .int .i64 k ∧ k ≤ l.length ∧ Below w.heap.size w wr ∧ Hid (∀ j (hj : j < l.length), j < k → (l[j].id == id) = false)) (fun i _ => l.length - (intOf i).toNat)
  case atStart => exact ⟨0, rfl, Nat.zero_le _, Below.refl _ _, fun j _ h => absurd h (Nat.not_lt_zero j)⟩
  case round =>
    obtain ⟨k, rfl, hk, hB, H⟩ := hrel
    by_cases hkl : k < l.length
    · obtain ⟨b, off, rfl, hb, hc⟩ := (h.below hB) k hkl
      obtain ⟨sa, sc, x0, x1, x2, x3, x4, x5⟩ := hc k hkl
      clear hc
      by_cases hq : l[k].id = id
      · have HR : Hid (placeI l id = k) := findIdx_hit hkl H.out (by simpa using hq)
        have hq' : (l[k].id == id) = true := by simpa using hq
        clear hq
        go_wp2
        go_ret
        exact ⟨ret_int HR.out.symm, hB⟩
      · have hq' : (l[k].id == id) = false := by simpa using hq
        have HN : Hid (∀ j (hj : j < l.length), j < k + 1 → (l[j].id == id) = false) := fun j hj hjk => by
          rcases Nat.lt_or_ge j k with h1 | h1
          · exact H.out j hj h1
          · have : j = k := by omega
            subst this
            exact hq'
        clear hq
        go_wp2
        go_roundw
        case rel => exact ⟨k + 1, by go_num, by omega, hB, HN⟩
        case measure => simp [intOf]; omega
    · have HR : Hid (placeI l id = -1) := findIdx_miss (fun j hj => H.out j hj (by omega))
      go_wp2
      go_ret
      exact ⟨ret_int HR.out.symm, hB⟩


end Go.Proofs.Ytehmlpkapjdhkaa
