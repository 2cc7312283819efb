import Derived.Test.YtehmlpkapjdhkaaD19a
namespace Go.Proofs.Ytehmlpkapjdhkaa
open Go.RowKit

set_option maxHeartbeats 800000 in
theorem storeParts_bad (a : Option Addr) (c : Nat) (l : List Ob) (n : Int) (w : World) (h : HoldsS w a l) (hl : l.length ≤ 9223372036854775807) (hz : (checkS l != 0) = true) :
    Calls Try.prog 3 #[.slice a l.length c, .int .i64 n] w fun e w' => e = .returned (.bool true) ∧ Below w.heap.size w w' := by
  go_enter Try.func3, Try.ntmps3
  go_wp2_with fail
  refine (storeBegun_any w).mono ?_
  rintro e w1 ⟨rfl, hb1⟩
  go_wp2_with fail
  refine (checkS_any a c l w1 (h.below hb1) hl).mono ?_
  rintro e w2 ⟨rfl, hb2⟩
  have hB2 := hb1.trans (hb2.mono hb1.size)
  clear hb1 hb2
  go_wp2
  go_ret
  exact ⟨rfl, hB2⟩

set_option maxHeartbeats 800000 in
theorem storeParts_out (a : Option Addr) (c : Nat) (l : List Ob) (n : Int) (w : World) (h : HoldsS w a l) (hl : l.length ≤ 9223372036854775807) (HE : Hid (checkS l = 0)) (hn : n < 0 ∨ (l.length : Int) < n) :
    Calls Try.prog 3 #[.slice a l.length c, .int .i64 n] w fun e w' => e = .returned (.bool true) ∧ Below w.heap.size w w' := by
  go_enter Try.func3, Try.ntmps3
  go_wp2_with fail
  refine (storeBegun_any w).mono ?_
  rintro e w1 ⟨rfl, hb1⟩
  go_wp2_with fail
  refine (checkS_any a c l w1 (h.below hb1) hl).mono ?_
  rintro e w2 ⟨rfl, hb2⟩
  rw [HE.out]
  have hB2 := hb1.trans (hb2.mono hb1.size)
  clear hb1 hb2
  by_cases h0 : n < 0
  · have hd0 : decide (n < 0) = true := by simpa using h0
    go_wp2
    go_ret
    exact ⟨rfl, hB2⟩
  · have hd0 : decide (n < 0) = false := by simpa using h0
    have h1 : (l.length : Int) < n := by omega
    have hd1 : decide ((l.length : Int) < n) = true := by simpa using h1
    go_wp2
    go_ret
    exact ⟨rfl, hB2⟩

theorem storeParts_any (a : Option Addr) (c : Nat) (l : List Ob) (n : Int) (w : World) (h : HoldsS w a l) (hl : l.length ≤ 9223372036854775807) (hlc : l.length ≤ c) :
    Calls Try.prog 3 #[.slice a l.length c, .int .i64 n] w fun e w' => e = .returned (.bool true) ∧ Below w.heap.size w w' := by
  by_cases he : checkS l = 0
  · by_cases hn : n < 0 ∨ (l.length : Int) < n
    · exact storeParts_out a c l n w h hl he hn
    · have hm : (l.take n.toNat).length = n.toNat := by rw [List.length_take]; omega
      have hmn : ((l.take n.toNat).length : Int) = n := by rw [hm]; omega
      have := storeParts_loop a c l (l.take n.toNat) w h (by omega) (by unfold Hid; rw [hm]) (by omega) he (checkS_zero he).1 (checkS_take he _)
      rw [hmn] at this
      exact this
  · exact storeParts_bad a c l n w h hl (by simpa using he)
end Go.Proofs.Ytehmlpkapjdhkaa
