import Derived.Test.YtehmlpkapjdhkaaRows
import Derived.WalkKit
import Derived.WalkSpells
import Derived.WalkLawsBesides
import Derived.Deep.QuietTactic
import Derived.BigQuiet
namespace Go.Proofs.Ytehmlpkapjdhkaa
open Go.RowKit

def Holds (w : World) (a : Option Addr) (L : List Int) : Prop :=
  ∀ i, i < L.length → ∃ b off, a = some ⟨b, off, none⟩ ∧ b < w.heap.size ∧ ∀ i, i < L.length → w.cell? ⟨b, off + i, none⟩ = some (.int .i64 (L.getD i 0))

def sameB (A B : List Int) : Bool := decide (A = B)
def betwB (n lo hi : Int) : Bool := decide (lo ≤ n ∧ n ≤ hi)

theorem ret_bool {a b : Bool} (h : a = b) : Ending.returned (.bool a) = .returned (.bool b) := by rw [h]
theorem sameB_ne {A B : List Int} {k : Nat} {hlt : k < A.length} (h : (A[k] != B[k]?.getD 0) = true) : sameB A B = false := by
  simp only [sameB, decide_eq_false_iff_not]
  intro e
  subst e
  simp [hlt] at h
theorem sameB_step {A B : List Int} {k : Nat} (hl : A.length = B.length) (ht : A.take k = B.take k) (hlt : k < A.length) (h : (A[k] != B[k]?.getD 0) = false) : A.take (k + 1) = B.take (k + 1) := by
  have hb : k < B.length := by omega
  rw [List.take_succ_eq_append_getElem hlt, List.take_succ_eq_append_getElem hb, ht]
  simp [hb] at h
  rw [h]
theorem sameB_end {A B : List Int} {k : Nat} (hk : k ≤ A.length) (hlt : ¬ k < A.length) (hl : A.length = B.length) (ht : A.take k = B.take k) : sameB A B = true := by
  have e : k = A.length := by omega
  subst e
  rw [List.take_length, hl, List.take_length] at ht
  simp [sameB, ht]

set_option maxHeartbeats 400000 in
theorem sameInts_any (a1 : Option Addr) (c1 : Nat) (A : List Int) (a2 : Option Addr) (c2 : Nat) (B : List Int) (w : World)
    (hA : Holds w a1 A) (hB : Holds w a2 B) (lA : A.length ≤ 9223372036854775807) :
    Calls Try.prog 24 #[.slice a1 A.length c1, .slice a2 B.length c2] w fun e w' => e = .returned (.bool (sameB A B)) ∧ ∃ n, w' = w.drewN n := by
  by_cases hl : A.length = B.length
  · have hd : ((A.length : Int) != (B.length : Int)) = false := by simp [hl]
    have HL : Hid (A.length = B.length) := hl
    clear hl
    go_enter Try.func24, Try.ntmps24
    go_wp2
    go_loopw [5] (fun i wr => ∃ k : Nat, i = .int .i64 k ∧ k ≤ A.length ∧ A.take k = B.take k ∧ ∃ n, wr = w.drewN n) (fun i _ => A.length - (intOf i).toNat)
    case atStart => exact ⟨0, rfl, Nat.zero_le _, rfl, 0, rfl⟩
    case round =>
      obtain ⟨k, rfl, hk, hkt, n, rfl⟩ := hrel
      by_cases hlt : k < A.length
      · obtain ⟨b1, o1, rfl, hb1, hc1⟩ := hA k hlt
        obtain ⟨b2, o2, rfl, hb2, hc2⟩ := hB k (by rw [← HL.out]; exact hlt)
        have hlt2 : (k : Int) < (B.length : Int) := by have := HL.out; omega
        have hk1 := hc1 k hlt
        have hk2 := hc2 k (by omega)
        have HT : Hid (A.take k = B.take k) := hkt
        clear hkt hc1 hc2
        have hk1' : ∀ m, (w.drewN m).cell? ⟨b1, o1 + k, none⟩ = some (.int .i64 A[k]) := fun m => by simpa [hlt] using hk1
        have hk2' : ∀ m, (w.drewN m).cell? ⟨b2, o2 + k, none⟩ = some (.int .i64 (B.getD k 0)) := fun m => by simpa using hk2
        clear hk1 hk2
        go_wp2
        go_quiet (fail)
        go_wp2
        · go_ret
          exact ⟨ret_bool (sameB_ne ‹_›).symm, n + nq, by simp⟩
        · go_roundw
          case rel => exact ⟨k + 1, by go_num, by omega, sameB_step HL.out HT.out hlt ‹_›, _, rfl⟩
          case measure => simp [intOf]; omega
      · go_wp2
        go_ret
        exact ⟨ret_bool (sameB_end hk hlt HL.out hkt).symm, _, rfl⟩
  · have hd : ((A.length : Int) != (B.length : Int)) = true := by simp; omega
    go_enter Try.func24, Try.ntmps24
    go_wp2
    go_ret
    exact ⟨by have : ¬ A = B := fun h => hl (by rw [h]); simp [sameB, this], 0, rfl⟩
end Go.Proofs.Ytehmlpkapjdhkaa
