import Derived.Test.YtehmlpkapjdhkaaA6
namespace Go.Proofs.Ytehmlpkapjdhkaa
open Go.RowKit

/-- n numbers of a text from k on. -/
def part (s : ByteArray) (k n : Nat) : List Int := ((nums s).drop k).take n
theorem part_len {s : ByteArray} {k n : Nat} (h : k + n ≤ s.size) : (part s k n).length = n := by
  rw [part, List.length_take, List.length_drop, nums_len]; omega
theorem part_zero (s : ByteArray) (k : Nat) : part s k 0 = [] := by rw [part, List.take_zero]
theorem part_succ {s : ByteArray} {k n : Nat} (h : k + n < s.size) : part s k (n + 1) = part s k n ++ [(s[k + n].toNat : Int)] := by
  have h1 : n < ((nums s).drop k).length := by rw [List.length_drop, nums_len]; omega
  have h2 : ((nums s).drop k)[n] = (s[k + n].toNat : Int) := by
    have := nums_at s (k + n) h
    rw [List.getElem_drop]
    exact Option.some.inj ((List.getElem?_eq_getElem _).symm.trans this)
  rw [part, part, List.take_succ_eq_append_getElem h1, h2]
theorem part_bd (s : ByteArray) (k n : Nat) : ∀ x ∈ part s k n, 0 ≤ x ∧ x ≤ 255 := fun x hx => nums_bd s x (List.mem_of_mem_drop (List.mem_of_mem_take hx))

theorem holds_own {w : World} {base g n cap : Nat} {L : List Int} (h : w.ownsRow base 3 1 (.slice (some ⟨g, 0, none⟩) n cap) n (L.map (Value.int .i64))) (hn : L.length = n) : Holds w (some ⟨g, 0, none⟩) L := by
  intro i hi
  refine ⟨g, 0, rfl, ?_, fun j hj => ?_⟩
  · exact (h.lt g rfl).2
  · rw [Nat.zero_add, h.cellAt j (by omega)]
    simp [List.getElem?_eq_getElem hj]

theorem Stays.grownBy {p : Nat} {w w' : World} (h : Stays p none w w') : w.grownBy w' (some p) :=
  ⟨h.os, h.tape, h.output, h.size, fun k hk hr => h.block k hk (fun e => hr (by rw [e])) (by simp)⟩

theorem owns_stays {p base n : Nat} {e : TypeId} {v : Value} {xs : List Value} {w w' : World} (h : w.ownsRow base e 1 v n xs) (hs : Stays p none w w') (hp : p < base) : w'.ownsRow base e 1 v n xs :=
  h.kept hs.grownBy (Or.inr (fun ee => by have := (h.lt p ee).1; omega))

theorem own_shape {w : World} {base n : Nat} {v : Value} {L : List Int} (h : w.ownsRow base 3 1 v n (L.map (Value.int .i64))) (hn : L.length = n) : ∃ a cap, v = .slice a n cap ∧ Holds w a L ∧ ∀ b off, a = some ⟨b, off, none⟩ → base ≤ b := by
  by_cases h0 : 0 < n
  · obtain ⟨g, cap, rfl, hg, _⟩ := h.form h0
    exact ⟨_, cap, rfl, holds_own h hn, fun b off e => by cases e; exact hg⟩
  · have e0 : n = 0 := by omega
    subst e0
    rcases h.2 with ⟨rfl, _⟩ | ⟨g, cap, cur, rfl, hg, _⟩
    · exact ⟨none, 0, rfl, fun i hi => by omega, fun b off e => by cases e⟩
    · exact ⟨_, cap, rfl, fun i hi => by omega, fun b off e => by cases e; exact hg⟩

end Go.Proofs.Ytehmlpkapjdhkaa
