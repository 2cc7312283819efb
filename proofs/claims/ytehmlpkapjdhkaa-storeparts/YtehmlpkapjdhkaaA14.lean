import Derived.Test.YtehmlpkapjdhkaaA13
namespace Go.Proofs.Ytehmlpkapjdhkaa
open Go.RowKit

theorem nums_append (a b : ByteArray) : nums (a ++ b) = nums a ++ nums b := by
  simp only [nums, ByteArray.data_append, Array.toList_append, List.map_append]
theorem nums_strOf {N : List Int} (h : ∀ x ∈ N, 0 ≤ x ∧ x ≤ 255) : nums (strOfNums N) = N := by
  unfold nums
  rw [strOfNums_data, List.map_map]
  conv => rhs; rw [← List.map_id N]
  refine List.map_congr_left fun x hx => ?_
  have := h x hx
  simp only [Function.comp, id]
  rw [UInt8.toNat_ofNat']
  omega
theorem nums_inj {a b : ByteArray} (h : nums a = nums b) : a = b := by
  rw [← strOf_nums a, ← strOf_nums b, h]
theorem nums_extract (s : ByteArray) (n : Nat) : nums (s.extract 0 n) = (nums s).take n := by
  simp only [nums, ByteArray.data_extract, Array.toList_extract, List.map_take]
  simp

theorem enc_nums {id kind : Int} {L : List Int} {t : ByteArray} (h : checkE id kind L t.size = 0) : nums (strOfNums (encNums id kind L t.size) ++ t) = encN id kind L (nums t) := by
  obtain ⟨h1, h2, h3, h4, h5, _⟩ := checkE_zero h
  rw [nums_append, nums_strOf]
  · simp [encNums, encN, nums_len]
  · intro x hx
    simp only [encNums, List.mem_append, List.mem_cons, List.not_mem_nil, or_false] at hx
    rcases hx with (((rfl | rfl | rfl) | hx) | rfl)
    · omega
    · omega
    · omega
    · have := linksE_mem L 0 0 h5 x hx; omega
    · omega
end Go.Proofs.Ytehmlpkapjdhkaa
