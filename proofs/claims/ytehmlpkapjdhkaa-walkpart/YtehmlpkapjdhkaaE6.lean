import Derived.Test.YtehmlpkapjdhkaaE5
namespace Go.Proofs.Ytehmlpkapjdhkaa
open Go.ChangeShapes Go.WideShapes Go.ChangeAt Go.RowKit Go.Joins Go.Deep

/-- A list of ints that comes in, opened; how its datum is weighed. -/
theorem open_nums2 {H : Type} {enc : TypeId × Value → H} {W : World} {r : Reach} {b0 : Nat} {v : Value} {d : DataW H} {p : List MemPlace}
    (hv : Value.okWide Try.prog W r b0 26 v) (h : DataW.Trod enc Try.prog W 0 (fun _ => true) true 26 v d p) :
    ∃ (a : Option Addr) (c : Nat) (L : List Int), v = .slice a L.length c ∧ Holds W a L ∧ L.length ≤ maxLen ∧ L.length ≤ c ∧ (a = none → c = 0) ∧ (L.length = 0 ∨ ∃ elems spare, d = .slice elems spare ∧ elems.length = L.length) := by
  obtain ⟨a0, len0, cap0, rfl⟩ := okWide_slice Try.underlying26 hv
  obtain ⟨fuel, hf⟩ := h
  have hf' : DataW.trod enc Try.prog W 0 (fun _ => true) true fuel 26 [.slice a0 len0 cap0] = some (d, p) := hf
  have hdat : len0 = 0 ∨ ∃ elems spare, d = .slice elems spare ∧ elems.length = len0 := by
    rcases open_slice Try.underlying26 hf' with ⟨e, _⟩ | ⟨a', len', cap, m, n, D, Pl, e, _, hl, hm, hmm, hx, _⟩
    · simp only [List.cons.injEq, and_true, Value.slice.injEq] at e
      exact .inl e.2.1
    · simp only [List.cons.injEq, and_true, Value.slice.injEq] at e
      refine .inr ⟨_, _, congrArg Prod.fst hx, ?_⟩
      rw [List.length_map, List.length_range, e.2.1]
  rcases open_ints Try.underlying26 Try.underlying3 Try.cells3 hf' with ⟨e2, _⟩ | ⟨a, len, cap, zs, e2, _, hl, hm, hz, _, hcell, _⟩
  · simp only [List.cons.injEq, and_true] at e2
    rw [e2]
    exact ⟨none, 0, [], rfl, fun i hi => by simp at hi, by simp, by simp, fun _ => rfl, .inl rfl⟩
  · simp only [List.cons.injEq, and_true] at e2
    rw [e2]
    simp only [if_true] at hz
    have hlen : (zs.take len).length = len := by rw [List.length_take]; omega
    have e3 : len0 = len := by simp only [Value.slice.injEq] at e2; exact e2.2.1
    refine ⟨some a, cap, zs.take len, by rw [hlen], fun i hi => ?_, by omega, by omega, (fun e => by cases e), ?_⟩
    · have hi' : i < (zs.take len).length := hi
      obtain ⟨b, off, rfl, hc⟩ := ints_at hcell (by omega)
      refine ⟨b, off, rfl, lt_of_cell (a := ⟨b, off + 0, none⟩) (hc 0 (by omega)), fun j hj => ?_⟩
      have hj' : j < (zs.take len).length := hj
      rw [hc j (by omega)]
      simp only [List.getD_eq_getElem?_getD, List.getElem?_take, if_pos (show j < len by omega)]
    · rw [hlen, ← e3]; exact hdat
end Go.Proofs.Ytehmlpkapjdhkaa
