import Derived.Test.YtehmlpkapjdhkaaGreatDoorME
import Derived.Test.YtehmlpkapjdhkaaGreatDoorMG
import Derived.SliceStrings
namespace Go.Proofs.YtehmlpkapjdhkaaGreatDoor
open Go.ChangeShapes Go.WideShapes Go.ChangeAt Go.RowKit Go.Joins Go.Deep

set_option maxRecDepth 100000 in
/-- A list of strings that comes in, opened. -/
theorem open_texts {H : Type} {enc : TypeId × Value → H} {W : World} {r : Reach} {b0 : Nat} {v : Value} {d : DataW H} {p : List MemPlace}
    (hv : Value.okWide Tryz.prog W r b0 93 v) (h : DataW.Trod enc Tryz.prog W 0 (fun _ => true) true 93 v d p) :
    ∃ (a : Option Addr) (c : Nat) (l : List ByteArray), v = .slice a l.length c ∧ HoldsT W a l := by
  obtain ⟨a0, len0, cap0, rfl⟩ := okWide_slice Tryz.underlying93 hv
  obtain ⟨fuel, hf⟩ := h
  have hf' : DataW.trod enc Tryz.prog W 0 (fun _ => true) true fuel 93 [.slice a0 len0 cap0] = some (d, p) := hf
  rcases open_strings Tryz.underlying93 Tryz.underlying9 (by kernel_rfl) hf' with ⟨e, _⟩ | ⟨a, len, cap, ss, e, _, hl, hm, hss, _, hc, _⟩
  · simp only [List.cons.injEq, and_true] at e
    rw [e]
    exact ⟨none, 0, [], rfl, fun i hi => by simp at hi⟩
  · simp only [List.cons.injEq, and_true] at e
    rw [e]
    simp only [if_true] at hss
    have htl : (ss.take len).length = len := by rw [List.length_take]; omega
    refine ⟨some a, cap, ss.take len, by rw [htl], fun i hi => ?_⟩
    have hpos : 0 < len := by omega
    obtain ⟨b, off, spot⟩ := a
    have hsp : spot = none := by
      have := hc 0 (by omega)
      exact World.cell?_spot this
    subst hsp
    have hadd : ∀ j, (⟨b, off, none⟩ : Addr).add j = ⟨b, off + j, none⟩ := fun j => by rw [add_plain]
    refine ⟨b, off, rfl, ?_, fun j hj => ?_⟩
    · have := hc 0 (by omega)
      rw [hadd] at this
      exact lt_of_cell (a := ⟨b, off + 0, none⟩) this
    · rw [htl] at hj
      have := hc j (by omega)
      rw [hadd] at this
      rw [this, List.getElem_take]
      congr 2
      rw [List.getD_eq_getElem?_getD, List.getElem?_eq_getElem (by omega)]
      rfl
end Go.Proofs.YtehmlpkapjdhkaaGreatDoor
