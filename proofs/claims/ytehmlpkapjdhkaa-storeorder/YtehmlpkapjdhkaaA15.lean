import Derived.Test.YtehmlpkapjdhkaaA14
import Derived.ProofKit
import Derived.OpenShut
import Derived.Lib.SmallJoins
namespace Go.Proofs.Ytehmlpkapjdhkaa
open Go.ChangeShapes Go.WideShapes Go.ChangeAt Go.RowKit Go.Joins

theorem Try.own : ownKnob Try.prog.godebug = none := by kernel_rfl
theorem Try.laidOut : laidOutB Try.prog = true := by kernel_rfl
theorem Try.cells3 : Try.prog.cellsOf 3 = 1 := by kernel_rfl
theorem Try.cells28 : Try.prog.cellsOf 28 = 4 := by kernel_rfl

theorem lt_of_cell {w : World} {a : Addr} {v : Value} (h : w.cell? a = some v) : a.block < w.heap.size := by
  rcases Nat.lt_or_ge a.block w.heap.size with h1 | h1
  · exact h1
  · simp [World.cell?, Array.getElem?_eq_none h1] at h

set_option maxRecDepth 100000 in
/-- An object that comes in, opened. -/
theorem open_object {H : Type} {enc : TypeId × Value → H} {W : World} {r : Reach} {b0 : Nat} {v : Value} {d : DataW H} {p : List MemPlace}
    (hv : Value.okWide Try.prog W r b0 28 v) (h : DataW.Trod enc Try.prog W 0 (fun _ => true) true 28 v d p) :
    ∃ id kind a c L t, v = .agg #[.int .i64 id, .int .i64 kind, .slice a L.length c, .string t] ∧ Holds W a L ∧ L.length ≤ maxLen ∧ t.size ≤ maxLen := by
  obtain ⟨v0, v1, v2, v3, y0, y1, y2, y3, n, rfl, rfl, rfl, h0, h1, h2, h3⟩ := open_agg4 Try.underlying28 (by kernel_rfl) Try.cells28 hv h
  obtain ⟨id, e0, _, _⟩ := DataW.trod_int Try.underlying3 h0
  obtain ⟨kind, e1, _, _⟩ := DataW.trod_int Try.underlying3 h1
  obtain ⟨t, e3, _, ht⟩ := DataW.trod_string Try.underlying9 h3
  simp only [List.cons.injEq, and_true] at e0 e1 e3
  subst e0 e1 e3
  rcases open_ints Try.underlying26 Try.underlying3 Try.cells3 h2 with ⟨e2, _⟩ | ⟨a, len, cap, zs, e2, _, hl, hm, hz, _, hcell, _⟩
  · simp only [List.cons.injEq, and_true] at e2
    subst e2
    exact ⟨id, kind, none, 0, [], t, rfl, fun i hi => by simp at hi, by simp, ht⟩
  · simp only [List.cons.injEq, and_true] at e2
    subst e2
    simp only [if_true] at hz
    have hlen : (zs.take len).length = len := by rw [List.length_take]; omega
    refine ⟨id, kind, some a, cap, zs.take len, t, by rw [hlen], fun i hi => ?_, by omega, ht⟩
    obtain ⟨b, off, rfl, hc⟩ := ints_at hcell (by omega)
    refine ⟨b, off, rfl, lt_of_cell (a := ⟨b, off + 0, none⟩) (hc 0 (by omega)), fun j hj => ?_⟩
    rw [hc j (by omega)]
    simp only [List.getD_eq_getElem?_getD, List.getElem?_take, if_pos (show j < len by omega)]
end Go.Proofs.Ytehmlpkapjdhkaa
