import Derived.Test.YtbppoffhpmoplacDoorE5
import Derived.Test.YtbppoffhpmoplacDoorR
namespace Go.Proofs.YtbppoffhpmoplacDoor
open Go.ChangeShapes Go.WideShapes Go.ChangeAt Go.RowKit Go.Joins Go.Deep

theorem Tryd.cells30 : Tryd.prog.cellsOf 30 = 2 := by kernel_rfl

set_option maxRecDepth 100000 in
/-- two cells that read as a ref. -/
theorem cells_ref {H : Type} {enc : TypeId × Value → H} {W : World} {n : Nat} {cs : List Value} {x : DataW H × List MemPlace}
    (hl : cs.length = 2) (h : DataW.trod enc Tryd.prog W 0 (fun _ => true) true n 30 cs = some x) : ∃ r : Rf, cs = [.string r.name, .int .i64 r.id] := by
  obtain ⟨y0, y1, k, _, _, h0, h1⟩ := trod_struct2 Tryd.underlying30 h
  match cs, hl with
  | [v0, v1], _ =>
    have g0 : DataW.trod enc Tryd.prog W 0 (fun _ => true) true k 9 [v0] = some y0 := h0
    have g1 : DataW.trod enc Tryd.prog W 0 (fun _ => true) true k 3 [v1] = some y1 := h1
    obtain ⟨t, e0, _, _⟩ := DataW.trod_string Tryd.underlying9 g0
    obtain ⟨id, e1, _, _⟩ := DataW.trod_int Tryd.underlying3 g1
    simp only [List.cons.injEq, and_true] at e0 e1
    subst e0 e1
    exact ⟨⟨t, id⟩, rfl⟩

set_option maxRecDepth 100000 in
/-- A list of refs that comes in, opened. -/
theorem open_refs {H : Type} {enc : TypeId × Value → H} {W : World} {r : Reach} {b0 : Nat} {v : Value} {d : DataW H} {p : List MemPlace}
    (hv : Value.okWide Tryd.prog W r b0 22 v) (h : DataW.Trod enc Tryd.prog W 0 (fun _ => true) true 22 v d p) :
    ∃ (a : Option Addr) (c : Nat) (l : List Rf), v = .slice a l.length c ∧ HoldsR W a l ∧ l.length ≤ c ∧ c ≤ maxLen := by
  obtain ⟨a0, len0, cap0, rfl⟩ := okWide_slice Tryd.underlying22 hv
  obtain ⟨fuel, hf⟩ := h
  have hf' : DataW.trod enc Tryd.prog W 0 (fun _ => true) true fuel 22 [.slice a0 len0 cap0] = some (d, p) := hf
  rcases open_slice Tryd.underlying22 hf' with ⟨e, _⟩ | ⟨a, len, cap, m, n, D, Pl, e, _, hl, hm, hmm, _, hx⟩
  · simp only [List.cons.injEq, and_true] at e
    rw [e]
    exact ⟨none, 0, [], rfl, fun i hi => by simp at hi, by simp, by simp⟩
  · simp only [List.cons.injEq, and_true] at e
    rw [e]
    simp only [if_true] at hmm
    have each : ∀ i, i < len → ∃ q : Rf, ∀ j, j < 2 → W.cell? ((a.add (i * 2)).add j) = [Value.string q.name, .int .i64 q.id][j]? := fun i hi => by
      obtain ⟨cs', h1, h2⟩ := hx i (by omega)
      rw [Tryd.cells30] at h1
      obtain ⟨_, hlen, hcell⟩ := World.cells?_some h1
      obtain ⟨q, rfl⟩ := cells_ref hlen h2
      exact ⟨q, fun j hj => hcell j hj⟩
    have : Inhabited Rf := ⟨⟨{ data := #[] }, 0⟩⟩
    obtain ⟨q, hq⟩ := choose_lt each
    refine ⟨some a, cap, (List.range len).map fun i => q i, by simp, fun i hi => ?_, by simpa using hl, hm⟩
    have hpos : 0 < len := by simp at hi; omega
    obtain ⟨b, off, spot⟩ := a
    have hsp : spot = none := by
      have := hq 0 hpos 0 (by omega)
      simp [Addr.add] at this
      simpa [Addr.add] using World.cell?_spot this
    subst hsp
    have hadd : ∀ i j, ((⟨b, off, none⟩ : Addr).add (i * 2)).add j = ⟨b, off + i * 2 + j, none⟩ := fun i j => by rw [add_plain, add_plain]
    refine ⟨b, off, rfl, ?_, fun k hk => ?_⟩
    · have := hq 0 hpos 0 (by omega)
      rw [hadd] at this
      exact lt_of_cell (a := ⟨b, off + 0 * 2 + 0, none⟩) (this.trans rfl)
    · have hk' : k < len := by simpa using hk
      have c0 := hq k hk' 0 (by omega)
      have c1 := hq k hk' 1 (by omega)
      rw [hadd] at c0 c1
      simp only [List.getElem_map, List.getElem_range]
      exact ⟨c0, c1⟩
end Go.Proofs.YtbppoffhpmoplacDoor
