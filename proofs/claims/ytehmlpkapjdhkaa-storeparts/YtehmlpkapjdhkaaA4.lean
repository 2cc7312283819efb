import Derived.Test.YtehmlpkapjdhkaaA3
import Derived.Deep.AppendLies
import Derived.Laws.BytesArg
namespace Go.Proofs.Ytehmlpkapjdhkaa
open Go.RowKit

theorem Try.info5 : (Try.prog.info? 5).map (fun i => (i.zero, i.size, i.bytes)) = some (some (.int .u8 0), 1, 1) := by kernel_rfl
theorem Try.info3 : (Try.prog.info? 3).map (fun i => (i.zero, i.size, i.bytes)) = some (some (.int .i64 0), 1, 8) := by kernel_rfl

/-- What stays while block p and one row are written. -/
structure Stays (p : Nat) (row : Option Nat) (w w' : World) : Prop where
  os : w'.os = w.os
  tape : w'.tape = w.tape
  output : w'.output = w.output
  size : w.heap.size ≤ w'.heap.size
  block : ∀ k, k < w.heap.size → k ≠ p → some k ≠ row → w'.heap[k]? = w.heap[k]?

theorem Stays.refl (p : Nat) (row : Option Nat) (w : World) : Stays p row w w := ⟨rfl, rfl, rfl, Nat.le_refl _, fun _ _ _ _ => rfl⟩

/-- one round: a new block, an append onto the row, a store into p. -/
theorem Stays.round {p : Nat} {row r : Option Nat} {w wr w1 : World} {o : Obj} {u : Value} (h : Stays p row w wr) (hg : (wr.alloc o).grownBy w1 r) (hr : r = row ∨ ∃ g, r = some g ∧ w.heap.size ≤ g) :
    Stays p row w (w1.setCell ⟨p, 0, none⟩ u) := by
  refine ⟨hg.os.trans h.os, hg.tape.trans h.tape, hg.output.trans h.output, ?_, fun k hk hp hrow => ?_⟩
  · have := hg.size; have := h.size; simp [World.setCell] at *; omega
  · have hs := h.size
    rw [Below.heap_setCell _ _ _ _ hp, hg.block k (by simp; omega) (by
      rcases hr with rfl | ⟨g, rfl, hge⟩
      · exact hrow
      · intro e; have : k = g := by simpa using e
        omega), Below.heap_alloc _ _ _ (by omega)]
    exact h.block k hk hp hrow

theorem Stays.below {p B : Nat} {row : Option Nat} {w w' : World} (h : Stays p row w w') (hB : B ≤ w.heap.size) (hp : B ≤ p) (hr : ∀ k, row = some k → B ≤ k) : Below B w w' :=
  ⟨h.os, h.tape, h.output, h.size, fun k hk => h.block k (by omega) (by omega) (fun e => by have := hr k e.symm; omega)⟩

theorem u8_same {x : Int} (h : 0 ≤ x ∧ x ≤ 255) : IntKind.u8.wrap x = x := by
  simp [IntKind.wrap, IntKind.bits, IntKind.signed]; omega

theorem put_round {p base n k : Nat} {v vr v' u : Value} {xs : List Value} {N : List Int} {w wr w1 : World} {o : Obj} {g : Nat} (hlt : k < N.length)
    (hst : Stays p v.ownBlock w wr) (hat : vr.ownBlock = v.ownBlock ∨ ∃ g, vr.ownBlock = some g ∧ w.heap.size ≤ g)
    (hpb : p < base) (hcp : w1.cell? ⟨p, 0, none⟩ = some vr) (hfp : w1.frozen? ⟨p, 0, none⟩ = false)
    (hown' : w1.ownsRow base 5 1 v' (n + k + 1) (xs ++ (N.take k).map (Value.int .u8) ++ [.int .u8 N[k]])) (hgrow : (wr.alloc o).grownBy w1 vr.ownBlock) (hat' : vr.ownBlock = some g ∨ g = wr.heap.size + 1) (hvg : v'.ownBlock = some g) :
    (w1.setCell ⟨p, 0, none⟩ u).cell? ⟨p, 0, none⟩ = some u ∧ (w1.setCell ⟨p, 0, none⟩ u).frozen? ⟨p, 0, none⟩ = false ∧
      (w1.setCell ⟨p, 0, none⟩ u).ownsRow base 5 1 v' (n + (k + 1)) (xs ++ (N.take (k + 1)).map (Value.int .u8)) ∧ Stays p v.ownBlock w (w1.setCell ⟨p, 0, none⟩ u) ∧ (v'.ownBlock = v.ownBlock ∨ ∃ g, v'.ownBlock = some g ∧ w.heap.size ≤ g) := by
  refine ⟨World.cell?_setCell_same _ _ _ hcp, (World.frozen?_setCell _ _ _ _).trans hfp, ?_, hst.round hgrow hat, ?_⟩
  · have e : xs ++ (N.take (k + 1)).map (Value.int .u8) = xs ++ (N.take k).map (Value.int .u8) ++ [.int .u8 N[k]] := by
      rw [List.take_succ_eq_append_getElem hlt]; simp only [List.map_append, List.map_cons, List.map_nil, List.append_assoc]
    rw [e, ← Nat.add_assoc]
    exact ownsRow_setCell_below hown' hpb _
  · have := hst.size
    rcases hat' with e | e
    · rw [hvg, ← e]; exact hat
    · exact Or.inr ⟨_, hvg, by omega⟩

end Go.Proofs.Ytehmlpkapjdhkaa
