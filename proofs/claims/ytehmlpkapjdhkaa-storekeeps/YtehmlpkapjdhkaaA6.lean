import Derived.Test.YtehmlpkapjdhkaaA5
namespace Go.Proofs.Ytehmlpkapjdhkaa
open Go.RowKit

def nums (s : ByteArray) : List Int := s.data.toList.map (fun b => (b.toNat : Int))
theorem nums_len (s : ByteArray) : (nums s).length = s.size := by rw [nums, List.length_map, Array.length_toList]; rfl
theorem nums_at (s : ByteArray) (k : Nat) (h : k < s.size) : (nums s)[k]? = some (s[k].toNat : Int) := by
  have h' : k < s.data.toList.length := by rw [Array.length_toList]; exact h
  simp only [nums, List.getElem?_map, List.getElem?_eq_getElem h', Option.map_some]
  rfl
theorem nums_bd (s : ByteArray) : ∀ x ∈ nums s, 0 ≤ x ∧ x ≤ 255 := by
  intro x hx
  simp only [nums, List.mem_map] at hx
  obtain ⟨b, _, rfl⟩ := hx
  have := b.toNat_lt
  omega
theorem strOf_nums (s : ByteArray) : strOfNums (nums s) = s := by
  have e : (nums s).map (fun n => UInt8.ofNat n.toNat) = s.data.toList := by
    simp [nums, Function.comp_def]
  unfold strOfNums
  rw [e]

structure Reader (p : Nat) (s : ByteArray) (k : Nat) (w : World) : Prop where
  from' : w.cell? ⟨p, 0, none⟩ = some (.string s)
  at' : w.cell? ⟨p, 1, none⟩ = some (.int .i64 k)
  thaw : w.frozen? ⟨p, 1, none⟩ = false

theorem drewN_heap (w : World) (n : Nat) : (w.drewN n).heap = w.heap := by
  induction n with
  | zero => rfl
  | succ n ih => exact ih

theorem Stays.drewN (p : Nat) (row : Option Nat) (w : World) (n : Nat) : Stays p row w (w.drewN n) := by
  have h := below_drewN (B := w.heap.size) (Below.refl w.heap.size w) n
  exact ⟨h.os, h.tape, h.output, h.size, fun k hk _ _ => h.block k hk⟩

theorem Stays.setCell {p : Nat} {row : Option Nat} {w w' : World} (h : Stays p row w w') (i : Nat) (u : Value) : Stays p row w (w'.setCell ⟨p, i, none⟩ u) :=
  ⟨h.os, h.tape, h.output, by have := h.size; simp [World.setCell]; omega, fun k hk hp hr => (Below.heap_setCell _ _ _ _ hp).trans (h.block k hk hp hr)⟩

theorem Stays.trans {p : Nat} {a b c : World} (h : Stays p none a b) (k : Stays p none b c) : Stays p none a c :=
  ⟨k.os.trans h.os, k.tape.trans h.tape, k.output.trans h.output, Nat.le_trans h.size k.size, fun i hi hp hr => (k.block i (Nat.lt_of_lt_of_le hi h.size) hp hr).trans (h.block i hi hp hr)⟩

theorem Stays.grown {p : Nat} {r : Option Nat} {w wr w1 : World} {o : Obj} (h : Stays p none w wr) (hg : (wr.alloc o).grownBy w1 r) (hr : ∀ g, r = some g → w.heap.size ≤ g) : Stays p none w w1 := by
  refine ⟨hg.os.trans h.os, hg.tape.trans h.tape, hg.output.trans h.output, ?_, fun k hk hp _ => ?_⟩
  · have := hg.size; have := h.size; simp at *; omega
  · have hs := h.size
    rw [hg.block k (by simp; omega) (fun e => by have := hr k e.symm; omega), Below.heap_alloc _ _ _ (by omega)]
    exact h.block k hk hp (by simp)

theorem Reader.step {p k : Nat} {s : ByteArray} {w : World} (h : Reader p s k w) (n : Nat) : Reader p s (k + 1) ((w.drewN n).setCell ⟨p, 1, none⟩ (.int .i64 (k + 1))) := by
  refine ⟨?_, ?_, ?_⟩
  · rw [World.cell?_setCell_other _ _ _ _ (by simp)]; simpa using h.from'
  · exact World.cell?_setCell_same _ _ _ (by simpa using h.at')
  · rw [World.frozen?_setCell]; simpa using h.thaw

theorem Reader.grown {p k : Nat} {s : ByteArray} {w w1 : World} {o : Obj} {r : Option Nat} (h : Reader p s k w) (hp : p < w.heap.size) (hg : (w.alloc o).grownBy w1 r) (hr : some p ≠ r) : Reader p s k w1 :=
  ⟨hg.cell ((World.cell?_alloc_past _ _ _ hp).trans h.from') hr, hg.cell ((World.cell?_alloc_past _ _ _ hp).trans h.at') hr, by
    rw [World.frozen?_of_block (a := ⟨p, 1, none⟩) (hg.block p (by simp; omega) hr)]
    exact (World.frozen?_alloc_past _ _ _ hp).trans h.thaw⟩

end Go.Proofs.Ytehmlpkapjdhkaa
