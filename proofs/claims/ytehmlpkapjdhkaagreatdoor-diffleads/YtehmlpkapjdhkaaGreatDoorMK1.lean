import Derived.Test.YtehmlpkapjdhkaaGreatDoorMG
namespace Go.Proofs.YtehmlpkapjdhkaaGreatDoor
section
open Go.RowKit
set_option maxRecDepth 100000

theorem ownsRow_from {w : World} {z z' : Nat} {e : TypeId} {size : Nat} {v : Value} {n : Nat} {xs : List Value} (h : w.ownsRow z e size v n xs) (hz : z' ≤ z) : w.ownsRow z' e size v n xs := by
  refine ⟨h.1, ?_⟩
  rcases h.2 with q | ⟨g, cap, cur, q1, q2, q3⟩
  · exact .inl q
  · exact .inr ⟨g, cap, cur, q1, Nat.le_trans hz q2, q3⟩
theorem ownsRow_below {w w' : World} {z : Nat} {e : TypeId} {size : Nat} {v : Value} {n : Nat} {xs : List Value} (h : w.ownsRow z e size v n xs) (hb : Below w.heap.size w w') : w'.ownsRow z e size v n xs :=
  ownsRow_kept h (fun g hg => hb.block g (h.lt g hg).2)
theorem app_none_g {t e : TypeId} {i : TypeInfo} (ht : Tryz.prog.underlying t = some (.slice e)) (hi : Tryz.prog.info? e = some i) (ty : TypeId) (ad : Option Addr) (c : Nat) (w : World) :
    (Builtin.append_ #[t, t] ty #[.slice none 0 0, .slice ad 0 c]).run Tryz.prog w = .ok (.slice none 0 0) w := by
  cases ad <;> simp [Builtin.append_, run_underlying ht, sizeOf, typeInfo, hi, Builtin.lenOf, Builtin.firstCells, loadCells, loadCellsFrom]
theorem Objs.list {w : World} {z : Nat} {m : List Ob} {rs : List Pl} {a : Option Addr} {c : Nat} (e : rs.map Pl.x = m) (o : Objs w z (.slice a m.length c) rs) : HoldsS w a m := by
  obtain ⟨a', c', q, hh, _⟩ := o.reads
  rw [e] at q hh
  cases q
  exact hh
theorem objs_slice {w : World} {z : Nat} {v : Value} {rs : List Pl} {m : List Ob} (e : rs.map Pl.x = m) (o : Objs w z v rs) : ∃ a c, v = .slice a m.length c := by
  obtain ⟨a', c', q, _⟩ := o.reads
  rw [e] at q
  exact ⟨a', c', q⟩
end

section
open Go.RowKit
set_option maxRecDepth 100000

theorem two_blocks (w : World) (A B : Obj) : ((w.alloc A).alloc B).heap[w.heap.size]? = some A ∧ ((w.alloc A).alloc B).heap[w.heap.size + 1]? = some B := by
  have hA2 := below_alloc (w.alloc A) B
  refine ⟨(hA2.block _ (by simp)).trans (heap_alloc_new w _), ?_⟩
  have := heap_alloc_new (w.alloc A) B
  rwa [show (w.alloc A).heap.size = w.heap.size + 1 by simp] at this
end

section
open Go.RowKit
set_option maxRecDepth 100000
end

section
open Go.RowKit
set_option maxRecDepth 100000
end

section
open Go.RowKit
set_option maxRecDepth 100000
end

section
open Go.RowKit
set_option maxRecDepth 100000
end
end Go.Proofs.YtehmlpkapjdhkaaGreatDoor
