import Derived.Test.YtbppoffhpmoplacDoorD10
namespace Go.Proofs.YtbppoffhpmoplacDoor
open Go.RowKit

/-- 'append' where its run is known, at a step of a drawn region. -/
theorem step_append_run {ops : Array Oper} {o : Oper} {a : Act} {w : World} {K : Act → World → Prop} {Q : Exit → Act → World → Prop} {E : Prop} (hgd : o.guard = none) (d s : Operand)
    (ho : o.op = .call { callee := .builtin .append, args := #[d, s], argTypes := #[23, 23] }) (v u : Value) (hd : a.eval d = v) (hs : a.eval s = u) {v' : Value} {w' : World}
    (hr : (Builtin.append_ #[23, 23] o.type #[v, u]).run Tryd.prog w = .ok v' w') (h : K (a.put o.dst v') w') : if Region.wanted o (yielded ops a.tmps) = true then Oper.wp Tryd.prog o a w K Q else E := by
  have hw : Region.wanted o (yielded ops a.tmps) = true := by simp [Region.wanted, hgd]
  rw [if_pos hw]
  unfold Oper.wp execOp
  simp only [ho, resolve, invoke, builtin, Sem.run_bind, Sem.run_pure, Result.andThen_ok, List.map_toArray, List.map_cons, List.map_nil, hd, hs, hr]
  exact h

theorem own_slice {w : World} {base : Nat} {v : Value} {n : Nat} {xs : List Value} (h : w.ownsRow base 63 4 v n xs) : ∃ g m c, v = .slice g m c := by
  rcases h.2 with ⟨e, _⟩ | ⟨g, cap, _, e, _⟩
  · exact ⟨_, _, _, e⟩
  · exact ⟨_, _, _, e⟩
theorem Cells4.grown {B : Nat} {x0 x1 x2 x3 : Value} {w w' : World} {row : Option Nat} (h : Cells4 B x0 x1 x2 x3 w) (hg : w.grownBy w' row) (hn : row ≠ some B) : Cells4 B x0 x1 x2 x3 w' := by
  have e := hg.block B h.lt (Ne.symm hn)
  exact ⟨(World.cell?_of_block (a := ⟨B, 0, none⟩) e).trans h.c0, (World.cell?_of_block (a := ⟨B, 1, none⟩) e).trans h.c1, (World.cell?_of_block (a := ⟨B, 2, none⟩) e).trans h.c2, (World.cell?_of_block (a := ⟨B, 3, none⟩) e).trans h.c3,
    (World.frozen?_of_block (a := ⟨B, 0, none⟩) e).trans h.f0, (World.frozen?_of_block (a := ⟨B, 1, none⟩) e).trans h.f1, (World.frozen?_of_block (a := ⟨B, 2, none⟩) e).trans h.f2, (World.frozen?_of_block (a := ⟨B, 3, none⟩) e).trans h.f3, Nat.lt_of_lt_of_le h.lt hg.size⟩

end Go.Proofs.YtbppoffhpmoplacDoor
