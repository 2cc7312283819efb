import Derived.Test.YtbppoffhpmoplacDoorD6
namespace Go.Proofs.YtbppoffhpmoplacDoor
open Go.RowKit

theorem wpList_append_run {ops : Array Oper} {rest : List Oper} {o : Oper} {a : Act} {w : World} {Q : Exit → Act → World → Prop} (hgd : o.guard = none) (d s : Operand)
    (ho : o.op = .call { callee := .builtin .append, args := #[d, s], argTypes := #[23, 3] }) (v u : Value) (hd : a.eval d = v) (hs : a.eval s = u) {v' : Value} {w' : World}
    (hr : (Builtin.append_ #[23, 3] o.type #[v, u]).run Tryd.prog w = .ok v' w') (h : wpList Tryd.prog ops Q rest (a.put o.dst v') w') : wpList Tryd.prog ops Q (o :: rest) a w := by
  refine wpList_plain hgd fun K hK => ?_
  unfold Oper.wp execOp
  simp only [ho, resolve, invoke, builtin, Sem.run_bind, Sem.run_pure, Result.andThen_ok, List.map_toArray, List.map_cons, List.map_nil, hd, hs, hr]
  exact hK _ _ h

theorem grow_list (X Y R0 : List Value) (i n : Nat) (hX : n * 4 ≤ X.length) (hi : i < n) (hY : Y.length = 4) (hR : (n + 1) * 4 ≤ R0.length) (hR0 : R0.take (i * 4) = X.take (i * 4)) :
    let Z := (X.drop (i * 4)).take ((n - i) * 4)
    let R1 := R0.take (i * 4) ++ Y ++ R0.drop (i * 4 + Y.length)
    let R2 := R1.take ((i + 1) * 4) ++ Z ++ R1.drop ((i + 1) * 4 + Z.length)
    R2.take ((n + 1) * 4) = X.take (i * 4) ++ Y ++ Z ∧ R2.length = R0.length ∧ R1.length = R0.length := by
  intro Z R1 R2
  have hZ : Z.length = (n - i) * 4 := by show ((X.drop (i * 4)).take ((n - i) * 4)).length = _; rw [List.length_take, List.length_drop]; omega
  have hT : (X.take (i * 4)).length = i * 4 := by rw [List.length_take]; omega
  have h1 : R1.length = R0.length := by
    show (R0.take (i * 4) ++ Y ++ R0.drop (i * 4 + Y.length)).length = _
    simp only [List.length_append, List.length_take, List.length_drop]; omega
  have e1 : R1.take ((i + 1) * 4) = X.take (i * 4) ++ Y := by
    show (R0.take (i * 4) ++ Y ++ R0.drop (i * 4 + Y.length)).take ((i + 1) * 4) = _
    rw [hR0, show (i + 1) * 4 = (X.take (i * 4) ++ Y).length by rw [List.length_append]; omega, List.take_left]
  refine ⟨?_, ?_, h1⟩
  · show (R1.take ((i + 1) * 4) ++ Z ++ R1.drop ((i + 1) * 4 + Z.length)).take ((n + 1) * 4) = _
    rw [e1, show (n + 1) * 4 = (X.take (i * 4) ++ Y ++ Z).length by simp only [List.length_append]; omega, List.take_left]
  · show (R1.take ((i + 1) * 4) ++ Z ++ R1.drop ((i + 1) * 4 + Z.length)).length = _
    rw [e1]
    simp only [List.length_append, List.length_drop]; omega

end Go.Proofs.YtbppoffhpmoplacDoor
