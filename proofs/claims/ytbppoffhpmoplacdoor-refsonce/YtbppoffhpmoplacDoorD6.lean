import Derived.Test.YtbppoffhpmoplacDoorD5
import Derived.Lib.Overlaps
import Derived.Lib.AppendZerosOnto
import Derived.Laws.CopyRow
namespace Go.Proofs.YtbppoffhpmoplacDoor
open Go.RowKit

theorem Tryd.info63 : (Tryd.prog.info? 63).map (fun i => (i.zero, i.size, i.bytes)) = some (some (.agg #[.int .i64 0, .int .i64 0, .slice none 0 0, .string { data := #[] }]), 4, 56) := by kernel_rfl

/-- copy over rows of objects. -/
theorem run_copy4 (w : World) (ty : TypeId) (g o dLen dCap : Nat) (a : Addr) (sLen sCap : Nat) (cur : Array Value) (t : TypeId) (cs : List Value)
    (hg : w.heap[g]? = some (.cells cur t (0, 0))) (hn : cs.length = Nat.min sLen dLen * 4)
    (hsrc : ∀ j v, cs[j]? = some v → w.cell? (a.add j) = some v) (hfit : o + cs.length ≤ cur.size) (h1 : ∀ v ∈ cs, v.oneCell' = true) :
    (Builtin.copy_ #[23, 23] ty #[.slice (some ⟨g, o, none⟩) dLen dCap, .slice (some a) sLen sCap]).run Tryd.prog w =
      .ok (goInt (Nat.min sLen dLen)) (w.setRow g (cur.toList.take o ++ cs ++ cur.toList.drop (o + cs.length)).toArray) := by
  obtain ⟨i0, hi, hz0, hz1, hz2⟩ := info_parts Tryd.info63
  have hl := run_loadCells_list (P := Tryd.prog) w a cs hsrc
  have hst := run_storeCells_at Tryd.prog g o t cs 0 cur w hg (by simpa using hfit) h1
  simp [Builtin.copy_, run_underlying Tryd.underlying23, Builtin.lenOf, Builtin.firstCells, sizeOf, typeInfo, hi, hz1, ← hn, hl, hst]

theorem mem_mid {X : List Value} {i n : Nat} {v : Value} (hi : i < n) (h : v ∈ (X.drop (i * 4)).take ((n - i) * 4)) : v ∈ X.take (n * 4) := by
  rw [List.take_drop, show i * 4 + (n - i) * 4 = n * 4 by omega] at h
  exact List.mem_of_mem_drop h

theorem ins_list (X Y : List Value) (i n : Nat) (hX : (n + 1) * 4 ≤ X.length) (hi : i < n) (hY : Y.length = 4) :
    let C1 := X.take ((i + 1) * 4) ++ (X.drop (i * 4)).take ((n - i) * 4) ++ X.drop ((i + 1) * 4 + ((X.drop (i * 4)).take ((n - i) * 4)).length)
    (C1.take (i * 4) ++ Y ++ C1.drop (i * 4 + Y.length)).take ((n + 1) * 4) = X.take (i * 4) ++ Y ++ (X.drop (i * 4)).take ((n - i) * 4) ∧ (C1.take (i * 4) ++ Y ++ C1.drop (i * 4 + Y.length)).length = X.length := by
  intro C1
  have hM : ((X.drop (i * 4)).take ((n - i) * 4)).length = (n - i) * 4 := by rw [List.length_take, List.length_drop]; omega
  have hA : (X.take ((i + 1) * 4)).length = (i + 1) * 4 := by rw [List.length_take]; omega
  have e1 : C1.take (i * 4) = X.take (i * 4) := by
    show (X.take ((i + 1) * 4) ++ _ ++ _).take (i * 4) = _
    rw [List.append_assoc, List.take_append_of_le_length (by omega), List.take_take]
    congr 1; omega
  have e2 : C1.drop (i * 4 + Y.length) = (X.drop (i * 4)).take ((n - i) * 4) ++ X.drop ((i + 1) * 4 + ((X.drop (i * 4)).take ((n - i) * 4)).length) := by
    show (X.take ((i + 1) * 4) ++ _ ++ _).drop (i * 4 + Y.length) = _
    rw [List.append_assoc, hY, show i * 4 + 4 = (X.take ((i + 1) * 4)).length by omega, List.drop_left]
  rw [e1, e2]
  have hT : (X.take (i * 4)).length = i * 4 := by rw [List.length_take]; omega
  constructor
  · rw [← List.append_assoc, show (n + 1) * 4 = (X.take (i * 4) ++ Y ++ (X.drop (i * 4)).take ((n - i) * 4)).length by simp only [List.length_append]; omega, List.take_left]
  · simp only [List.length_append, List.length_drop]; omega

/-- 'copy' where its run is known: at a step of a drawn region, and in a plain one. -/
theorem step_copy_run {ops : Array Oper} {o : Oper} {a : Act} {w : World} {K : Act → World → Prop} {Q : Exit → Act → World → Prop} {E : Prop} (hgd : o.guard = none) (d s : Operand)
    (ho : o.op = .call { callee := .builtin .copy, args := #[d, s], argTypes := #[23, 23] }) (v u : Value) (hd : a.eval d = v) (hs : a.eval s = u) {v' : Value} {w' : World}
    (hr : (Builtin.copy_ #[23, 23] o.type #[v, u]).run Tryd.prog w = .ok v' w') (h : K (a.put o.dst v') w') : if Region.wanted o (yielded ops a.tmps) = true then Oper.wp Tryd.prog o a w K Q else E := by
  have hw : Region.wanted o (yielded ops a.tmps) = true := by simp [Region.wanted, hgd]
  rw [if_pos hw]
  unfold Oper.wp execOp
  simp only [ho, resolve, invoke, builtin, Sem.run_bind, Sem.run_pure, Result.andThen_ok, List.map_toArray, List.map_cons, List.map_nil, hd, hs, hr]
  exact h
theorem wpList_copy_run {ops : Array Oper} {rest : List Oper} {o : Oper} {a : Act} {w : World} {Q : Exit → Act → World → Prop} (hgd : o.guard = none) (d s : Operand)
    (ho : o.op = .call { callee := .builtin .copy, args := #[d, s], argTypes := #[23, 23] }) (v u : Value) (hd : a.eval d = v) (hs : a.eval s = u) {v' : Value} {w' : World}
    (hr : (Builtin.copy_ #[23, 23] o.type #[v, u]).run Tryd.prog w = .ok v' w') (h : wpList Tryd.prog ops Q rest (a.put o.dst v') w') : wpList Tryd.prog ops Q (o :: rest) a w := by
  refine wpList_plain hgd fun K hK => ?_
  unfold Oper.wp execOp
  simp only [ho, resolve, invoke, builtin, Sem.run_bind, Sem.run_pure, Result.andThen_ok, List.map_toArray, List.map_cons, List.map_nil, hd, hs, hr]
  exact hK _ _ h

end Go.Proofs.YtbppoffhpmoplacDoor
