import Derived.Test.YtehmlpkapjdhkaaF5
namespace Go.Proofs.Ytehmlpkapjdhkaa
open Go.RowKit Go.Shelf
attribute [local go_sem] Oper.semAt_some

/-- what a part of them adds. -/
def foldC {Q : Pl → Prop} (on : Ob → List Int) (ids : List Int) (pre : List (Come Q)) : List Int := pre.foldl (fun S r => stepF on S r.1.2.x) ids
theorem foldC_snoc {Q : Pl → Prop} (on : Ob → List Int) (ids : List Int) (pre : List (Come Q)) (x : Come Q) : foldC on ids (pre ++ [x]) = stepF on (foldC on ids pre) x.1.2.x := by simp [foldC]
theorem size64 (S : List Int) : (Try.prog.info? 57).map (·.size) = some (marksL S).size := by rw [marksL_size]; kernel_rfl

theorem wide_load_row {n : Nat} {o : Oper} {a : Act} {w : World} {K : Act → World → Prop} {Q : Exit → Act → World → Prop} (x : Operand) (ho : o.op = .load 57 x)
    (g : Nat) (hx : a.eval x = .pointer (some ⟨g, 0, none⟩)) (S : List Int) (hg : w.heap[g]? = some (.cells (marksL S) 57)) (h : K (a.put o.dst (.agg (marksL S))) w) : o.wpIn Fence.wide n Try.prog a w K Q := by
  refine ⟨fun _ _ => trivial, ?_⟩
  have : (o.semAt Fence.wide.round a.eval).run Try.prog w = .ok (.value (.agg (marksL S))) w := by
    show (execOp a.eval o).run Try.prog w = _
    unfold execOp
    simp only [ho, hx, Instr.loadAt, Instr.sureAddr, Sem.run_bind, Sem.run_pure, Result.andThen_ok, run_loadVar_row w g 57 57 (marksL S) (0, 0) _ hg Try.underlying57 rfl (size64 S)]
  rw [this]
  exact h
theorem run_store_marks (w : World) (g : Nat) (S T : List Int) (hg : w.heap[g]? = some (.cells (marksL T) 57)) :
    (storeCells ⟨g, 0, none⟩ (marksL S).toList).run Try.prog w = .ok () (w.setRow g (marksL S)) := by
  have := run_storeCells_from (P := Try.prog) g 57 (marksL S).toList 0 (marksL T) w hg (by rw [Nat.zero_add, Array.length_toList, marksL_size, marksL_size]) (fun v hv => (Array.all_eq_true_iff_forall_mem.1 (marksL_one S)) v (by simpa using hv))
  simpa using this
theorem results_marks (tmps : Array Value) (g : Nat) (w : World) (ht : tmps[6]?.getD undef = .pointer (some ⟨g, 0, none⟩)) (S : List Int) (hg : w.heap[g]? = some (.cells (marksL S) 57)) :
    (results Try.f31 tmps).run Try.prog w = .ok (.agg (marksL S)) w := by
  simp [results, Try.results31, ht, asAddr, run_loadVar_row w g 57 57 (marksL S) (0, 0) _ hg Try.underlying57 rfl (size64 S)]

end Go.Proofs.Ytehmlpkapjdhkaa
