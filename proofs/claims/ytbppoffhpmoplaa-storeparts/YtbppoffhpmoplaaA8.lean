import Derived.Test.YtbppoffhpmoplaaA7
import Derived.Defers
import Derived.Recover
namespace Go.Proofs.Ytbppoffhpmoplaa
open Go.RowKit

theorem catch_idle (q : Addr) (w : World) :
    CallsD Try.prog 34 #[.pointer (some q)] .returning w fun e u' w' => e = .returned (.tuple #[]) ∧ u' = .returning ∧ w' = w := by
  refine callsD_of_wpS Try.func34 rfl fun c₀ cs hu => ?_
  apply wpS_seq
  apply wpS_region
  simp [wpOpsS, go_sem, recoverD, hu, Try.ntmps34, Exit.thenS]
  apply wpS_seq
  apply wpS_seq
  apply wpS_region
  simp [wpOpsS, go_sem, Exit.thenS]
  refine wpS_cond (t := true) (by simp [Act.eval, Array.replicate]) ?_
  simp only [if_true]
  refine wpS_of_wp (wp_ret ?_)
  cases c₀
  simp_all [bodyPostS, results, Try.results34, Exit.thenS]

theorem catch_panicking (b : Nat) (x : Int) (older : List PanicEntry) (w : World) (hc : w.cell? ⟨b, 0, none⟩ = some (.int .i64 x)) (hz : w.frozen? ⟨b, 0, none⟩ = false) (hq : b < w.heap.size) :
    CallsD Try.prog 34 #[.pointer (some ⟨b, 0, none⟩)] (.panicking ({ v := .iface 59 (.agg #[]), recovered := false } :: older)) w fun e u' w' =>
      e = .returned (.tuple #[]) ∧ u' = .panicking ({ v := .iface 59 (.agg #[]), recovered := true } :: older) ∧ w' = (w.setCell ⟨b, 0, none⟩ (.int .i64 5)).alloc (.cells #[] 59) := by
  have hta : ∀ w, (Instr.typeAssert (.iface 59 (.agg #[])) 20 59 true).run Try.prog w = .ok (.tuple #[.agg #[], .bool true]) w := fun _ => by kernel_rfl
  have hz1 : (w.alloc (.cells #[] 59)).frozen? ⟨b, 0, none⟩ = false := (World.frozen?_alloc_past _ _ _ hq).trans hz
  have hc1 : (w.alloc (.cells #[] 59)).cell? ⟨b, 0, none⟩ = some (.int .i64 x) := (World.cell?_alloc_past _ _ _ hq).trans hc
  refine callsD_of_wpS Try.func34 rfl fun c₀ cs hu => ?_
  apply wpS_seq
  apply wpS_region
  simp [wpOpsS, go_sem, recoverD, hu, Try.ntmps34, Exit.thenS]
  refine wpS_of_wp ?_
  have e1 : (#[Value.pointer (some ⟨b, 0, none⟩)] ++ ((Array.replicate 14 undef).setIfInBounds 3 (Value.iface 59 (Value.agg #[]))).setIfInBounds 0 (Value.iface 59 (Value.agg #[]))) = #[Value.pointer (some ⟨b, 0, none⟩), Value.iface 59 (Value.agg #[]), undef, undef, Value.iface 59 (Value.agg #[]), undef, undef, undef, undef, undef, undef, undef, undef, undef, undef] := rfl
  rw [e1]
  clear e1
  go_wp2
  simp [bodyPostS, results, Try.results34]
end Go.Proofs.Ytbppoffhpmoplaa
