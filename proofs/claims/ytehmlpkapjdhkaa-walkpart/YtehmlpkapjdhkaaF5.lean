import Derived.Test.YtehmlpkapjdhkaaF4
namespace Go.Proofs.Ytehmlpkapjdhkaa
open Go.RowKit Go.Shelf
attribute [local go_sem] Oper.semAt_some

set_option maxRecDepth 100000 in
set_option maxHeartbeats 1000000 in
theorem back1_nil (n : Nat) (l Bs : Nat) (a : Option Addr) (cap : Nat) (W : World) (hBs : W.cell? ⟨Bs, 0, none⟩ = some (.slice a 0 cap)) :
    CallsIn Fence.wide n Try.prog 52 #[.func (.yield l) #[] #[], .pointer (some ⟨Bs, 0, none⟩)] W fun e W' => (∃ v, e = .returned v) ∧ W' = W := by
  refine callsIn_of_wp Try.func52 rfl trivial ?_ rfl
  simp only [Try.ntmps52, List.size_toArray, List.length_cons, List.length_nil, Nat.reduceAdd, Nat.reduceSub, Array.replicate_succ, Array.replicate_zero, List.push_toArray, List.append_toArray, List.nil_append, List.cons_append]
  gi_wp2
  gi_loopw [3] (fun i wr => i = .int .i64 (-1) ∧ wr = W) (fun _ _ => 0)
  case atStart => exact ⟨rfl, rfl⟩
  case round =>
    obtain ⟨rfl, rfl⟩ := hrel
    gi_wp2
    go_end0
    exact ⟨⟨_, rfl⟩, rfl⟩

theorem back_stops (n : Nat) (hn : 1 ≤ n) (Bs n₀ : Nat) (a : Option Addr) (cap : Nat) (rs : List Pl) (Q : Pl → Prop) (hQ : ∀ k (hk : k < rs.length), Q rs[k]) (hlen : rs.length ≤ 9223372036854775807) (w : World) (hBs : Bs < w.heap.size) (hn₀ : n₀ ≤ w.heap.size)
    (hcell : w.cell? ⟨Bs, 0, none⟩ = some (.slice a rs.length cap))
    (hrows : rs.length = 0 ∨ ∃ b off, a = some ⟨b, off, none⟩ ∧ b < n₀ ∧ ∀ k (hk : k < rs.length) j, j < 4 → w.cell? ⟨b, off + k * 4 + j, none⟩ = (rs[k].cells)[j]?) :
    SeqStopsK Fence.wide n Try.prog 52 #[.pointer (some ⟨Bs, 0, none⟩)] (Come.vals (Q := Q)) (KeptB n₀ Bs) (fun ys => ys.map (fun r => r.1.2) = rs.reverse) (fun _ => True) rs.length w := fun l J Jx W hW _ _ hY h0 => by
  have hc' := (hW.cell (p := ⟨Bs, 0, none⟩) hBs).trans hcell
  rcases hrows with hz | ⟨b, off, rfl, hb, hc⟩
  · rw [hz] at hc'
    refine (back1_nil n l Bs a cap W hc').mono ?_
    rintro e W' ⟨he, rfl⟩
    refine ⟨he, .inl ⟨[], ?_, h0⟩⟩
    rw [List.eq_nil_of_length_eq_zero hz]
    rfl
  · exact back1_in n hn l Bs n₀ b off cap rs Q hQ hlen hb J Jx hY W hc' (fun k hk j hj => ((hW.mono hn₀).cell (p := ⟨b, off + k * 4 + j, none⟩) hb).trans (hc k hk j hj)) h0

/-- what one object adds. -/
def stepF (on : Ob → List Int) (S : List Int) (x : Ob) : List Int := if x.id ∈ S then on x ++ S else S

/-- the memory of 'follow': its function, its answer, its marks. -/
structure FW (w : World) (fv : Value) (S : List Int) (W : World) : Prop where
  bx : W.heap[w.heap.size]? = some (.cells #[fv] 59)
  rz : W.heap[w.heap.size + 1]? = some (.cells (marksL []) 57)
  mm : W.heap[w.heap.size + 1 + 1]? = some (.cells (marksL S) 57)
  bl : Below w.heap.size w W

theorem FW.start (w : World) (fv : Value) : FW w fv [] (((w.alloc (.cells #[fv] 59)).alloc (.cells zM57 57)).alloc (.cells zM57 57)) := by
  have e1 := heap_alloc_new w (.cells #[fv] 59)
  have e2 := heap_alloc_new (w.alloc (.cells #[fv] 59)) (.cells zM57 57)
  have e3 := heap_alloc_new ((w.alloc (.cells #[fv] 59)).alloc (.cells zM57 57)) (.cells zM57 57)
  have b1 := below_alloc w (.cells #[fv] 59)
  have b2 := below_alloc (w.alloc (.cells #[fv] 59)) (.cells zM57 57)
  have b3 := below_alloc ((w.alloc (.cells #[fv] 59)).alloc (.cells zM57 57)) (.cells zM57 57)
  simp only [World.size_alloc] at e2 e3 b2 b3
  rw [zeroMarks] at e2 e3
  refine ⟨?_, ?_, e3, (b1.trans (b2.mono (by omega))).trans (b3.mono (by omega))⟩
  · exact (b3.block _ (by omega)).trans ((b2.block _ (by omega)).trans e1)
  · exact (b3.block _ (by omega)).trans e2

theorem FW.cell {w : World} {fv : Value} {S : List Int} {W : World} (h : FW w fv S W) (i : Nat) (hi : i < 100) : W.cell? ⟨w.heap.size + 1 + 1, i, none⟩ = some (.bool (decide ((i : Int) ∈ S))) := by
  rw [cell_of_row W _ i _ _ _ h.mm, marksL_get S i hi]
theorem FW.thaw {w : World} {fv : Value} {S : List Int} {W : World} (h : FW w fv S W) (i : Nat) : W.frozen? ⟨w.heap.size + 1 + 1, i, none⟩ = false := by
  simp [World.frozen?, h.mm]
theorem FW.mark {w : World} {fv : Value} {S : List Int} {W : World} (h : FW w fv S W) (i : Nat) (hi : i < 100) {T : List Int} (hT : ∀ j, j ∈ T ↔ j = (i : Int) ∨ j ∈ S) : FW w fv T (W.setCell ⟨w.heap.size + 1 + 1, i, none⟩ (.bool true)) := by
  refine ⟨(heap_setCell_other W _ _ _ (by show w.heap.size ≠ w.heap.size + 1 + 1; omega)).trans h.bx, (heap_setCell_other W _ _ _ (by show w.heap.size + 1 ≠ w.heap.size + 1 + 1; omega)).trans h.rz, ?_, h.bl.setCell (p := ⟨w.heap.size + 1 + 1, i, none⟩) (by show w.heap.size ≤ w.heap.size + 1 + 1; omega) _⟩
  rw [heap_setCell_same W _ i _ 57 (.bool true) h.mm, marksL_set S i hi, marksL_congr (T := T)]
  intro j
  rw [hT, List.mem_cons]
theorem FW.below {w : World} {fv : Value} {S : List Int} {W W' : World} (h : FW w fv S W) (hb : Below W.heap.size W W') : FW w fv S W' := by
  have hs : w.heap.size + 1 + 1 < W.heap.size := heap_lt h.mm
  exact ⟨(hb.block _ (by omega)).trans h.bx, (hb.block _ (by omega)).trans h.rz, (hb.block _ (by omega)).trans h.mm, h.bl.trans (hb.mono h.bl.size)⟩
theorem FW.congr {w : World} {fv : Value} {S T : List Int} {W : World} (h : FW w fv S W) (hT : ∀ j, j ∈ T ↔ j ∈ S) : FW w fv T W := by
  refine ⟨h.bx, h.rz, ?_, h.bl⟩
  rw [h.mm, marksL_congr hT]
theorem FW.own {w : World} {fv : Value} {S : List Int} {W W' : World} {row : Option Nat} (h : FW w fv S W) (hg : W.grownBy W' row) {B : Nat} (hB : w.heap.size ≤ B) (hr : ∀ r, row = some r → B ≤ r ∧ ∃ o : Obj, W.heap[r]? = some o ∧ o.isCells = false) : FW w fv S W' := by
  have key : ∀ (k : Nat) (cs : Array Value) (t : TypeId), W.heap[k]? = some (Obj.cells cs t) → W'.heap[k]? = some (Obj.cells cs t) := fun k cs t hk => by
    refine (hg.block k (heap_lt hk) (fun e => ?_)).trans hk
    obtain ⟨_, o, ho, hc⟩ := hr k e.symm
    rw [hk] at ho
    cases ho
    cases hc
  exact ⟨key _ _ _ h.bx, key _ _ _ h.rz, key _ _ _ h.mm, h.bl.grown hg h.bl.size (fun k e => Nat.le_trans hB (hr k e).1)⟩
end Go.Proofs.Ytehmlpkapjdhkaa
