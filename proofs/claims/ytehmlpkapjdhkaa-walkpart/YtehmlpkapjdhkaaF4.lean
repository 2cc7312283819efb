import Derived.Test.YtehmlpkapjdhkaaF3
import Derived.RangeFuncNested
import Derived.RangeFuncBound
import Derived.RangeFuncCalls
import Derived.RangeFuncLeaves
import Derived.Shelf.Abstract
import Derived.Shelf.RegionOpen
import Derived.OwnWalkIn
import Derived.TacticsInMore
import Derived.LoopNIn
import Derived.LoopIn
namespace Go.Proofs.Ytehmlpkapjdhkaa
open Go.RowKit Go.Shelf
attribute [local go_sem] Oper.semAt_some

/-- the marks of a set of ids. -/
def marksL (S : List Int) : Array Value := ((List.range 100).map (fun (j : Nat) => Value.bool (decide ((j : Int) ∈ S)))).toArray
theorem marksL_size (S : List Int) : (marksL S).size = 100 := by simp [marksL]
theorem marksL_get (S : List Int) (i : Nat) (hi : i < 100) : (marksL S)[i]? = some (.bool (decide ((i : Int) ∈ S))) := by
  simp [marksL, hi]
theorem marksL_congr {S T : List Int} (h : ∀ j, j ∈ S ↔ j ∈ T) : marksL S = marksL T := by
  unfold marksL
  congr 2
  funext j
  rw [decide_eq_decide.2 (h j)]
theorem marksL_set (S : List Int) (i : Nat) (_ : i < 100) : (marksL S).setIfInBounds i (.bool true) = marksL ((i : Int) :: S) := by
  apply Array.ext
  · simp [marksL]
  · intro k h1 h2
    have hk : k < 100 := by simpa [marksL] using h2
    by_cases e : i = k
    · subst e
      simp [marksL]
    · have e' : ¬ (k : Int) = (i : Int) := by omega
      rw [Array.getElem_setIfInBounds_ne (by simpa [marksL] using hk) e]
      simp [marksL, e']
/-- marks of nothing, as cells: the value that a new array of marks has (told here, so that it does not hang on how the seat was set up). -/
def zM57 : Array Value := marksL []
@[go_sem high] theorem zM57_value : ∀ (w : World), Go.Sem.run Try.prog (Go.zeroValue 57) w = Go.Result.ok (Go.Value.agg zM57) w := by
  have e : ∀ (w : World), Go.Sem.run Try.prog (Go.zeroValue 57) w = Go.Result.ok (Go.Value.agg (marksL [])) w := by intro w; kernel_rfl
  exact e
@[go_sem] theorem zM57_size : zM57.size = 100 := marksL_size []
@[go_sem] theorem zM57_ne : zM57 ≠ #[] := fun h => by
  have := zM57_size
  rw [h] at this
  cases this
theorem zeroMarks : zM57 = marksL [] := rfl
theorem marksL_one (S : List Int) : (marksL S).all (·.oneCell') = true := by
  rw [Array.all_eq_true_iff_forall_mem]
  intro v hv
  simp [marksL] at hv
  obtain ⟨j, _, rfl⟩ := hv
  rfl

/-- what lies below n₀, and one block, are as they were. -/
def KeptB (n₀ Bs : Nat) (W W' : World) : Prop := Below n₀ W W' ∧ W'.heap[Bs]? = W.heap[Bs]?
theorem KeptB.trans {n₀ Bs : Nat} {A B C : World} (h : KeptB n₀ Bs A B) (k : KeptB n₀ Bs B C) : KeptB n₀ Bs A C := ⟨h.1.trans k.1, k.2.trans h.2⟩
theorem KeptB.book {n₀ Bs : Nat} {w : World} (hn : n₀ ≤ w.heap.size) (hb : Bs < w.heap.size) (W : World) (l : Nat) (o o' : Obj) (hl : w.heap.size ≤ l) (h : W.heap[l]? = some o) (h1 : o.isCells = false) (h2 : o.isWalk = false) : KeptB n₀ Bs W (W.putObj l o') := by
  refine ⟨belowK_b hn W l o o' hl h h1 h2, ?_⟩
  have hlt : l < W.heap.size := heap_lt h
  exact (grownBy_putObj' W l o').block Bs (by omega) (fun e => by cases e; omega)

/-- a thing that comes: the place, and the object; of it Q is known. -/
abbrev Come (Q : Pl → Prop) := { r : Nat × Pl // Q r.2 }
def Come.vals {Q : Pl → Prop} (r : Come Q) : Array Value := #[.int .i64 (r.1.1 : Int), r.1.2.x.val r.1.2.sa r.1.2.sc]

set_option maxRecDepth 100000 in
set_option maxHeartbeats 2000000 in
theorem back1_in (n : Nat) (hn : 1 ≤ n) (l Bs n₀ b off cap : Nat) (rs : List Pl) (Q : Pl → Prop) (hQ : ∀ k (hk : k < rs.length), Q rs[k]) (hlen : rs.length ≤ 9223372036854775807) (hb : b < n₀) (J Jx : List (Come Q) → World → Prop)
    (hY : ∀ (pre : List (Come Q)) (x : Come Q) W, J pre W → pre.length < rs.length → YieldAt Fence.wide (n - 1) Try.prog l x.vals W fun e W' =>
      (e = .returned (.bool true) ∧ J (pre ++ [x]) W' ∧ KeptB n₀ Bs W W') ∨ (e = .returned (.bool false) ∧ Jx (pre ++ [x]) W'))
    (W : World) (hBs : W.cell? ⟨Bs, 0, none⟩ = some (.slice (some ⟨b, off, none⟩) rs.length cap))
    (hc : ∀ k (hk : k < rs.length) j, j < 4 → W.cell? ⟨b, off + k * 4 + j, none⟩ = (rs[k].cells)[j]?) (h0 : J [] W) :
    CallsIn Fence.wide n Try.prog 52 #[.func (.yield l) #[] #[], .pointer (some ⟨Bs, 0, none⟩)] W fun e W' => (∃ v, e = .returned v) ∧
      ((∃ ys : List (Come Q), ys.map (fun r => r.1.2) = rs.reverse ∧ J ys W') ∨ (∃ pre : List (Come Q), True ∧ Jx pre W')) := by
  refine callsIn_of_wp Try.func52 rfl trivial ?_ rfl
  simp only [Try.ntmps52, List.size_toArray, List.length_cons, List.length_nil, Nat.reduceAdd, Nat.reduceSub, Array.replicate_succ, Array.replicate_zero, List.push_toArray, List.append_toArray, List.nil_append, List.cons_append]
  gi_wp2
  gi_loopw [3] (fun i wr => ∃ (j : Nat) (pre : List (Come Q)), j + pre.length = rs.length ∧ i = .int .i64 ((j : Int) - 1) ∧ pre.map (fun r => r.1.2) = rs.reverse.take pre.length ∧ J pre wr ∧ KeptB n₀ Bs W wr)
    (fun i _ => (intOf i + 1).toNat)
  case atStart => exact ⟨rs.length, [], by simp, rfl, by simp, h0, Below.refl _ _, rfl⟩
  case round =>
    obtain ⟨j, pre, hj, rfl, hpre, hJs, hK⟩ := hrel
    cases j with
    | zero =>
      rw [show (((0 : Nat) : Int) - 1) = -1 by rfl]
      have HF : Hid (pre.map (fun r => r.1.2) = rs.reverse) := by
        unfold Hid
        rw [hpre, List.take_of_length_le (by rw [List.length_reverse]; omega)]
      clear hpre
      gi_wp2
      go_end0
      exact ⟨⟨_, rfl⟩, .inl ⟨pre, HF.out, hJs⟩⟩
    | succ j =>
      have hjl : j < rs.length := by omega
      have hjl' : (j : Int) < (rs.length : Int) := by omega
      have hcs := hc j hjl
      have x0 := (hK.1.cell (p := ⟨b, off + j * 4 + 0, none⟩) hb).trans (hcs 0 (by omega))
      have x1 := (hK.1.cell (p := ⟨b, off + j * 4 + 1, none⟩) hb).trans (hcs 1 (by omega))
      have x2 := (hK.1.cell (p := ⟨b, off + j * 4 + 2, none⟩) hb).trans (hcs 2 (by omega))
      have x3 := (hK.1.cell (p := ⟨b, off + j * 4 + 3, none⟩) hb).trans (hcs 3 (by omega))
      have xs := (World.cell?_of_block (a := ⟨Bs, 0, none⟩) hK.2).trans hBs
      obtain ⟨fn, tmps, assign, body, hy, hR⟩ := hY pre ⟨(j, rs[j]), hQ j hjl⟩ wr hJs (by omega)
      simp only [Come.vals] at hy
      have HN : Hid ((pre ++ [(⟨(j, rs[j]), hQ j hjl⟩ : Come Q)]).map (fun r => r.1.2) = rs.reverse.take (pre ++ [(⟨(j, rs[j]), hQ j hjl⟩ : Come Q)]).length) := by
        unfold Hid
        rw [List.map_append, hpre, List.length_append, List.length_singleton, List.take_succ_eq_append_getElem (by rw [List.length_reverse]; omega), List.getElem_reverse]
        simp only [List.map_cons, List.map_nil]
        congr 3
        omega
      clear hcs hpre
      simp only [Pl.cells, List.getElem?_cons_zero, List.getElem?_cons_succ, Nat.add_zero] at x0 x1 x2 x3
      rw [show (((j + 1 : Nat) : Int) - 1) = j by omega]
      gi_wp2
      refine hR.mono ?_
      rintro e W3 (⟨rfl, hJ3, hk3⟩ | ⟨rfl, hJx3⟩)
      · gi_wp2
        go_roundw
        case rel => exact ⟨j, _, by rw [List.length_append, List.length_singleton]; omega, by go_num, HN.out, hJ3, hK.trans hk3⟩
        case measure => simp [intOf]
      · gi_wp2
        refine bodyPost_ret (results_none rfl _ _ _) rfl ?_
        exact ⟨⟨_, rfl⟩, .inr ⟨_, trivial, hJx3⟩⟩

set_option maxHeartbeats 1000000 in
theorem back_in (n : Nat) (a : Option Addr) (len cap : Nat) (w : World) :
    CallsIn Fence.wide n Try.prog 47 #[.slice a len cap] w fun e w' => e = .returned (.func (.func 52) #[] #[.pointer (some ⟨w.heap.size, 0, none⟩)]) ∧ w' = w.alloc (.cells #[.slice a len cap] 22) := by
  refine callsIn_of_wp Try.func47 rfl trivial ?_ rfl
  simp only [Try.ntmps47, List.size_toArray, List.length_cons, List.length_nil, Nat.reduceAdd, Nat.reduceSub, Array.replicate_succ, Array.replicate_zero, List.push_toArray, List.append_toArray, List.nil_append, List.cons_append]
  gi_wp2
  go_ret
  exact ⟨rfl, rfl⟩
end Go.Proofs.Ytehmlpkapjdhkaa
