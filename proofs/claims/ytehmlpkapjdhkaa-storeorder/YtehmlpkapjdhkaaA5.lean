import Derived.Test.YtehmlpkapjdhkaaA4
namespace Go.Proofs.Ytehmlpkapjdhkaa
open Go.RowKit

theorem linksE_mem {id kind : Int} : ∀ (L : List Int) (i : Nat) (last : Int), linksE id kind i last L = 0 → ∀ x ∈ L, 1 ≤ x ∧ x < id := by
  intro L
  induction L with
  | nil => intro _ _ _ x hx; cases hx
  | cons y ys ih =>
    intro i last h x hx
    rw [linksE] at h
    split at h
    · cases h
    · split at h
      · cases h
      · rcases List.mem_cons.1 hx with rfl | hx
        · omega
        · exact ih _ _ h x hx

theorem checkE_zero {id kind : Int} {L : List Int} {n : Nat} (h : checkE id kind L n = 0) :
    (1 ≤ id ∧ id ≤ 99) ∧ (1 ≤ kind ∧ kind ≤ 3) ∧ L.length ≤ 4 ∧ n ≤ 8 ∧ linksE id kind 0 0 L = 0 ∧ ¬ ((kind = 1 ∧ 0 < L.length) ∨ (kind = 3 ∧ L.length = 0)) := by
  unfold checkE at h
  split at h
  · cases h
  split at h
  · cases h
  split at h
  · cases h
  split at h
  · omega
  split at h
  · cases h
  refine ⟨by omega, by omega, by omega, by omega, by omega, by assumption⟩

def encNums (id kind : Int) (L : List Int) (n : Nat) : List Int := [id, kind, (L.length : Int)] ++ L ++ [(n : Int)]

theorem holds_new (w : World) (cs : List Int) (e : Nat) (W : World) (hW : W = w.alloc (.cells (cs.map (Value.int .i64)).toArray e)) : Holds W (some ⟨w.heap.size, 0, none⟩) cs := by
  subst hW
  intro i hi
  refine ⟨w.heap.size, 0, rfl, by simp, fun j hj => ?_⟩
  rw [World.cell?_alloc_at _ _ _ _ rfl]
  simp [List.getElem?_eq_getElem hj]

theorem boxed {w w1 : World} {x0 x1 x2 x3 : Value} {e : Nat} (hb : Below (w.alloc (.cells #[x0, x1, x2, x3] e)).heap.size (w.alloc (.cells #[x0, x1, x2, x3] e)) w1) :
    w1.cell? ⟨w.heap.size, 0, none⟩ = some x0 ∧ w1.cell? ⟨w.heap.size, 1, none⟩ = some x1 ∧ w1.cell? ⟨w.heap.size, 2, none⟩ = some x2 ∧ w1.cell? ⟨w.heap.size, 3, none⟩ = some x3 ∧ w.heap.size < w1.heap.size := by
  have hs := hb.size
  refine ⟨?_, ?_, ?_, ?_, by simp at hs; omega⟩ <;>
  · rw [hb.cell (by simp), World.cell?_alloc_at _ _ _ _ rfl]; rfl

theorem put_new (w : World) (o : Obj) (cs : List Int) : Holds ((w.alloc o).alloc (.cells (cs.map (Value.int .i64)).toArray 3)) (some ⟨w.heap.size + 1, 0, none⟩) cs := by
  have := holds_new (w.alloc o) cs 3 _ rfl
  simpa using this

end Go.Proofs.Ytehmlpkapjdhkaa
