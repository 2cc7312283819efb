import Derived.Test.YtehmlpkapjdhkaaGreatDoorML2
namespace Go.Proofs.YtehmlpkapjdhkaaGreatDoor
section
open Go.RowKit
set_option maxRecDepth 100000

def upd {α : Type} (f : Nat → α) (k : Nat) (x : α) : Nat → α := fun i => if i = k then x else f i
theorem upd_same {α : Type} (f : Nat → α) (k : Nat) (x : α) : upd f k x k = x := by simp [upd]
theorem upd_other {α : Type} (f : Nat → α) {k i : Nat} (x : α) (h : i ≠ k) : upd f k x i = f i := by simp [upd, h]
theorem cells_set {w : World} {p o q : Nat} {t : TypeId} (v : Value) (h : ∃ cur, w.heap[q]? = some (.cells cur t)) : ∃ cur, (w.setCell ⟨p, o, none⟩ v).heap[q]? = some (.cells cur t) := by
  obtain ⟨cur, e⟩ := h
  by_cases hq : q = p
  · subst hq; exact ⟨_, heap_setCell_same w q o _ t v e⟩
  · exact ⟨cur, (heap_setCell_other w ⟨p, o, none⟩ q v hq).trans e⟩
theorem cell_off (w : World) (b i o : Nat) (v : Value) (h : o ≠ i) : (w.setCell ⟨b, i, none⟩ v).cell? ⟨b, o, none⟩ = w.cell? ⟨b, o, none⟩ := by
  have := World.cell?_setCells_out b [v] i w ⟨b, o, none⟩ (fun _ _ => by simp only [List.length_cons, List.length_nil]; omega)
  simpa [World.setCells] using this
theorem like_set (w : World) (z b o : Nat) (v : Value) (P : Nat → Prop) (h : P b) : Like z P w (w.setCell ⟨b, o, none⟩ v) :=
  ⟨setcell_size _ _ _, fun k _ _ hn => heap_setCell_other w ⟨b, o, none⟩ k v (fun e => hn (by have e' : k = b := e; rw [e']; exact h))⟩
/-- seven cells stored in a row. -/
def set7 (w : World) (b o : Nat) (x0 x1 x2 x3 x4 x5 x6 : Value) : World :=
  ((((((w.setCell ⟨b, o, none⟩ x0).setCell ⟨b, o + 1, none⟩ x1).setCell ⟨b, o + 2, none⟩ x2).setCell ⟨b, o + 3, none⟩ x3).setCell ⟨b, o + 4, none⟩ x4).setCell ⟨b, o + 5, none⟩ x5).setCell ⟨b, o + 6, none⟩ x6
theorem set7_off (w : World) (b o p : Nat) (x0 x1 x2 x3 x4 x5 x6 : Value) (h : p < o ∨ o + 7 ≤ p) : (set7 w b o x0 x1 x2 x3 x4 x5 x6).cell? ⟨b, p, none⟩ = w.cell? ⟨b, p, none⟩ := by
  unfold set7
  rw [cell_off _ _ _ _ _ (by omega), cell_off _ _ _ _ _ (by omega), cell_off _ _ _ _ _ (by omega), cell_off _ _ _ _ _ (by omega), cell_off _ _ _ _ _ (by omega), cell_off _ _ _ _ _ (by omega), cell_off _ _ _ _ _ (by omega)]
theorem set7_blk (w : World) (b o k : Nat) (x0 x1 x2 x3 x4 x5 x6 : Value) (h : k ≠ b) : (set7 w b o x0 x1 x2 x3 x4 x5 x6).heap[k]? = w.heap[k]? := by
  unfold set7
  rw [heap_setCell_other _ ⟨b, o + 6, none⟩ k _ h, heap_setCell_other _ ⟨b, o + 5, none⟩ k _ h, heap_setCell_other _ ⟨b, o + 4, none⟩ k _ h, heap_setCell_other _ ⟨b, o + 3, none⟩ k _ h, heap_setCell_other _ ⟨b, o + 2, none⟩ k _ h, heap_setCell_other _ ⟨b, o + 1, none⟩ k _ h, heap_setCell_other _ ⟨b, o, none⟩ k _ h]
theorem set7_size (w : World) (b o : Nat) (x0 x1 x2 x3 x4 x5 x6 : Value) : (set7 w b o x0 x1 x2 x3 x4 x5 x6).heap.size = w.heap.size := by simp [set7]
theorem set7_at {w : World} {b o : Nat} {q0 : Rq} (h : QAt w b o q0) (q : Rq) : QAt (set7 w b o (.slice q.aS q.r.s.length q.cs) (.slice q.al q.r.l.length q.cl) (.int .i64 q.r.g) (.int .i64 q.r.ph) (.slice q.a1 q.r.m.length q.c1) (.slice q.a2 q.r.us.length q.c2) (.bool q.r.f)) b o q := by
  obtain ⟨h0, h1, h2, h3, h4, h5, h6⟩ := h
  have s0 : ∀ (W : World) (p : Nat) (v : Value), (W.cell? ⟨b, p, none⟩).isSome = true → (W.setCell ⟨b, p, none⟩ v).cell? ⟨b, p, none⟩ = some v := fun W p v hs => World.cell?_setCell_same' W _ v hs
  unfold set7
  constructor
  · rw [cell_off _ _ _ _ _ (by omega), cell_off _ _ _ _ _ (by omega), cell_off _ _ _ _ _ (by omega), cell_off _ _ _ _ _ (by omega), cell_off _ _ _ _ _ (by omega), cell_off _ _ _ _ _ (by omega)]
    exact s0 _ _ _ (by rw [h0]; rfl)
  · rw [cell_off _ _ _ _ _ (by omega), cell_off _ _ _ _ _ (by omega), cell_off _ _ _ _ _ (by omega), cell_off _ _ _ _ _ (by omega), cell_off _ _ _ _ _ (by omega)]
    exact s0 _ _ _ (by rw [cell_off _ _ _ _ _ (by omega), h1]; rfl)
  · rw [cell_off _ _ _ _ _ (by omega), cell_off _ _ _ _ _ (by omega), cell_off _ _ _ _ _ (by omega), cell_off _ _ _ _ _ (by omega)]
    exact s0 _ _ _ (by rw [cell_off _ _ _ _ _ (by omega), cell_off _ _ _ _ _ (by omega), h2]; rfl)
  · rw [cell_off _ _ _ _ _ (by omega), cell_off _ _ _ _ _ (by omega), cell_off _ _ _ _ _ (by omega)]
    exact s0 _ _ _ (by rw [cell_off _ _ _ _ _ (by omega), cell_off _ _ _ _ _ (by omega), cell_off _ _ _ _ _ (by omega), h3]; rfl)
  · rw [cell_off _ _ _ _ _ (by omega), cell_off _ _ _ _ _ (by omega)]
    exact s0 _ _ _ (by rw [cell_off _ _ _ _ _ (by omega), cell_off _ _ _ _ _ (by omega), cell_off _ _ _ _ _ (by omega), cell_off _ _ _ _ _ (by omega), h4]; rfl)
  · rw [cell_off _ _ _ _ _ (by omega)]
    exact s0 _ _ _ (by rw [cell_off _ _ _ _ _ (by omega), cell_off _ _ _ _ _ (by omega), cell_off _ _ _ _ _ (by omega), cell_off _ _ _ _ _ (by omega), cell_off _ _ _ _ _ (by omega), h5]; rfl)
  · exact s0 _ _ _ (by rw [cell_off _ _ _ _ _ (by omega), cell_off _ _ _ _ _ (by omega), cell_off _ _ _ _ _ (by omega), cell_off _ _ _ _ _ (by omega), cell_off _ _ _ _ _ (by omega), cell_off _ _ _ _ _ (by omega), h6]; rfl)
theorem set7_like (w : World) (z b o : Nat) (x0 x1 x2 x3 x4 x5 x6 : Value) (P : Nat → Prop) (h : P b) : Like z P w (set7 w b o x0 x1 x2 x3 x4 x5 x6) :=
  ⟨Nat.le_of_eq (set7_size _ _ _ _ _ _ _ _ _ _).symm, fun k _ _ hn => set7_blk w b o k _ _ _ _ _ _ _ (fun e => hn (by rw [e]; exact h))⟩
theorem below_set7 {n : Nat} {w0 w : World} {b o : Nat} (x0 x1 x2 x3 x4 x5 x6 : Value) (h : Below n w0 w) (hb : n ≤ b) : Below n w0 (set7 w b o x0 x1 x2 x3 x4 x5 x6) := by
  unfold set7
  exact ((((((h.setCell hb _).setCell hb _).setCell hb _).setCell hb _).setCell hb _).setCell hb _).setCell hb _
end

section
open Go.RowKit
set_option maxRecDepth 100000
end

section
open Go.RowKit
set_option maxRecDepth 100000
theorem below_refl_drew (w : World) : Below w.heap.size w w.drew := (Below.refl _ _).drew

def fstE (g : Nat → Int) : Int := if g 0 ≠ 0 then g 0 else if g 1 ≠ 0 then g 1 else g 2
theorem fstE_at {g : Nat → Int} {k : Nat} (hk : k < 3) (h : ∀ i, i < k → g i = 0) (hn : g k ≠ 0) : fstE g = g k := by
  unfold fstE
  have : k = 0 ∨ k = 1 ∨ k = 2 := by omega
  rcases this with rfl | rfl | rfl
  · rw [if_pos hn]
  · rw [if_neg (fun e => e (h 0 (by omega))), if_pos hn]
  · rw [if_neg (fun e => e (h 0 (by omega))), if_neg (fun e => e (h 1 (by omega)))]
theorem fstE_zero {g : Nat → Int} : fstE g = 0 ↔ ∀ i, i < 3 → g i = 0 := by
  constructor
  · intro h i hi
    refine Classical.byContradiction fun hn => ?_
    have : i = 0 ∨ i = 1 ∨ i = 2 := by omega
    unfold fstE at h
    rcases this with rfl | rfl | rfl
    · rw [if_pos hn] at h; exact hn h
    · split at h
      · rename_i q; exact q h
      · first | exact hn h | (rw [if_pos hn] at h; exact hn h)
    · split at h
      · rename_i q; exact q h
      · split at h
        · rename_i q; exact q h
        · exact hn h
  · intro h; unfold fstE; rw [if_neg (fun e => e (h 0 (by omega))), if_neg (fun e => e (h 1 (by omega)))]; exact h 2 (by omega)
end
end Go.Proofs.YtehmlpkapjdhkaaGreatDoor
