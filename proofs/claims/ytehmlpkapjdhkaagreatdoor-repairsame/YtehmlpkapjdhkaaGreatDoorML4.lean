import Derived.Test.YtehmlpkapjdhkaaGreatDoorML3
namespace Go.Proofs.YtehmlpkapjdhkaaGreatDoor
section
open Go.RowKit
set_option maxRecDepth 100000
end

section
open Go.RowKit
set_option maxRecDepth 100000

/-- what holds of w holds of each world whose blocks from z to y are those of w. -/
def Dep (w : World) (z y : Nat) (P : World → Prop) : Prop := y ≤ w.heap.size ∧ ∀ w', y ≤ w'.heap.size → (∀ k, z ≤ k → k < y → w'.heap[k]? = w.heap[k]?) → P w'
theorem Dep.here {w : World} {z y : Nat} {P : World → Prop} (h : Dep w z y P) : P w := h.2 w h.1 (fun _ _ _ => rfl)
theorem Dep.next {w w' : World} {z y : Nat} {P : World → Prop} (h : Dep w z y P) (hs : y ≤ w'.heap.size) (hk : ∀ k, z ≤ k → k < y → w'.heap[k]? = w.heap[k]?) : Dep w' z y P :=
  ⟨hs, fun w2 h2 k2 => h.2 w2 h2 (fun k q1 q2 => (k2 k q1 q2).trans (hk k q1 q2))⟩
theorem Dep.below {w w' : World} {z y : Nat} {P : World → Prop} (h : Dep w z y P) (hb : Below w.heap.size w w') : Dep w' z y P :=
  h.next (Nat.le_trans h.1 hb.size) (fun k _ q => hb.block k (Nat.lt_of_lt_of_le q h.1))
theorem Dep.set {w : World} {z y p o : Nat} {v : Value} {P : World → Prop} (h : Dep w z y P) (hp : p < z ∨ y ≤ p) : Dep (w.setCell ⟨p, o, none⟩ v) z y P :=
  h.next (Nat.le_trans h.1 (setcell_size _ _ _)) (fun k q1 q2 => heap_setCell_other w ⟨p, o, none⟩ k v (by show k ≠ p; omega))
theorem Dep.widen {w : World} {z z' y : Nat} {P : World → Prop} (h : Dep w z y P) (hz : z' ≤ z) : Dep w z' y P := ⟨h.1, fun w' a b => h.2 w' a (fun k q1 q2 => b k (Nat.le_trans hz q1) q2)⟩
theorem RepF.dep {w : World} {z : Nat} {aS al am au : Option Addr} {cs cl cm cu : Nat} {s : List Ob} {l : List Rf} {m : List Ob} {us : List Up} (h : RepF w z aS cs s al cl l am cm m au cu us) : Dep w z w.heap.size (fun W => RepH W aS s al l am m au us) :=
  ⟨Nat.le_refl _, fun w' hs hk => by
    obtain ⟨a, b, c, d⟩ := (h.fr.kept hs hk).holds
    exact ⟨a, b, c, d, h.h.ns, h.h.nl, h.h.nm, h.h.nu⟩⟩
theorem Objs.dep {w : World} {z : Nat} {m : List Ob} {rs : List Pl} {a : Option Addr} {c : Nat} (e : rs.map Pl.x = m) (o : Objs w z (.slice a m.length c) rs) : Dep w z w.heap.size (fun W => HoldsS W a m ∧ Room W a m) :=
  ⟨Nat.le_refl _, fun w' hs hk => by
    have o' := o.kept hs hk
    refine ⟨Objs.list e o', ?_⟩
    have := o'.room
    rwa [e] at this⟩
end

section
open Go.RowKit
set_option maxRecDepth 100000

def rOf (l : List Rp) (i : Nat) : Rp := l.getD i ⟨[], [], 0, 0, [], [], false⟩
theorem rOf_map {l : List Rq} {i : Nat} {d : Rq} (h : i < l.length) : rOf (l.map Rq.r) i = (l.getD i d).r := by simp [rOf, h]
end

section
open Go.RowKit
set_option maxRecDepth 100000

theorem rep_idle {s : List Ob} {l : List Rf} {g : Int} (h : refsE l s = 0) (hg : 0 ≤ g ∧ g ≤ 999) : repE s l g 0 [] [] false = 0 := repE_iff.2 ⟨h, hg, by omega, fun e => absurd rfl e, fun _ => rfl⟩
theorem err_gen {r : Rp} (h : r.err = 0) : 0 ≤ r.g ∧ r.g ≤ 999 := (repE_iff.1 h).2.1
section
variable {l : List Rp} {m : List Ob} {us : List Up} {f : Bool} {up late : Int} {i : Nat}
end
theorem checkC_iff {l : List Rp} : checkC l = 0 ↔ l.length = 3 ∧ (∀ i, i < 3 → (rOf l i).err = 0) ∧ (∀ i j, i < j → j < 3 → ¬ unl (rOf l i) (rOf l j)) ∧ 2 ≤ cntTo (topB l) 3 := by
  have key : l.length = 3 → ∀ i (h : i < l.length), rOf l i = l[i] := fun _ i h => by simp [rOf, h]
  unfold checkC
  by_cases h3 : l.length = 3
  · rw [if_neg (fun e => e h3)]
    have k := key h3
    have hf : firstE l = 0 ↔ ∀ i, i < 3 → (rOf l i).err = 0 := by
      rw [firstE_zero]
      constructor
      · intro h i hi; rw [k i (by omega)]; exact h _ (List.getElem_mem _)
      · intro h r hr
        obtain ⟨n, hn, rfl⟩ := List.mem_iff_getElem.1 hr
        rw [← k n hn]; exact h n (by omega)
    have hu : anyUnlB l = true ↔ ∃ i j, i < j ∧ j < 3 ∧ unl (rOf l i) (rOf l j) := by
      rw [anyUnlB_iff]
      constructor
      · rintro ⟨i, j, hi, hj, hij, q⟩; exact ⟨i, j, hij, by omega, by rw [k i hi, k j hj]; exact q⟩
      · rintro ⟨i, j, hij, hj, q⟩; exact ⟨i, j, by omega, by omega, hij, by rw [k i (by omega), k j (by omega)] at q; exact q⟩
    constructor
    · intro h
      split at h
      · rename_i c; exact absurd h c
      rename_i c1
      split at h
      · cases h
      rename_i c2
      split at h
      · rename_i c3
        exact ⟨h3, hf.1 (Classical.byContradiction c1), fun i j hij hj q => c2 (hu.2 ⟨i, j, hij, hj, q⟩), by omega⟩
      · cases h
    · rintro ⟨_, h1, h2, h4⟩
      rw [if_neg (fun e => e (hf.2 h1)), if_neg (fun e => by obtain ⟨i, j, hij, hj, q⟩ := hu.1 e; exact h2 i j hij hj q), if_pos (by omega)]
  · rw [if_pos h3]
    constructor
    · intro h; cases h
    · intro h; exact absurd h.1 h3
def bestI (l : List Rp) : Nat := bestTo (gOf l) l.length
theorem bestI_lt {l : List Rp} (h : l.length = 3) : bestI l < 3 := by
  have := bestTo_lt (gOf l) l.length l.length (by omega) (Nat.le_refl _)
  unfold bestI; omega
/-! What is said of who takes no part. -/
section
variable {l : List Rp} {m : List Ob} {us : List Up} {f : Bool} {up late late' : Int}
end
end
end Go.Proofs.YtehmlpkapjdhkaaGreatDoor
