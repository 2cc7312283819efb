import Derived.Test.YtehmlpkapjdhkaaD9
namespace Go.Proofs.Ytehmlpkapjdhkaa
open Go.RowKit

/-- an object on a shelf, with where its links lie. -/
structure Pl where
  x : Ob
  sa : Option Addr
  sc : Nat
def Pl.cells (r : Pl) : List Value := [.int .i64 r.x.id, .int .i64 r.x.kind, .slice r.sa r.x.links.length r.sc, .string r.x.text]
def rowC : List Pl → List Value
  | [] => []
  | r :: rs => r.cells ++ rowC rs
theorem rowC_append (A B : List Pl) : rowC (A ++ B) = rowC A ++ rowC B := by
  induction A with
  | nil => rfl
  | cons r A ih => simp [rowC, ih, List.append_assoc]
theorem rowC_length (A : List Pl) : (rowC A).length = A.length * 4 := by
  induction A with
  | nil => rfl
  | cons r A ih => simp [rowC, ih, Pl.cells]; omega
theorem rowC_take (A : List Pl) (i : Nat) (hi : i ≤ A.length) : (rowC A).take (i * 4) = rowC (A.take i) := by
  have h := rowC_append (A.take i) (A.drop i)
  rw [List.take_append_drop] at h
  rw [h, List.take_append_of_le_length (by rw [rowC_length, List.length_take]; omega), List.take_of_length_le (by rw [rowC_length, List.length_take]; omega)]
theorem rowC_drop (A : List Pl) (i : Nat) (hi : i ≤ A.length) : (rowC A).drop (i * 4) = rowC (A.drop i) := by
  have h := rowC_append (A.take i) (A.drop i)
  rw [List.take_append_drop] at h
  rw [h, show i * 4 = (rowC (A.take i)).length by rw [rowC_length, List.length_take]; omega, List.drop_left]
theorem rowC_one (A : List Pl) : ∀ v ∈ rowC A, v.oneCell' = true := by
  induction A with
  | nil => intro v h; cases h
  | cons r A ih =>
    intro v h
    rcases List.mem_append.1 h with h | h
    · simp only [Pl.cells, List.mem_cons, List.not_mem_nil, or_false] at h
      rcases h with rfl | rfl | rfl | rfl <;> rfl
    · exact ih v h
theorem rowC_get (A : List Pl) (i j : Nat) (hi : i < A.length) (hj : j < 4) : (rowC A)[i * 4 + j]? = (A[i].cells)[j]? := by
  induction A generalizing i with
  | nil => simp at hi
  | cons r A ih =>
    cases i with
    | zero =>
      simp only [rowC, Nat.zero_mul, Nat.zero_add, List.getElem_cons_zero]
      exact List.getElem?_append_left (by simpa [Pl.cells] using hj)
    | succ i =>
      have := ih i (by simpa using hi)
      rw [List.getElem_cons_succ, ← this]
      simp only [rowC]
      rw [List.getElem?_append_right (by simp [Pl.cells]; omega)]
      congr 1
      simp [Pl.cells]; omega

/-- an object's links lie from z on, in a block that is not the row's. -/
def Own0 (w : World) (z : Nat) (blk : Option Nat) (r : Pl) : Prop :=
  (r.x.links.length ≤ 1000 ∧ r.x.links.length ≤ r.sc) ∧ (0 < r.x.links.length → ∃ b off, r.sa = some ⟨b, off, none⟩ ∧ z ≤ b ∧ b < w.heap.size ∧ blk ≠ some b ∧ ∀ i, i < r.x.links.length → w.cell? ⟨b, off + i, none⟩ = some (.int .i64 (r.x.links.getD i 0)))
theorem Own0.holds {w : World} {z : Nat} {blk : Option Nat} {r : Pl} (h : Own0 w z blk r) : Holds w r.sa r.x.links := by
  intro i hi
  obtain ⟨b, off, e, _, hlt, _, hc⟩ := h.2 (by omega)
  exact ⟨b, off, e, hlt, hc⟩

/-- objects of one's own: their row, and their links, lie from z on. -/
structure Objs (w : World) (z : Nat) (v : Value) (rs : List Pl) : Prop where
  own : w.ownsRow z 28 4 v rs.length (rowC rs)
  each : ∀ r ∈ rs, Own0 w z v.ownBlock r

/-- a shelf at p: its objects' row, and their links, lie from z on, and not at p. -/
structure Shelf (w : World) (z p : Nat) (v : Value) (rs : List Pl) : Prop where
  zp : z ≤ p
  blk : w.heap[p]? = some (.cells #[v] 51)
  sep : v.ownBlock ≠ some p
  objs : Objs w z v rs
  off : ∀ r ∈ rs, 0 < r.x.links.length → ∀ b off, r.sa = some ⟨b, off, none⟩ → b ≠ p
theorem Shelf.own {w : World} {z p : Nat} {v : Value} {rs : List Pl} (h : Shelf w z p v rs) : w.ownsRow z 28 4 v rs.length (rowC rs) := h.objs.own
theorem Shelf.each {w : World} {z p : Nat} {v : Value} {rs : List Pl} (h : Shelf w z p v rs) : ∀ r ∈ rs, Own0 w z v.ownBlock r := h.objs.each

theorem heap_lt {w : World} {k : Nat} {o : Obj} (h : w.heap[k]? = some o) : k < w.heap.size := by
  rcases Nat.lt_or_ge k w.heap.size with c | c
  · exact c
  · rw [Array.getElem?_eq_none c] at h; cases h

theorem ownsRow_same {w w' : World} {base : Nat} {v : Value} {n : Nat} {xs : List Value} (h : w.ownsRow base 28 4 v n xs) (hs : ∀ g, v.ownBlock = some g → w'.heap[g]? = w.heap[g]?) : w'.ownsRow base 28 4 v n xs := by
  refine ⟨h.1, ?_⟩
  rcases h.2 with h | ⟨g, cap, cur, rfl, h1, h2, h3⟩
  · exact .inl h
  · exact .inr ⟨g, cap, cur, rfl, h1, (hs g rfl).trans h2, h3⟩

theorem Shelf.lt {w : World} {z p : Nat} {v : Value} {rs : List Pl} (h : Shelf w z p v rs) : p < w.heap.size := heap_lt h.blk

theorem Objs.below {w w' : World} {z : Nat} {v : Value} {rs : List Pl} (h : Objs w z v rs) (hb : Below w.heap.size w w') : Objs w' z v rs := by
  refine ⟨ownsRow_same h.own (fun g hg => hb.block g (h.own.lt g hg).2), fun r hr => ?_⟩
  obtain ⟨h1, h2⟩ := h.each r hr
  refine ⟨h1, fun h0 => ?_⟩
  obtain ⟨b, off, e, hpb, hlt, hne, hc⟩ := h2 h0
  exact ⟨b, off, e, hpb, Nat.lt_of_lt_of_le hlt hb.size, hne, fun i hi => (hb.cell (p := ⟨b, off + i, none⟩) hlt).trans (hc i hi)⟩
theorem Shelf.below {w w' : World} {z p : Nat} {v : Value} {rs : List Pl} (h : Shelf w z p v rs) (hb : Below w.heap.size w w') : Shelf w' z p v rs :=
  ⟨h.zp, (hb.block p h.lt).trans h.blk, h.sep, h.objs.below hb, h.off⟩

theorem Shelf.cell {w : World} {z p : Nat} {v : Value} {rs : List Pl} (h : Shelf w z p v rs) : w.cell? ⟨p, 0, none⟩ = some v := by
  simp [World.cell?, h.blk]
theorem Shelf.frozen {w : World} {z p : Nat} {v : Value} {rs : List Pl} (h : Shelf w z p v rs) : w.frozen? ⟨p, 0, none⟩ = false := by
  simp [World.frozen?, h.blk]

/-- what stands there reads as a list. -/
theorem Objs.reads {w : World} {z : Nat} {v : Value} {rs : List Pl} (h : Objs w z v rs) : ∃ a c, v = .slice a (rs.map Pl.x).length c ∧ HoldsS w a (rs.map Pl.x) ∧ rs.length ≤ c := by
  rw [List.length_map]
  rcases h.own.2 with ⟨rfl, e⟩ | ⟨g, cap, cur, rfl, h1, h2, h3, h4, h5, h6⟩
  · rw [e]
    refine ⟨none, 0, rfl, fun i hi => ?_, Nat.le_refl _⟩
    rw [List.length_map] at hi; omega
  · refine ⟨_, _, rfl, fun i hi => ⟨g, 0, rfl, heap_lt h2, fun k hk => ?_⟩, h3⟩
    rw [List.length_map] at hk
    have hc : ∀ j, j < 4 → w.cell? ⟨g, 0 + k * 4 + j, none⟩ = (rs[k].cells)[j]? := fun j hj => by
      rw [Nat.zero_add, cell_of_row w g _ _ _ _ h2, ← rowC_get rs k j hk hj, ← h6, List.getElem?_take, if_pos (by omega)]
      simp
    have hr := h.each rs[k] (List.getElem_mem hk)
    refine ⟨rs[k].sa, rs[k].sc, ?_⟩
    rw [List.getElem_map]
    exact ⟨by simpa [Pl.cells] using hc 0 (by omega), by simpa [Pl.cells] using hc 1 (by omega), by simpa [Pl.cells] using hc 2 (by omega), by simpa [Pl.cells] using hc 3 (by omega), hr.holds, by have := hr.1; omega⟩
theorem Shelf.reads {w : World} {z p : Nat} {v : Value} {rs : List Pl} (h : Shelf w z p v rs) : ∃ a c, v = .slice a (rs.map Pl.x).length c ∧ HoldsS w a (rs.map Pl.x) ∧ rs.length ≤ c := h.objs.reads

/-- each object's links have room for themselves. -/
def Room (w : World) (a : Option Addr) (l : List Ob) : Prop := ∀ b off, a = some ⟨b, off, none⟩ → ∀ k, k < l.length → b < w.heap.size ∧ ∀ sa n sc, w.cell? ⟨b, off + k * 4 + 2, none⟩ = some (.slice sa n sc) → n ≤ sc
theorem Room.below {w w' : World} {a : Option Addr} {l : List Ob} (h : Room w a l) (hb : Below w.heap.size w w') : Room w' a l := fun b off e k hk => by
  obtain ⟨h1, h2⟩ := h b off e k hk
  refine ⟨Nat.lt_of_lt_of_le h1 hb.size, fun sa n sc hc => h2 sa n sc ?_⟩
  rwa [hb.cell (p := ⟨b, off + k * 4 + 2, none⟩) h1] at hc

theorem Objs.room {w : World} {z : Nat} {rs : List Pl} {a : Option Addr} {n c : Nat} (h : Objs w z (.slice a n c) rs) : Room w a (rs.map Pl.x) := by
  intro b off ea k hk
  rw [List.length_map] at hk
  rcases h.own.2 with ⟨_, e⟩ | ⟨g, cap, cur, e, h1, h2, h3, h4, h5, h6⟩
  · omega
  · have ea2 : a = some ⟨g, 0, none⟩ := by cases e; rfl
    rw [ea] at ea2
    cases ea2
    refine ⟨heap_lt h2, fun sa n sc hc => ?_⟩
    have hq : w.cell? ⟨b, 0 + k * 4 + 2, none⟩ = (rs[k].cells)[2]? := by
      rw [Nat.zero_add, cell_of_row w b _ _ _ _ h2, ← rowC_get rs k 2 hk (by omega), ← h6, List.getElem?_take, if_pos (by omega)]
      simp
    rw [hc] at hq
    simp only [Pl.cells, List.getElem?_cons_succ, List.getElem?_cons_zero, Option.some.injEq, Value.slice.injEq] at hq
    have := (h.each rs[k] (List.getElem_mem hk)).1.2
    omega
theorem Shelf.room {w : World} {z p : Nat} {rs : List Pl} {a : Option Addr} {n c : Nat} (h : Shelf w z p (.slice a n c) rs) : Room w a (rs.map Pl.x) := h.objs.room

/-- the objects behind an append or an insert. -/
theorem Objs.next {w w1 w2 : World} {z : Nat} {v v' : Value} {rs rs' : List Pl} {r : Pl} (h : Objs w z v rs) (hz : z ≤ w.heap.size) (hb : Below w.heap.size w w1) (hg : w1.grownBy w2 v.ownBlock)
    (ho : w2.ownsRow z 28 4 v' rs'.length (rowC rs')) (hk : ∀ k, v'.ownBlock = some k → v.ownBlock = some k ∨ w1.heap.size ≤ k)
    (hm : ∀ s ∈ rs', s ∈ rs ∨ s = r) (hl : r.x.links.length ≤ 1000 ∧ r.x.links.length ≤ r.sc) (hr : Holds w1 r.sa r.x.links) (hr' : ∀ b off, r.sa = some ⟨b, off, none⟩ → w.heap.size ≤ b) :
    Objs w2 z v' rs' ∧ Below z w w2 := by
  have h1 := h.below hb
  have hs1 := hb.size
  have hs2 := hg.size
  refine ⟨⟨ho, ?_⟩, ?_⟩
  · intro s hs
    have key : (s.x.links.length ≤ 1000 ∧ s.x.links.length ≤ s.sc) ∧ (0 < s.x.links.length → ∃ b off, s.sa = some ⟨b, off, none⟩ ∧ z ≤ b ∧ b < w1.heap.size ∧ v.ownBlock ≠ some b ∧ ∀ i, i < s.x.links.length → w1.cell? ⟨b, off + i, none⟩ = some (.int .i64 (s.x.links.getD i 0))) := by
      rcases hm s hs with hin | rfl
      · exact h1.each s hin
      · refine ⟨hl, fun h0 => ?_⟩
        obtain ⟨b, off, e, hlt, hc⟩ := hr 0 h0
        have hge := hr' b off e
        exact ⟨b, off, e, by omega, hlt, fun e' => by have := (h.own.lt b e').2; omega, hc⟩
    refine ⟨key.1, fun h0 => ?_⟩
    obtain ⟨b, off, e, hpb, hlt, hne, hc⟩ := key.2 h0
    refine ⟨b, off, e, hpb, by omega, fun e' => ?_, fun i hi => ?_⟩
    · rcases hk b e' with q | q
      · exact hne q
      · omega
    · rw [World.cell?_of_block (a := ⟨b, off + i, none⟩) (hg.block b hlt (fun q => hne q.symm))]
      exact hc i hi
  · refine ⟨hg.os.trans hb.os, hg.tape.trans hb.tape, hg.output.trans hb.output, by omega, fun k hk => ?_⟩
    rw [hg.block k (by omega) (fun e => by have := (h.own.lt k e.symm).1; omega)]
    exact hb.block k (by omega)

/-- the shelf behind an append or an insert, and the store of the new row. -/
theorem Shelf.next {w w1 w2 : World} {z p : Nat} {v v' : Value} {rs rs' : List Pl} {r : Pl} (h : Shelf w z p v rs) (hb : Below w.heap.size w w1) (hg : w1.grownBy w2 v.ownBlock)
    (ho : w2.ownsRow z 28 4 v' rs'.length (rowC rs')) (hk : ∀ k, v'.ownBlock = some k → v.ownBlock = some k ∨ w1.heap.size ≤ k)
    (hm : ∀ s ∈ rs', s ∈ rs ∨ s = r) (hl : r.x.links.length ≤ 1000 ∧ r.x.links.length ≤ r.sc) (hr : Holds w1 r.sa r.x.links) (hr' : ∀ b off, r.sa = some ⟨b, off, none⟩ → w.heap.size ≤ b) :
    Shelf (w2.setCell ⟨p, 0, none⟩ v') z p v' rs' ∧ Below z w (w2.setCell ⟨p, 0, none⟩ v') := by
  have hpl := h.lt
  have hzp := h.zp
  obtain ⟨O, HB⟩ := h.objs.next (by omega) hb hg ho hk hm hl hr hr'
  have h1 := h.below hb
  have hbp : w2.heap[p]? = some (.cells #[v] 51) := (hg.block p h1.lt (fun e => h.sep e.symm)).trans h1.blk
  have hoth : ∀ k, k ≠ p → (w2.setCell ⟨p, 0, none⟩ v').heap[k]? = w2.heap[k]? := fun k hk => heap_setCell_other w2 ⟨p, 0, none⟩ k v' hk
  have hsz : (w2.setCell ⟨p, 0, none⟩ v').heap.size = w2.heap.size := World.size_setCell _ _ _
  have hs1 := hb.size
  have hs2 := hg.size
  have hsep : v'.ownBlock ≠ some p := fun e => by
    rcases hk p e with q | q
    · exact h.sep q
    · omega
  have hoff : ∀ s ∈ rs', 0 < s.x.links.length → ∀ b off, s.sa = some ⟨b, off, none⟩ → b ≠ p := fun s hs h0 b off e => by
    rcases hm s hs with hin | rfl
    · exact h.off s hin h0 b off e
    · have := hr' b off e; omega
  refine ⟨⟨hzp, ?_, hsep, ⟨?_, ?_⟩, hoff⟩, ?_⟩
  · have := heap_setCell_same w2 p 0 #[v] 51 v' hbp
    simpa using this
  · exact ownsRow_same O.own (fun g e => hoth g (fun q => hsep (q ▸ e)))
  · intro s hs
    obtain ⟨k1, k2⟩ := O.each s hs
    refine ⟨k1, fun h0 => ?_⟩
    obtain ⟨b, off, e, hpb, hlt, hne, hc⟩ := k2 h0
    refine ⟨b, off, e, hpb, by omega, hne, fun i hi => ?_⟩
    rw [World.cell?_of_block (a := ⟨b, off + i, none⟩) (hoth b (hoff s hs h0 b off e))]
    exact hc i hi
  · refine ⟨HB.os, HB.tape, HB.output, by have := HB.size; omega, fun k hk => ?_⟩
    rw [hoth k (by omega)]
    exact HB.block k hk
end Go.Proofs.Ytehmlpkapjdhkaa
