import Derived.Test.YtehmlpkapjdhkaaGreatDoorMK1
namespace Go.Proofs.YtehmlpkapjdhkaaGreatDoor
section
open Go.RowKit
set_option maxRecDepth 100000

theorem Objs.kept {w w' : World} {z : Nat} {v : Value} {rs : List Pl} (h : Objs w z v rs) (hs : w.heap.size ≤ w'.heap.size) (hk : ∀ k, z ≤ k → k < w.heap.size → w'.heap[k]? = w.heap[k]?) : Objs w' z v rs := by
  refine ⟨ownsRow_same h.own (fun g hg => hk g (h.own.lt g hg).1 (h.own.lt g hg).2), fun r hr => ?_⟩
  obtain ⟨h1, h2⟩ := h.each r hr
  refine ⟨h1, fun h0 => ?_⟩
  obtain ⟨b, off, e, hpb, hlt, hne, hc⟩ := h2 h0
  exact ⟨b, off, e, hpb, Nat.lt_of_lt_of_le hlt hs, hne, fun i hi => (World.cell?_of_block (a := ⟨b, off + i, none⟩) (hk b hpb hlt)).trans (hc i hi)⟩
theorem FreshR.kept {w w' : World} {z : Nat} {s : List Ob} {l : List Rf} {m : List Ob} {us : List Up} {aS al a1 a2 : Option Addr} {cs cl c1 c2 : Nat} (h : FreshR w z s l m us aS cs al cl a1 c1 a2 c2) (hs : w.heap.size ≤ w'.heap.size) (hk : ∀ k, z ≤ k → k < w.heap.size → w'.heap[k]? = w.heap[k]?) : FreshR w' z s l m us aS cs al cl a1 c1 a2 c2 := by
  obtain ⟨rs, e, o⟩ := h.objs
  obtain ⟨rs2, e2, o2⟩ := h.push.objs
  exact ⟨⟨rs, e, o.kept hs hk⟩, ownsRow_kept h.refs (fun g hg => hk g (h.refs.lt g hg).1 (h.refs.lt g hg).2), ⟨rs2, e2, o2.kept hs hk⟩, ownsRow_kept h.push.ups (fun g hg => hk g (h.push.ups.lt g hg).1 (h.push.ups.lt g hg).2)⟩

abbrev zeroV : Value := replV none 0 0 none 0 0 0 0 none 0 0 none 0 0 false
theorem FreshP.nil (w : World) (z : Nat) : FreshP w z [] [] none 0 none 0 := ⟨⟨[], rfl, World.ownsRow_nil _ _ _ _, fun r hr => by cases hr⟩, World.ownsRow_nil _ _ _ _⟩
/-- a replica's lists in memory, all of them new from z on. -/
structure RepF (w : World) (z : Nat) (aS : Option Addr) (cs : Nat) (s : List Ob) (al : Option Addr) (cl : Nat) (l : List Rf) (am : Option Addr) (cm : Nat) (m : List Ob) (au : Option Addr) (cu : Nat) (us : List Up) : Prop where
  h : RepH w aS s al l am m au us
  fr : FreshR w z s l m us aS cs al cl am cm au cu
theorem RepF.below {w w' : World} {z : Nat} {aS al am au : Option Addr} {cs cl cm cu : Nat} {s : List Ob} {l : List Rf} {m : List Ob} {us : List Up} (h : RepF w z aS cs s al cl l am cm m au cu us) (hb : Below w.heap.size w w') : RepF w' z aS cs s al cl l am cm m au cu us :=
  ⟨h.h.below hb, h.fr.below hb⟩
theorem RepF.from {w : World} {z z' : Nat} {aS al am au : Option Addr} {cs cl cm cu : Nat} {s : List Ob} {l : List Rf} {m : List Ob} {us : List Up} (h : RepF w z aS cs s al cl l am cm m au cu us) (hz : z' ≤ z) : RepF w z' aS cs s al cl l am cm m au cu us := ⟨h.h, h.fr.from hz⟩
theorem RepF.keep {w w' : World} {z : Nat} {aS al am au : Option Addr} {cs cl cm cu : Nat} {s : List Ob} {l : List Rf} {m : List Ob} {us : List Up} (h : RepF w z aS cs s al cl l am cm m au cu us) (hs : w.heap.size ≤ w'.heap.size) (hk : ∀ k, z ≤ k → w'.heap[k]? = w.heap[k]?) : RepF w' z aS cs s al cl l am cm m au cu us := by
  have hf := h.fr.keep hs hk
  have hh := hf.holds
  exact ⟨⟨hh.1, hh.2.1, hh.2.2.1, hh.2.2.2, h.h.ns, h.h.nl, h.h.nm, h.h.nu⟩, hf⟩
/-- what a call of replicas hands back. -/
def RepPost (E : Int) (s : List Ob) (l : List Rf) (g ph : Int) (m : List Ob) (us : List Up) (f : Bool) (w : World) (e : Ending) (w' : World) : Prop :=
  Below w.heap.size w w' ∧ ((E ≠ 0 ∧ e = .returned (.tuple #[zeroV, .int .i64 E])) ∨
    (E = 0 ∧ ∃ b0 d0 b1 d1 b2 d2 b3 d3, e = .returned (.tuple #[RV b0 d0 s b1 d1 l g ph b2 d2 m b3 d3 us f, .int .i64 0]) ∧ RepF w' w.heap.size b0 d0 s b1 d1 l b2 d2 m b3 d3 us))
theorem RepPost.bad {E r : Int} {s : List Ob} {l : List Rf} {g ph : Int} {m : List Ob} {us : List Up} {f : Bool} {w w' : World} (he : E = r) (h0 : r ≠ 0) (hb : Below w.heap.size w w') : RepPost E s l g ph m us f w (.returned (.tuple #[zeroV, .int .i64 r])) w' :=
  ⟨hb, .inl ⟨by rw [he]; exact h0, by rw [he]⟩⟩
theorem rep_small {s : List Ob} {l : List Rf} {g ph : Int} {m : List Ob} {us : List Up} {f : Bool} (h : repE s l g ph m us f = 0) : s.length ≤ 40 ∧ (∀ x ∈ s, x.links.length ≤ 1000) ∧ l.length ≤ 8 ∧ m.length ≤ 12 ∧ (∀ x ∈ m, x.links.length ≤ 1000) ∧ us.length ≤ 4 := by
  obtain ⟨h1, _, _, h4, h5⟩ := repE_iff.1 h
  obtain ⟨r1, r2, _⟩ := refsE_iff.1 h1
  refine ⟨(checkS_zero r1).1, fun x hx => err_links (checkS_err r1 x hx), r2, ?_⟩
  by_cases hp : ph = 0
  · have := h5 hp
    simp only [withoutB, Bool.and_eq_true, decide_eq_true_eq] at this
    have e1 : m = [] := List.eq_nil_of_length_eq_zero this.1.1
    have e2 : us = [] := List.eq_nil_of_length_eq_zero this.1.2
    subst e1 e2
    exact ⟨by simp, fun x hx => (by cases hx), by simp⟩
  · exact push_small (h4 hp)
theorem set7_same (w : World) (q t : Nat) (x0 x1 x2 x3 x4 x5 x6 : Value) (h : w.heap[q]? = some (.cells #[x0, x1, x2, x3, x4, x5, x6] t)) :
    Below w.heap.size w (((((((w.setCell ⟨q, 0, none⟩ x0).setCell ⟨q, 1, none⟩ x1).setCell ⟨q, 2, none⟩ x2).setCell ⟨q, 3, none⟩ x3).setCell ⟨q, 4, none⟩ x4).setCell ⟨q, 5, none⟩ x5).setCell ⟨q, 6, none⟩ x6) := by
  obtain ⟨h1, h2, h3⟩ := set7_block w q t x0 x1 x2 x3 x4 x5 x6 h
  refine ⟨h2.os, h2.tape, h2.output, h2.size, fun k _ => ?_⟩
  by_cases e : k = q
  · subst e; rw [h1, h]
  · exact h3 k e
end

section
open Go.RowKit
set_option maxRecDepth 100000
end

section
open Go.RowKit
set_option maxRecDepth 100000
end

section
open Go.RowKit
set_option maxRecDepth 100000
end

section
open Go.RowKit
set_option maxRecDepth 100000

theorem err_pos {x : Ob} (h : x.err = 0) : ∀ i ∈ x.links, i ≠ 0 := fun i hi => by
  have h5 := (checkE_zero h).2.2.2.2.1
  have := linksE_mem x.links 0 0 h5 i hi
  omega
theorem three_blocks (w : World) (A B C : Obj) : (((w.alloc A).alloc B).alloc C).heap[w.heap.size]? = some A ∧ (((w.alloc A).alloc B).alloc C).heap[w.heap.size + 1]? = some B ∧ (((w.alloc A).alloc B).alloc C).heap[w.heap.size + 2]? = some C ∧ Below w.heap.size w (((w.alloc A).alloc B).alloc C) := by
  obtain ⟨h1, h2⟩ := two_blocks w A B
  have hA := below_alloc ((w.alloc A).alloc B) C
  have h3 := heap_alloc_new ((w.alloc A).alloc B) C
  rw [show ((w.alloc A).alloc B).heap.size = w.heap.size + 2 by simp] at h3
  have hB := below_alloc2 w A B
  exact ⟨(hA.block _ (heap_lt h1)).trans h1, (hA.block _ (heap_lt h2)).trans h2, h3, hB.trans (hA.mono hB.size)⟩
end

section
open Go.RowKit
set_option maxRecDepth 100000
end
end Go.Proofs.YtehmlpkapjdhkaaGreatDoor
