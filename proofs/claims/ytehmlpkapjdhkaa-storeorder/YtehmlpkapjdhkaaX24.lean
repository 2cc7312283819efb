import Derived.Test.YtehmlpkapjdhkaaD22
import Derived.Test.YtehmlpkapjdhkaaD18
namespace Go.Proofs.Ytehmlpkapjdhkaa
open Go.RowKit
set_option maxRecDepth 100000

theorem app_none_g {t e : TypeId} {i : TypeInfo} (ht : Try.prog.underlying t = some (.slice e)) (hi : Try.prog.info? e = some i) (ty : TypeId) (ad : Option Addr) (c : Nat) (w : World) :
    (Builtin.append_ #[t, t] ty #[.slice none 0 0, .slice ad 0 c]).run Try.prog w = .ok (.slice none 0 0) w := by
  cases ad <;> simp [Builtin.append_, run_underlying ht, sizeOf, typeInfo, hi, Builtin.lenOf, Builtin.firstCells, loadCells, loadCellsFrom]

theorem app_objs2 (W0 w : World) (hb : Below W0.heap.size W0 w) (base : Nat) (ty : TypeId) (v : Value) (rs : List Pl) (hown : w.ownsRow base 28 4 v rs.length (rowC rs)) (a : Option Addr) (c : Nat) (m : List Ob) (h : HoldsS W0 a m)
    (hlen : rs.length + m.length ≤ 1000) (hbase : base ≤ w.heap.size) :
    ∃ v' w' rs', (Builtin.append_ #[22, 22] ty #[v, .slice a m.length c]).run Try.prog w = .ok v' w' ∧ rs'.map Pl.x = m ∧ w'.ownsRow base 28 4 v' (rs ++ rs').length (rowC (rs ++ rs')) ∧ w.grownBy w' v.ownBlock ∧ ∀ r ∈ rs', Holds W0 r.sa r.x.links := by
  by_cases ha : a = none ∧ m.length = 0
  · obtain ⟨rfl, h0⟩ := ha
    obtain rfl : m = [] := List.eq_nil_of_length_eq_zero h0
    have hgr : ∀ row, w.grownBy w row := fun row => ⟨rfl, rfl, rfl, Nat.le_refl _, fun _ _ _ => rfl⟩
    obtain ⟨i0, hi0, hz0, hzs, hzb⟩ := info_parts Try.info28
    have hr : (Builtin.append_ #[22, 22] ty #[v, .slice none 0 c]).run Try.prog w = .ok v w := by
      rcases hown.2 with ⟨rfl, _⟩ | ⟨g, cap, cur, rfl, _, _, h3, _⟩
      · exact app_none_g Try.underlying22 hi0 ty none c w
      · simp [Builtin.append_, run_underlying Try.underlying22, sizeOf, typeInfo, hi0, Builtin.lenOf, Builtin.firstCells, loadCells, h3, storeCells]
    exact ⟨v, w, [], hr, rfl, by simpa using hown, hgr _, fun r hr => by cases hr⟩
  · refine app_objs W0 w hb base ty v rs hown a c m h (fun e => ?_) hlen hbase
    exfalso
    rcases Nat.eq_zero_or_pos m.length with h0 | h0
    · exact ha ⟨e, h0⟩
    · obtain ⟨b, off, e', _⟩ := h 0 h0
      rw [e] at e'; cases e'
/-- two lists behind one another, in a row of their own. -/
theorem both_objs2 (W : World) (ty : TypeId) (a : Option Addr) (c : Nat) (l : List Ob) (h : HoldsS W a l) (a2 : Option Addr) (c2 : Nat) (m : List Ob) (h2 : HoldsS W a2 m)
    (hlen : l.length + m.length ≤ 1000) (hx : ∀ x ∈ l ++ m, x.links.length ≤ 1000) :
    ∃ v1 W1 a3 c3 W2, (Builtin.append_ #[22, 22] ty #[.slice (some ⟨W.heap.size, 0, none⟩) 0 0, .slice a l.length c]).run Try.prog (W.alloc (.cells #[] 28)) = .ok v1 W1 ∧
      (Builtin.append_ #[22, 22] ty #[v1, .slice a2 m.length c2]).run Try.prog W1 = .ok (.slice a3 (l ++ m).length c3) W2 ∧ HoldsS W2 a3 (l ++ m) ∧ Below W.heap.size W W1 ∧ Below W.heap.size W W2 := by
  have hb0 := below_alloc W (.cells #[] 28)
  have o0 : (W.alloc (.cells #[] 28)).ownsRow W.heap.size 28 4 (.slice (some ⟨W.heap.size, 0, none⟩) 0 0) ([] : List Pl).length (rowC []) := World.ownsRow_made W #[] 0 (Nat.le_refl _) (by unfold maxLen; omega) rfl
  obtain ⟨v1, W1, rs1, r1, e1, o1, g1, q1⟩ := app_objs2 W (W.alloc (.cells #[] 28)) hb0 W.heap.size ty _ [] o0 a c l h (by simp; omega) hb0.size
  have gb : ∀ {w w' : World} {v : Value} {n : Nat} {xs : List Value}, w.ownsRow W.heap.size 28 4 v n xs → w.grownBy w' v.ownBlock → W.heap.size ≤ w.heap.size → Below W.heap.size w w' := fun ho hg hs =>
    ⟨hg.os, hg.tape, hg.output, hg.size, fun k hk => hg.block k (by omega) (fun e => by have := (ho.lt k e.symm).1; omega)⟩
  have b1 := gb o0 g1 hb0.size
  have B1 := hb0.trans b1
  have hl1 : rs1.length = l.length := by have := congrArg List.length e1; rwa [List.length_map] at this
  obtain ⟨v2, W2, rs2, r2, e2, o2, g2, q2⟩ := app_objs2 W W1 B1 W.heap.size ty v1 ([] ++ rs1) o1 a2 c2 m h2 (by simp; omega) B1.size
  have b2 := gb o1 g2 B1.size
  have B2 := B1.trans b2
  have hM : ([] ++ rs1 ++ rs2).map Pl.x = l ++ m := by simp [e1, e2]
  obtain ⟨a3, c3, ev, hS, _⟩ := own_reads o2 (fun r hr => by
    have hx' : r.x ∈ l ++ m := by rw [← hM]; exact List.mem_map.2 ⟨r, hr, rfl⟩
    refine ⟨?_, by have := hx r.x hx'; omega⟩
    rcases List.mem_append.1 hr with q | q
    · exact (q1 r (by simpa using q)).below B2
    · exact (q2 r q).below B2)
  rw [hM] at hS ev
  have hl2 : ([] ++ rs1 ++ rs2).length = (l ++ m).length := by rw [← hM, List.length_map]
  rw [ev] at r2
  exact ⟨v1, W1, a3, c3, W2, r1, r2, hS, B1, B2⟩
end Go.Proofs.Ytehmlpkapjdhkaa
