import Derived.Test.YtehmlpkapjdhkaaD21
import Derived.Laws.OwnMore
namespace Go.Proofs.Ytehmlpkapjdhkaa
open Go.RowKit

/-- a list of objects that is read, as a row of cells. -/
theorem holds_row {w : World} {a : Option Addr} {m : List Ob} (h : HoldsS w a m) (hm : 0 < m.length) :
    ∃ (b off : Nat) (rs : List Pl), a = some ⟨b, off, none⟩ ∧ b < w.heap.size ∧ rs.map Pl.x = m ∧ (∀ j u, (rowC rs)[j]? = some u → w.cell? ((⟨b, off, none⟩ : Addr).add j) = some u) ∧ ∀ r ∈ rs, Holds w r.sa r.x.links := by
  obtain ⟨b, off, rfl, hbl, hc⟩ := h 0 hm
  have key : ∀ (n : Nat), n ≤ m.length → ∃ rs : List Pl, rs.map Pl.x = m.take n ∧ (∀ j u, (rowC rs)[j]? = some u → w.cell? ⟨b, off + j, none⟩ = some u) ∧ ∀ r ∈ rs, Holds w r.sa r.x.links := by
    intro n
    induction n with
    | zero => intro _; exact ⟨[], rfl, fun j u hj => by simp [rowC] at hj, fun r hr => by cases hr⟩
    | succ n ih =>
      intro hn
      obtain ⟨rs, e1, e2, e3⟩ := ih (by omega)
      obtain ⟨sa, sc, c0, c1, c2, c3, hh, _⟩ := hc n (by omega)
      have hl : rs.length = n := by have := congrArg List.length e1; rw [List.length_map, List.length_take] at this; omega
      refine ⟨rs ++ [⟨m[n], sa, sc⟩], ?_, ?_, ?_⟩
      · rw [List.map_append, e1, List.take_succ_eq_append_getElem (by omega)]; rfl
      · intro j u hj
        rw [rowC_append] at hj
        rcases Nat.lt_or_ge j (n * 4) with c | c
        · rw [List.getElem?_append_left (by rw [rowC_length, hl]; exact c)] at hj
          exact e2 j u hj
        · rw [List.getElem?_append_right (by rw [rowC_length, hl]; exact c), rowC_length, hl] at hj
          have hj4 : j - n * 4 < 4 := by
            rcases Nat.lt_or_ge (j - n * 4) 4 with q | q
            · exact q
            · rw [List.getElem?_eq_none (by simpa [rowC, Pl.cells] using q)] at hj; cases hj
          obtain ⟨i, hi⟩ : ∃ i, j = n * 4 + i ∧ i < 4 := ⟨j - n * 4, by omega, hj4⟩
          obtain ⟨rfl, hi⟩ := hi
          rw [show n * 4 + i - n * 4 = i by omega] at hj
          match i, hi with
          | 0, _ => rw [show off + (n * 4 + 0) = off + n * 4 by omega, c0]; simpa [rowC, Pl.cells] using hj
          | 1, _ => rw [show off + (n * 4 + 1) = off + n * 4 + 1 by omega, c1]; simpa [rowC, Pl.cells] using hj
          | 2, _ => rw [show off + (n * 4 + 2) = off + n * 4 + 2 by omega, c2]; simpa [rowC, Pl.cells] using hj
          | 3, _ => rw [show off + (n * 4 + 3) = off + n * 4 + 3 by omega, c3]; simpa [rowC, Pl.cells] using hj
      · intro r hr
        rcases List.mem_append.1 hr with q | q
        · exact e3 r q
        · obtain rfl := List.mem_singleton.1 q; exact hh
  obtain ⟨rs, e1, e2, e3⟩ := key m.length (Nat.le_refl _)
  rw [List.take_length] at e1
  refine ⟨b, off, rs, rfl, hbl, e1, fun j u hj => ?_, e3⟩
  have hadd : (⟨b, off, none⟩ : Addr).add j = ⟨b, off + j, none⟩ := by unfold Addr.add; split <;> simp_all
  rw [hadd]
  exact e2 j u hj

/-- append of a list of objects onto a row of one's own. -/
theorem app_objs (W0 w : World) (hb : Below W0.heap.size W0 w) (base : Nat) (ty : TypeId) (v : Value) (rs : List Pl) (hown : w.ownsRow base 28 4 v rs.length (rowC rs)) (a : Option Addr) (c : Nat) (m : List Ob) (h : HoldsS W0 a m) (hnil : a = none → c = 0)
    (hlen : rs.length + m.length ≤ 1000) (hbase : base ≤ w.heap.size) :
    ∃ v' w' rs', (Builtin.append_ #[22, 22] ty #[v, .slice a m.length c]).run Try.prog w = .ok v' w' ∧ rs'.map Pl.x = m ∧ w'.ownsRow base 28 4 v' (rs ++ rs').length (rowC (rs ++ rs')) ∧ w.grownBy w' v.ownBlock ∧ ∀ r ∈ rs', Holds W0 r.sa r.x.links := by
  obtain ⟨i0, hi0, hz0, hzs, hzb⟩ := info_parts Try.info28
  rcases Nat.eq_zero_or_pos m.length with h0 | h0
  · obtain rfl : m = [] := List.eq_nil_of_length_eq_zero h0
    cases a with
    | none =>
      rw [hnil rfl]
      refine ⟨v, w, [], run_append_owned_none w base 22 ty 28 i0 4 Try.underlying22 hi0 v _ _ hown, rfl, by simpa using hown, ⟨rfl, rfl, rfl, Nat.le_refl _, fun _ _ _ => rfl⟩, fun r hr => by cases hr⟩
    | some a =>
      obtain ⟨v', w', hr, q1, q2, _⟩ := run_append_own (P := Try.prog) w base 22 ty 28 i0 _ 4 56 Try.underlying22 hi0 hz0 hzs hzb rfl (by omega) v rs.length (rowC rs) hown a 0 c [] rfl (fun j u hj => by simp at hj) (fun u hu => by cases hu) (by unfold maxLen; omega) (by omega) hbase
      exact ⟨v', w', [], hr, rfl, by simpa using q1, q2, fun r hr => by cases hr⟩
  · obtain ⟨b, off, rs', rfl, hbl, e1, e2, e3⟩ := holds_row h h0
    have e2' : ∀ j u, (rowC rs')[j]? = some u → w.cell? ((⟨b, off, none⟩ : Addr).add j) = some u := fun j u hj => by
      have hadd : (⟨b, off, none⟩ : Addr).add j = ⟨b, off + j, none⟩ := by unfold Addr.add; split <;> simp_all
      have := e2 j u hj
      rw [hadd] at this ⊢
      exact (hb.cell (p := ⟨b, off + j, none⟩) hbl).trans this
    have hl : rs'.length = m.length := by have := congrArg List.length e1; rwa [List.length_map] at this
    obtain ⟨v', w', hr, q1, q2, _⟩ := run_append_own (P := Try.prog) w base 22 ty 28 i0 _ 4 56 Try.underlying22 hi0 hz0 hzs hzb rfl (by omega) v rs.length (rowC rs) hown ⟨b, off, none⟩ m.length c (rowC rs') (by rw [rowC_length, hl]) e2' (rowC_one rs') (by unfold maxLen; omega) (by omega) hbase
    exact ⟨v', w', rs', hr, e1, by rw [List.length_append, hl, rowC_append]; exact q1, q2, e3⟩

theorem own_reads {w : World} {base : Nat} {v : Value} {rs : List Pl} (h : w.ownsRow base 28 4 v rs.length (rowC rs)) (hh : ∀ r ∈ rs, Holds w r.sa r.x.links ∧ r.x.links.length ≤ 9223372036854775807) :
    ∃ a c, v = .slice a (rs.map Pl.x).length c ∧ HoldsS w a (rs.map Pl.x) ∧ (rs.map Pl.x).length ≤ c := by
  rw [List.length_map]
  rcases h.2 with ⟨rfl, e⟩ | ⟨g, cap, cur, rfl, h1, h2, h3, h4, h5, h6⟩
  · rw [e]
    refine ⟨none, 0, rfl, fun i hi => ?_, Nat.le_refl _⟩
    rw [List.length_map] at hi; omega
  · refine ⟨_, _, rfl, fun i hi => ⟨g, 0, rfl, heap_lt h2, fun k hk => ?_⟩, h3⟩
    rw [List.length_map] at hk
    have hc : ∀ j, j < 4 → w.cell? ⟨g, 0 + k * 4 + j, none⟩ = (rs[k].cells)[j]? := fun j hj => by
      rw [Nat.zero_add, cell_of_row w g _ _ _ _ h2, ← rowC_get rs k j hk hj, ← h6, List.getElem?_take, if_pos (by omega)]
      simp
    have hr := hh rs[k] (List.getElem_mem hk)
    refine ⟨rs[k].sa, rs[k].sc, ?_⟩
    rw [List.getElem_map]
    exact ⟨by simpa [Pl.cells] using hc 0 (by omega), by simpa [Pl.cells] using hc 1 (by omega), by simpa [Pl.cells] using hc 2 (by omega), by simpa [Pl.cells] using hc 3 (by omega), hr.1, hr.2⟩

/-- two lists behind one another, in a row of their own: 'append(append([]T{}, l...), more...)'. -/
theorem both_objs (W : World) (ty : TypeId) (a : Option Addr) (c : Nat) (l : List Ob) (h : HoldsS W a l) (hnil : a = none → c = 0) (a2 : Option Addr) (c2 : Nat) (m : List Ob) (h2 : HoldsS W a2 m) (hnil2 : a2 = none → c2 = 0)
    (hlen : l.length + m.length ≤ 1000) (hx : ∀ x ∈ l ++ m, x.links.length ≤ 1000) :
    ∃ v1 W1 a3 c3 W2, (Builtin.append_ #[22, 22] ty #[.slice (some ⟨W.heap.size, 0, none⟩) 0 0, .slice a l.length c]).run Try.prog (W.alloc (.cells #[] 28)) = .ok v1 W1 ∧
      (Builtin.append_ #[22, 22] ty #[v1, .slice a2 m.length c2]).run Try.prog W1 = .ok (.slice a3 (l ++ m).length c3) W2 ∧ HoldsS W2 a3 (l ++ m) ∧ Below W.heap.size W W2 := by
  have hb0 := below_alloc W (.cells #[] 28)
  have o0 : (W.alloc (.cells #[] 28)).ownsRow W.heap.size 28 4 (.slice (some ⟨W.heap.size, 0, none⟩) 0 0) ([] : List Pl).length (rowC []) := World.ownsRow_made W #[] 0 (Nat.le_refl _) (by unfold maxLen; omega) rfl
  obtain ⟨v1, W1, rs1, r1, e1, o1, g1, q1⟩ := app_objs W (W.alloc (.cells #[] 28)) hb0 W.heap.size ty _ [] o0 a c l h hnil (by simp; omega) hb0.size
  have gb : ∀ {w w' : World} {v : Value} {n : Nat} {xs : List Value}, w.ownsRow W.heap.size 28 4 v n xs → w.grownBy w' v.ownBlock → W.heap.size ≤ w.heap.size → Below W.heap.size w w' := fun ho hg hs =>
    ⟨hg.os, hg.tape, hg.output, hg.size, fun k hk => hg.block k (by omega) (fun e => by have := (ho.lt k e.symm).1; omega)⟩
  have b1 := gb o0 g1 hb0.size
  have B1 := hb0.trans b1
  have hl1 : rs1.length = l.length := by have := congrArg List.length e1; rwa [List.length_map] at this
  obtain ⟨v2, W2, rs2, r2, e2, o2, g2, q2⟩ := app_objs W W1 B1 W.heap.size ty v1 ([] ++ rs1) o1 a2 c2 m h2 hnil2 (by simp; omega) B1.size
  have b2 := gb o1 g2 B1.size
  have B2 := B1.trans b2
  have hM : ([] ++ rs1 ++ rs2).map Pl.x = l ++ m := by simp [e1, e2]
  obtain ⟨a3, c3, ev, hS, _⟩ := own_reads o2 (fun r hr => by
    have hx' : r.x ∈ l ++ m := by rw [← hM]; exact List.mem_map.2 ⟨r, hr, rfl⟩
    refine ⟨?_, by have := hx r.x hx'; omega⟩
    rcases List.mem_append.1 hr with q | q
    · exact (q1 r (by simpa using q)).below B2
    · exact (q2 r q).below B2)
  rw [hM] at ev hS
  exact ⟨v1, W1, a3, c3, W2, r1, by rw [← ev]; exact r2, hS, B2⟩
end Go.Proofs.Ytehmlpkapjdhkaa
